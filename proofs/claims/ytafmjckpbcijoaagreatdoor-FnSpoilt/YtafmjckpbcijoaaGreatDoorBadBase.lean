/-
  A call that spoils what it is given: what it leaves.
-/
import Derived.Test.YtafmjckpbcijoaaGreatDoorEntSet
namespace Go.Proofs.YtafmjckpbcijoaaGreatDoor
open Go.RowKit
set_option linter.unusedVariables false
set_option linter.unusedSimpArgs false

def entAtD (L : List Ent) (i : Nat) : Ent := L[i]?.getD ⟨0, 0, 0, 0, ⟨#[]⟩, ⟨#[]⟩, ⟨#[]⟩⟩
theorem entAtD_get {L : List Ent} {i : Nat} (h : i < L.length) : entAtD L i = L[i] := by
  unfold entAtD
  rw [List.getElem?_eq_getElem h]
  rfl
/-- what a spoilt state's call leaves -/
def BadAt (w0 w w' : World) (g : Nat) (v : Value) (l : List Int) (u : Value) (L : List Ent) (K : Nat) : Prop :=
  OwnE w' w0.heap.size u L ∧ Dr w0 w' g v l K [] ∧ ∀ b, b < w.heap.size → b ≠ g → u.ownBlock ≠ some b → w'.heap[b]? = w.heap[b]?
theorem badAt_quiet {w0 w w' : World} {g k K : Nat} {v u : Value} {l : List Int} {L : List Ent} (h : Dr w0 w g v l k []) (hO : OwnE w w0.heap.size u L) (hs : Src w' g v l K) (hg : w.grownBy w' (some g)) : BadAt w0 w w' g v l u L K :=
  ⟨hO.grown hg h.gl, h.call hs hg, fun b hb hne _ => hg.block b hb (fun e => hne (by injection e))⟩
theorem Dr.rebase {w0 w W : World} {g k k' : Nat} {v : Value} {l : List Int} {F : List (Nat × Array Value × TypeId)} (h : Dr w0 w g v l k []) (h' : Dr w W g v l k' F) : Dr w0 W g v l k' F :=
  ⟨grownBy_trans h.grown h'.grown, h'.src, h.gl, h.bs0, fun i x e => ⟨Nat.le_trans h.size (h'.blks i x e).1, (h'.blks i x e).2⟩, h'.dis⟩
theorem setCellsOther {g k : Nat} (h : k ≠ g) : ∀ (vs : List Value) (o : Nat) (w : World), (w.setCells g o vs).heap[k]? = w.heap[k]?
  | [], _, _ => rfl
  | v :: vs, o, w => (setCellsOther h vs (o + 1) _).trans (Below.heap_setCell w ⟨g, o, none⟩ v k h)
theorem six_cells (u : World) (q o : Nat) (c : CmdV) : ((((((u.setCell ⟨q, o, none⟩ (.int .i64 c.cl)).setCell ⟨q, o + 1, none⟩ (.int .i64 c.sq)).setCell ⟨q, o + 2, none⟩ (.int .i64 c.op)).setCell ⟨q, o + 3, none⟩ (.string c.ky)).setCell ⟨q, o + 4, none⟩ (.string c.vl)).setCell ⟨q, o + 5, none⟩ (.string c.ol)) = u.setCells q o c.cells := rfl
theorem longV_size (n : Nat) (x : Int) : (longV n x).size = n := by
  unfold longV
  rw [strOfNums_size, List.length_replicate]
theorem badC_fits (l : List Int) (k : Nat) (c : CmdV) (h : c.ky.size ≤ maxLen ∧ c.vl.size ≤ maxLen ∧ c.ol.size ≤ maxLen) : (badC l k c).1.ky.size ≤ maxLen ∧ (badC l k c).1.vl.size ≤ maxLen ∧ (badC l k c).1.ol.size ≤ maxLen := by
  obtain ⟨h1, h2, h3⟩ := h
  have hp : ∀ j, pickV l j 2 ≤ 2 := fun j => Nat.le_of_lt (pickV_lt l j 2 (by decide))
  have hq : ∀ j x, (longV (64 + pickV l j 2) x).size ≤ maxLen := fun j x => by rw [longV_size]; have := hp j; unfold maxLen; omega
  have hr : ∀ j x, (longV (pickV l j 2) x).size ≤ maxLen := fun j x => by rw [longV_size]; have := hp j; unfold maxLen; omega
  have h0 : (⟨#[]⟩ : ByteArray).size ≤ maxLen := Nat.zero_le _
  unfold badC
  split
  · exact ⟨h1, h2, h3⟩
  split
  · exact ⟨h1, h2, h3⟩
  split
  · exact ⟨h1, h2, h3⟩
  split
  · exact ⟨h1, h2, h3⟩
  split
  · exact ⟨h0, h2, h3⟩
  split
  · exact ⟨hq _ _, h2, h3⟩
  split
  · exact ⟨h1, hq _ _, h3⟩
  split
  · exact ⟨h1, h2, hq _ _⟩
  · exact ⟨hr _ _, hr _ _, hr _ _⟩
theorem Dr.reBad {w0 w w' : World} {g k K : Nat} {v u : Value} {l : List Int} {L L' : List Ent} {B : Nat} {F : List (Nat × Array Value × TypeId)} (h : Dr w0 w g v l k F) (hO : OwnE w B u L) (hb : BadAt w0 w w' g v l u L' K) (hT : ∀ x ∈ F, 87 ≠ x.2.2) : Dr w0 w' g v l K F :=
  h.reF hb.2.1 (fun x hx => by
    obtain ⟨i, hi⟩ := List.getElem?_of_mem hx
    have hbk := (h.blks i x hi).2.1
    exact hb.2.2 x.1 hbk.lt (by have h1 := (h.blks i x hi).1; have h2 := h.gl; omega) (ownsRow.neBlk hO.2 hbk (hT x hx)))
theorem OwnE.bad {w0 w w' : World} {g K : Nat} {v u u' : Value} {l : List Int} {L' L2 : List Ent} {B : Nat} (hN : OwnE w B u' L2) (hb : BadAt w0 w w' g v l u L' K) (hg : g < B) (hap : ∀ q, u.ownBlock = some q → u'.ownBlock ≠ some q) : OwnE w' B u' L2 :=
  hN.block fun q hq => hb.2.2 q (hN.2.lt q hq).2 (by have := (hN.2.lt q hq).1; omega) (fun e => hap q e hq)
end Go.Proofs.YtafmjckpbcijoaaGreatDoor
