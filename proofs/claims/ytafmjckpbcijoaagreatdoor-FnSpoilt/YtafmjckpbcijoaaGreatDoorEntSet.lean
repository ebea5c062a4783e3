/-
  A command set in a row of entries of one's own.
-/
import Derived.Test.YtafmjckpbcijoaaGreatDoorDrBc
import Derived.Test.YtafmjckpbcijoaaGreatDoorSetL
namespace Go.Proofs.YtafmjckpbcijoaaGreatDoor
open Go.RowKit
set_option linter.unusedVariables false
set_option linter.unusedSimpArgs false

def setCE (c : CmdV) (e : Ent) : Ent := ⟨e.t, c.cl, c.sq, c.op, c.ky, c.vl, c.ol⟩
def Ent.cmd (e : Ent) : CmdV := ⟨e.cl, e.sq, e.op, e.k, e.v, e.o⟩
def CmdV.cells (c : CmdV) : List Value := [.int .i64 c.cl, .int .i64 c.sq, .int .i64 c.op, .string c.ky, .string c.vl, .string c.ol]
theorem entCells_setC (c : CmdV) : ∀ (l : List Ent) (i : Nat) (hi : i < l.length), entCells (l.set i (setCE c l[i])) = setL (entCells l) (i * 7 + 1) c.cells
  | [], i, hi => by simp at hi
  | e :: l, 0, hi => by simp [entCells, Ent.cells, setCE, CmdV.cells, setL]
  | e :: l, i + 1, hi => by
    have hi' : i < l.length := by simpa using hi
    have h7 : e.cells.length = 7 := rfl
    simp only [List.set_cons_succ, List.getElem_cons_succ, entCells]
    rw [entCells_setC c l i hi', show (i + 1) * 7 + 1 = e.cells.length + (i * 7 + 1) by rw [h7]; omega, setL_app e.cells c.cells (entCells l) (i * 7 + 1)]
theorem OwnE.setC {w : World} {B q c n : Nat} {l : List Ent} (h : OwnE w B (.slice (some ⟨q, 0, none⟩) n c) l) (hn : n = l.length) (i : Nat) (hi : i < l.length) (x : CmdV) (hx : x.ky.size ≤ maxLen ∧ x.vl.size ≤ maxLen ∧ x.ol.size ≤ maxLen) : OwnE (w.setCells q (i * 7 + 1) x.cells) B (.slice (some ⟨q, 0, none⟩) n c) (l.set i (setCE x l[i])) := by
  subst hn
  refine ⟨fun e he => ?_, ?_⟩
  · rcases List.mem_or_eq_of_mem_set he with he | he
    · exact h.1 e he
    · subst he; exact hx
  · rw [List.length_set, entCells_setC x l i hi]
    exact ownsRow_cells _ _ _ _ h.2
/-- what is written in the row itself: a row grown -/
theorem grewCell {w : World} {q i n c : Nat} (x : Value) : Grew w (.slice (some ⟨q, 0, none⟩) n c) (w.setCell ⟨q, i, none⟩ x) (.slice (some ⟨q, 0, none⟩) n c) :=
  ⟨⟨rfl, rfl, rfl, by simp, fun k _ hk => Below.heap_setCell _ _ _ _ (fun e => hk (by rw [e]; rfl))⟩, .inl rfl⟩
theorem grewCells {n c q : Nat} : ∀ (vs : List Value) (w : World) (i : Nat), Grew w (.slice (some ⟨q, 0, none⟩) n c) (w.setCells q i vs) (.slice (some ⟨q, 0, none⟩) n c)
  | [], w, i => Grew.refl _ _
  | v :: vs, w, i => (grewCell v).trans (grewCells vs _ (i + 1))
/-- a draw's state and its blocks, over something that leaves these blocks -/
theorem Dr.reF {w0 w w' : World} {g k k' : Nat} {v : Value} {l : List Int} {F : List (Nat × Array Value × TypeId)} (h : Dr w0 w g v l k F) (h' : Dr w0 w' g v l k' []) (hF : ∀ x ∈ F, w'.heap[x.1]? = w.heap[x.1]?) : Dr w0 w' g v l k' F :=
  ⟨h'.grown, h'.src, h'.gl, h'.bs0, fun i x e => ⟨(h.blks i x e).1, ((h.blks i x e).2.1).keep (hF x (List.mem_of_getElem? e)), (h.blks i x e).2.2⟩, h.dis⟩
end Go.Proofs.YtafmjckpbcijoaaGreatDoor
