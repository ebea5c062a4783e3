/-
  Slices of entries: what a slice value holds.
-/
import Derived.Test.YtnoihfincifphaaBytes
namespace Go.Proofs.Ytnoihfincifphaa
open Go.RowKit
set_option linter.unusedVariables false

/-- an entry -/
structure Ent where
  t : Int
  cl : Int
  sq : Int
  op : Int
  k : ByteArray
  v : ByteArray
  o : ByteArray

def Ent.fits (e : Ent) : Prop := e.k.size ≤ maxLen ∧ e.v.size ≤ maxLen ∧ e.o.size ≤ maxLen

/-- the seven cells of an entry -/
def EntAt (w : World) (b off : Nat) (e : Ent) : Prop :=
  w.cell? ⟨b, off, none⟩ = some (.int .i64 e.t) ∧ w.cell? ⟨b, off + 1, none⟩ = some (.int .i64 e.cl) ∧ w.cell? ⟨b, off + 2, none⟩ = some (.int .i64 e.sq) ∧ w.cell? ⟨b, off + 3, none⟩ = some (.int .i64 e.op) ∧
  w.cell? ⟨b, off + 4, none⟩ = some (.string e.k) ∧ w.cell? ⟨b, off + 5, none⟩ = some (.string e.v) ∧ w.cell? ⟨b, off + 6, none⟩ = some (.string e.o)

theorem EntAt.below {w w' : World} {b off : Nat} {e : Ent} (h : EntAt w b off e) (hb : Below w.heap.size w w') : EntAt w' b off e := by
  obtain ⟨h0, h1, h2, h3, h4, h5, h6⟩ := h
  have hl := cell_lt h0
  exact ⟨(hb.cell hl).trans h0, (hb.cell hl).trans h1, (hb.cell hl).trans h2, (hb.cell hl).trans h3, (hb.cell hl).trans h4, (hb.cell hl).trans h5, (hb.cell hl).trans h6⟩

/-- the slice value v holds, in the world w, the entries l -/
def Es (w : World) (v : Value) (l : List Ent) : Prop :=
  l.length ≤ maxLen ∧ (∀ e ∈ l, e.fits) ∧
  ∃ a cap, v = .slice a l.length cap ∧ ∀ i, i < l.length → ∃ b off, a = some ⟨b, off, none⟩ ∧ ∀ j (h : j < l.length), EntAt w b (off + j * 7) l[j]

theorem Es.below {w w' : World} {v : Value} {l : List Ent} (h : Es w v l) (hb : Below w.heap.size w w') : Es w' v l := by
  obtain ⟨hl, hf, a, cap, rfl, hc⟩ := h
  refine ⟨hl, hf, a, cap, rfl, fun i hi => ?_⟩
  obtain ⟨b, off, rfl, hj⟩ := hc i hi
  exact ⟨b, off, rfl, fun j hj' => (hj j hj').below hb⟩

theorem Es.block {w w' : World} {g n cap : Nat} {l : List Ent} (h : Es w (.slice (some ⟨g, 0, none⟩) n cap) l) (hb : w'.heap[g]? = w.heap[g]?) : Es w' (.slice (some ⟨g, 0, none⟩) n cap) l := by
  obtain ⟨hl, hf, a, cap', e, hc⟩ := h
  refine ⟨hl, hf, a, cap', e, fun i hi => ?_⟩
  obtain ⟨b, off, rfl, hj⟩ := hc i hi
  simp only [Value.slice.injEq, Option.some.injEq, Addr.mk.injEq, and_true] at e
  obtain ⟨⟨rfl, rfl⟩, _⟩ := e
  have hcc : ∀ o, w'.cell? ⟨g, o, none⟩ = w.cell? ⟨g, o, none⟩ := fun o => World.cell?_of_block (w := w) hb
  refine ⟨g, 0, rfl, fun j hj' => ?_⟩
  obtain ⟨h0, h1, h2, h3, h4, h5, h6⟩ := hj j hj'
  exact ⟨(hcc _).trans h0, (hcc _).trans h1, (hcc _).trans h2, (hcc _).trans h3, (hcc _).trans h4, (hcc _).trans h5, (hcc _).trans h6⟩
end Go.Proofs.Ytnoihfincifphaa
