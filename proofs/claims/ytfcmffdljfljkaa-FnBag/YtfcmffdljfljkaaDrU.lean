/-
  Draws: what serves all of them.
-/
import Derived.Test.YtfcmffdljfljkaaDr
import Derived.Test.YtfcmffdljfljkaaDrawEs
import Derived.Test.YtfcmffdljfljkaaGround
import Derived.Deep.DeepCutAuto
import Derived.Deep.Light
import Derived.Deep.RegionLaw
import Derived.BigQuiet
namespace Go.Proofs.Ytfcmffdljfljkaa
open Go.RowKit
set_option linter.unusedVariables false
set_option linter.unusedSimpArgs false

def setTE (T : Int) (e : Ent) : Ent := ⟨T, e.cl, e.sq, e.op, e.k, e.v, e.o⟩
def clipE (T : Int) (e : Ent) : Ent := if T < e.t then setTE T e else e
theorem Dr.pick1 {w0 w : World} {g k : Nat} {v : Value} {l : List Int} {F : List (Nat × Array Value × TypeId)} (h : Dr w0 w g v l k F) (n : Nat) (hL : l.length ≤ 1048576) (hk : k ≤ 900000000) (hn : 0 < n) (hN : n ≤ 256) :
    Calls Try.prog 71 #[.pointer (some ⟨g, 0, none⟩), .int .i64 n] w fun e w' => e = .returned (.int .i64 (pickV l k n : Nat)) ∧ Dr w0 w' g v l (k + 1) F := by
  have := h.pick n hL hk hn (by omega)
  rwa [show pickK n = 1 by unfold pickK; rw [if_pos hN]] at this

theorem Dr.pickG {w0 w : World} {g k : Nat} {v : Value} {l : List Int} {F : List (Nat × Array Value × TypeId)} (h : Dr w0 w g v l k F) (n : Nat) (hL : l.length ≤ 1048576) (hk : k ≤ 900000000) (hn : 0 < n) (hN : n ≤ 256) :
    Calls Try.prog 71 #[.pointer (some ⟨g, 0, none⟩), .int .i64 n] w fun e w' => e = .returned (.int .i64 (pickV l k n : Nat)) ∧ Dr w0 w' g v l (k + 1) F ∧ w.grownBy w' (some g) := by
  have := l1pick_any g w v l k n hL hk hn (by omega) h.src
  rw [show pickK n = 1 by unfold pickK; rw [if_pos hN]] at this
  exact this.mono fun e w' ⟨h1, h2, h3⟩ => ⟨h1, h.call h2 h3, h3⟩
theorem esAt {w : World} {a : Option Addr} {cap : Nat} {l : List Ent} (h : Es w (.slice a l.length cap) l) {k : Nat} (hk : k < l.length) : ∃ b off, a = some ⟨b, off, none⟩ ∧ EntAt w b (off + k * 7) l[k] := by
  obtain ⟨_, _, a', cap', e, hc⟩ := h
  injection e with e1 _ _
  subst e1
  obtain ⟨b, off, rfl, hj⟩ := hc k hk
  exact ⟨b, off, rfl, hj k hk⟩
theorem ownAt {w : World} {B n cap : Nat} {a : Option Addr} {l : List Ent} (h : OwnE w B (.slice a n cap) l) (hn : n = l.length) {k : Nat} (hk : k < l.length) (hm : n ≤ maxLen) : ∃ q, a = some ⟨q, 0, none⟩ ∧ EntAt w q (k * 7) l[k] ∧ ∀ j, w.frozen? ⟨q, j, none⟩ = false := by
  subst hn
  obtain ⟨q, cap', e⟩ := h.shape' (by omega)
  injection e with e1 e2 e3
  subst e1 e3
  obtain ⟨b, off, e, hE⟩ := esAt (h.es hm) hk
  injection e with e
  injection e with f1 f2
  subst f1 f2
  rw [Nat.zero_add] at hE
  exact ⟨_, rfl, hE, fun j => h.2.frozenAt j⟩
theorem farGrew {w w' : World} {u u' v : Value} (hg : Grew w u w' u') (hN : ∀ q, u.ownBlock = some q → v.ownBlock ≠ some q) (hlt : ∀ q, v.ownBlock = some q → q < w.heap.size) : ∀ q, u'.ownBlock = some q → v.ownBlock ≠ some q := fun q h1 h2 => by
  have hq := hlt q h2
  rcases hg.at' with e9 | ⟨k9, e9, hk9⟩
  · exact hN q (by rw [← e9]; exact h1) h2
  · rw [h1] at e9
    injection e9 with e9
    omega
theorem ownE_set {w : World} {B : Nat} {v : Value} {l : List Ent} (h : OwnE w B v l) (q i : Nat) (x : Value) (hq : q < B) : OwnE (w.setCell ⟨q, i, none⟩ x) B v l :=
  h.block fun k hk => Below.heap_setCell _ _ _ _ (fun e => by have := (h.2.lt k hk).1; simp only at e; omega)
theorem entCells_setT (l : List Ent) : ∀ (i : Nat) (hi : i < l.length) (T : Int), entCells (l.set i (setTE T l[i])) = (entCells l).set (i * 7) (.int .i64 T) := by
  induction l with
  | nil => intro i hi; simp at hi
  | cons e l ih =>
    intro i hi T
    cases i with
    | zero => simp [entCells, Ent.cells, setTE]
    | succ i =>
      have hi' : i < l.length := by simpa using hi
      simp only [List.set_cons_succ, List.getElem_cons_succ, entCells]
      rw [ih i hi' T, List.set_append, if_neg (by simp [Ent.cells]; omega)]
      congr 2
      simp [Ent.cells]
      omega
theorem OwnE.setT {w : World} {B q c n : Nat} {l : List Ent} (h : OwnE w B (.slice (some ⟨q, 0, none⟩) n c) l) (hn : n = l.length) (i : Nat) (hi : i < l.length) (T : Int) : OwnE (w.setCell ⟨q, i * 7, none⟩ (.int .i64 T)) B (.slice (some ⟨q, 0, none⟩) n c) (l.set i (setTE T l[i])) := by
  subst hn
  refine ⟨fun e he => ?_, ?_⟩
  · rcases List.mem_or_eq_of_mem_set he with he | he
    · exact h.1 e he
    · subst he; have hf := h.1 _ (List.getElem_mem hi); exact hf
  · rw [List.length_set, entCells_setT l i hi T]
    exact (h.2.stored (i * 7) _).1
end Go.Proofs.Ytfcmffdljfljkaa
