/-
  Packets of one's own beside draws; what spec.l3drawBag draws (pure).
-/
import Derived.Test.YtfcmffdljfljkaaDrMg
import Derived.Test.YtfcmffdljfljkaaDrRow
import Derived.Test.YtfcmffdljfljkaaGround2
import Derived.Test.YtfcmffdljfljkaaEncMsg
namespace Go.Proofs.Ytfcmffdljfljkaa
open Go.RowKit
set_option linter.unusedVariables false
set_option linter.unusedSimpArgs false

section
variable {w w' : World} {B : Nat} {v : Value} {l : List Pk}
theorem OwnP.blocks (h : OwnP w B v l) (h1 : ∀ k, v.ownBlock = some k → w'.heap[k]? = w.heap[k]?) (h2 : ∀ p ∈ l, ∀ k, p.2.ownBlock = some k → w'.heap[k]? = w.heap[k]?) : OwnP w' B v l := by
  refine ⟨⟨h.row.1, ?_⟩, fun p hp => ⟨(h.bytes p hp).1.block (h2 p hp), (h.bytes p hp).2⟩, h.off, h.apart⟩
  rcases h.row.2 with h' | ⟨g, cap, cur, hv, hg, hh, r⟩
  · exact .inl h'
  · exact .inr ⟨g, cap, cur, hv, hg, (h1 g (by rw [hv]; rfl)).trans hh, r⟩
theorem OwnP.grownD {g : Nat} (h : OwnP w B v l) (hg : w.grownBy w' (some g)) (hgB : g < B) : OwnP w' B v l :=
  h.keep fun k hk hlt => hg.block k hlt (by intro e; injection e with e; omega)
/-- a cell set in a block that is no packet's and no bytes' -/
theorem OwnP.setB {b j : Nat} {C : Array Value} {t : TypeId} (h : OwnP w B v l) (hb : Blk w b C t) (h1 : 60 ≠ t) (h2 : 5 ≠ t) (y : Value) : OwnP (w.setCell ⟨b, j, none⟩ y) B v l := by
  have hk : ∀ k, k ≠ b → (w.setCell ⟨b, j, none⟩ y).heap[k]? = w.heap[k]? := fun k hk => Below.heap_setCell _ _ _ _ hk
  refine h.blocks (fun k e => hk k fun e' => ?_) (fun p hp k e => hk k fun e' => ?_)
  · exact ownsRow.neBlk h.row hb h1 (by rw [e, e'])
  · exact ownsRow.neBlk (h.bytes p hp).1.2 hb h2 (by rw [e, e'])
theorem OwnP.rowB {b : Nat} {C C' : Array Value} {t : TypeId} (h : OwnP w B v l) (hb : Blk w b C t) (h1 : 60 ≠ t) (h2 : 5 ≠ t) : OwnP (w.setRow b C') B v l := by
  have hk : ∀ k, k ≠ b → (w.setRow b C').heap[k]? = w.heap[k]? := fun k hk => setRow_other _ _ _ _ hk
  refine h.blocks (fun k e => hk k fun e' => ?_) (fun p hp k e => hk k fun e' => ?_)
  · exact ownsRow.neBlk h.row hb h1 (by rw [e, e'])
  · exact ownsRow.neBlk (h.bytes p hp).1.2 hb h2 (by rw [e, e'])
theorem OwnP.neBlk {b : Nat} {C : Array Value} {t : TypeId} (h : OwnP w B v l) (hb : Blk w b C t) (h1 : 60 ≠ t) : v.ownBlock ≠ some b := ownsRow.neBlk h.row hb h1
/-- .. and a row of another type grown -/
theorem OwnP.grewB {u u' : Value} (h : OwnP w B v l) (hg : Grew w u w' u') (h1 : ∀ k, v.ownBlock = some k → u.ownBlock ≠ some k) (h2 : ∀ p ∈ l, ∀ k, p.2.ownBlock = some k → u.ownBlock ≠ some k) : OwnP w' B v l :=
  h.blocks (fun k e => hg.block (h.row.lt k e).2 (h1 k e)) (fun p hp k e => hg.block ((h.bytes p hp).1.2.lt k e).2 (h2 p hp k e))
end
theorem OwnI.setB {w : World} {B b j : Nat} {v : Value} {l : List Int} {C : Array Value} {t : TypeId} (h : OwnI w B v l) (hb : Blk w b C t) (h1 : 3 ≠ t) (y : Value) : OwnI (w.setCell ⟨b, j, none⟩ y) B v l :=
  h.block fun k e => Below.heap_setCell _ _ _ _ fun e' => ownsRow.neBlk h hb h1 (by rw [e, e'])
theorem OwnI.rowB {w : World} {B b : Nat} {v : Value} {l : List Int} {C C' : Array Value} {t : TypeId} (h : OwnI w B v l) (hb : Blk w b C t) (h1 : 3 ≠ t) : OwnI (w.setRow b C') B v l :=
  h.block fun k e => setRow_other _ _ _ _ fun e' => ownsRow.neBlk h hb h1 (by rw [e, e'])
theorem infoBagB : (Try.prog.info? 29).map (·.size) = some 3 := by kernel_rfl

/-- a drawn receiver, and where the draws stand -/
def pkTo (l : List Int) (k : Nat) (fr : Int) : Int × Nat :=
  if pickV l (k + 1) 5 = 0 then (11 + ((pickV l (k + 1 + 1) 8 : Nat) : Int), k + 1 + 1 + 1) else (1 + (fr + ((pickV l k 6 : Nat) : Int)) % 7, k + 1 + 1)
def pkBs (l : List Int) (k i : Nat) : List Int × Nat :=
  if pickV l (k + 1) 3 = 0 then (encMsg (msgD l (k + 1 + 1)).ki (msgD l (k + 1 + 1)).fr (msgD l (k + 1 + 1)).td (msgD l (k + 1 + 1)).tm (msgD l (k + 1 + 1)).li (msgD l (k + 1 + 1)).lt (msgD l (k + 1 + 1)).cm (msgD l (k + 1 + 1)).ok (msgD l (k + 1 + 1)).hi (msgD l (k + 1 + 1)).es, (msgD l (k + 1 + 1)).k) else ([nextV l k, (i : Int)], k + 1 + 1)
/-- one packet more -/
def pkSt (l : List Int) (i : Nat) (s : Int × List Pkt × Nat) : Int × List Pkt × Nat :=
  (s.1 + 1 + ((pickV l (pkBs l (pkTo l (s.2.2 + 1) (1 + ((pickV l s.2.2 7 : Nat) : Int))).2 i).2 2 : Nat) : Int),
   s.2.1 ++ [⟨s.1, 1 + ((pickV l s.2.2 7 : Nat) : Int), (pkTo l (s.2.2 + 1) (1 + ((pickV l s.2.2 7 : Nat) : Int))).1, (pkBs l (pkTo l (s.2.2 + 1) (1 + ((pickV l s.2.2 7 : Nat) : Int))).2 i).1⟩],
   (pkBs l (pkTo l (s.2.2 + 1) (1 + ((pickV l s.2.2 7 : Nat) : Int))).2 i).2 + 1)
def pkDr (l : List Int) (s : Int × List Pkt × Nat) : Nat → Int × List Pkt × Nat
  | 0 => s
  | i + 1 => pkSt l i (pkDr l s i)
/-- the walls from j on: those drawn, and where the draws stand -/
def waDr (l : List Int) : Nat → Nat → List Int × Nat
  | k, 0 => ([], k)
  | k, j + 1 => (if pickV l (waDr l k j).2 6 = 0 then (waDr l k j).1 ++ [((j + 1 : Nat) : Int)] else (waDr l k j).1, (waDr l k j).2 + 1)
theorem waDr_k (l : List Int) (k j : Nat) : (waDr l k j).2 = k + j ∧ (waDr l k j).1.length ≤ j := by
  induction j with
  | zero => exact ⟨rfl, Nat.le_refl _⟩
  | succ j ih =>
    have e : waDr l k (j + 1) = (if pickV l (waDr l k j).2 6 = 0 then (waDr l k j).1 ++ [((j + 1 : Nat) : Int)] else (waDr l k j).1, (waDr l k j).2 + 1) := rfl
    rw [e]
    refine ⟨by dsimp only; omega, ?_⟩
    dsimp only
    split
    · rw [List.length_append]; simp; omega
    · omega
end Go.Proofs.Ytfcmffdljfljkaa
