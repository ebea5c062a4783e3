/-
  Bags as a law takes them: to, eq, mark, held; bytes; the answer of a put.
-/
import Derived.Test.YthondmpnleleiaaPkBagM
namespace Go.Proofs.Ythondmpnleleiaa
open Go.RowKit
set_option linter.unusedVariables false
set_option linter.unusedSimpArgs false

/-- a bag of one's own that says pl, ws -/
structure BagD (lo hi : Nat) (w : World) (va : Option Addr) (n vc : Nat) (ua : Option Addr) (m uc : Nat) (pl : List Pkt) (ws : List Int) : Prop where
  hn : n = pl.length
  hm : m = ws.length
  ex : ∃ L, cont L = pl ∧ BagR lo hi w (.slice va n vc) (.slice ua m uc) L ws
theorem BagD.keep {w w' : World} {lo hi : Nat} {va : Option Addr} {n vc : Nat} {ua : Option Addr} {m uc : Nat} {pl : List Pkt} {ws : List Int} (h : BagD lo hi w va n vc ua m uc pl ws) (hk : ∀ k, lo ≤ k → k < hi → w'.heap[k]? = w.heap[k]?) : BagD lo hi w' va n vc ua m uc pl ws := by
  obtain ⟨h1, h2, L, h3, h4⟩ := h
  exact ⟨h1, h2, L, h3, h4.keep hk⟩
theorem BagD.wide {w : World} {lo hi lo' hi' : Nat} {va : Option Addr} {n vc : Nat} {ua : Option Addr} {m uc : Nat} {pl : List Pkt} {ws : List Int} (h : BagD lo hi w va n vc ua m uc pl ws) (g1 : lo' ≤ lo) (g2 : hi ≤ hi') : BagD lo' hi' w va n vc ua m uc pl ws := by
  obtain ⟨h1, h2, L, h3, h4⟩ := h
  exact ⟨h1, h2, L, h3, h4.wide g1 g2⟩
/-- a marked one -/
structure BagM (lo hi : Nat) (w : World) (k0 : Nat) (va : Option Addr) (n vc : Nat) (ua : Option Addr) (m uc : Nat) (pl : List Pkt) : Prop where
  ex : ∃ L, cont L = pl ∧ BagR lo hi w (.slice va n vc) (.slice ua m uc) (mkPs k0 L) (mkIs (k0 + mkN (cont L)) m)
theorem BagM.keep {w w' : World} {lo hi k0 : Nat} {va : Option Addr} {n vc : Nat} {ua : Option Addr} {m uc : Nat} {pl : List Pkt} (h : BagM lo hi w k0 va n vc ua m uc pl) (hk : ∀ k, lo ≤ k → k < hi → w'.heap[k]? = w.heap[k]?) : BagM lo hi w' k0 va n vc ua m uc pl := by
  obtain ⟨L, h3, h4⟩ := h
  exact ⟨L, h3, h4.keep hk⟩
theorem toBag_d (N : Int) (a : Option Addr) (cap : Nat) (a2 : Option Addr) (cap2 : Nat) (l : List Pk) (ws : List Int) (w : World) (hv : Pks w (.slice a l.length cap) l) (hu : Ix w (.slice a2 ws.length cap2) ws) (hl : l.length + bulk (cont l) ≤ 1048576 ∧ ws.length ≤ 1048576) :
    Calls Try.prog 9 #[.agg #[.int .i64 N, .slice a l.length cap, .slice a2 ws.length cap2]] w fun e w' => ∃ z : Nat × Nat, e = .returned (.agg #[.int .i64 N, .slice (some ⟨z.1, 0, none⟩) l.length l.length, .slice (some ⟨z.2, 0, none⟩) ws.length ws.length]) ∧ BagD w.heap.size w'.heap.size w' (some ⟨z.1, 0, none⟩) l.length l.length (some ⟨z.2, 0, none⟩) ws.length ws.length (cont l) ws ∧ Below w.heap.size w w' :=
  (toBag_u N a cap a2 cap2 l ws w hv hu hl.1 hl.2).mono fun e w' ⟨q, L, q', he, hc, hR, hb⟩ => ⟨(q, q'), he, ⟨(cont_len l).symm, rfl, L, hc, hR⟩, hb⟩
theorem eqBag_d (N : Int) (va : Option Addr) (n vc : Nat) (ua : Option Addr) (m uc : Nat) (va' : Option Addr) (vc' : Nat) (ua' : Option Addr) (uc' : Nat) (pl : List Pkt) (ws : List Int) (w : World) {lo hi lo' hi' : Nat} (h : BagD lo hi w va n vc ua m uc pl ws) (h' : BagD lo' hi' w va' n vc' ua' m uc' pl ws) :
    Calls Try.prog 11 #[.agg #[.int .i64 N, .slice va n vc, .slice ua m uc], .agg #[.int .i64 N, .slice va' n vc', .slice ua' m uc']] w fun e w' => e = .returned (.bool true) ∧ Below w.heap.size w w' := by
  obtain ⟨_, _, L, h3, h4⟩ := h
  obtain ⟨_, _, L', h3', h4'⟩ := h'
  exact eqBag_u N _ _ _ _ L L' ws w h4 h4' (by rw [h3, h3'])
theorem markBag_d (N : Int) (va : Option Addr) (n vc : Nat) (ua : Option Addr) (m uc : Nat) (pl : List Pkt) (ws : List Int) (k0 : Nat) (w : World) {lo hi : Nat} (h : BagD lo hi w va n vc ua m uc pl ws) (hlo : lo ≤ w.heap.size) (hhi : hi ≤ w.heap.size) (hp : pl.length + bulk pl ≤ 1100000) (hw : ws.length ≤ 1048576) (hk0 : k0 ≤ 1000000) :
    Calls Try.prog 12 #[.agg #[.int .i64 N, .slice va n vc, .slice ua m uc], .int .i64 k0] w fun e w' => (∃ k : Nat, e = .returned (.int .i64 k) ∧ k ≤ 10000000) ∧ Turned lo hi w w' := by
  obtain ⟨_, _, L, h3, h4⟩ := h
  have hL : L.length = pl.length := by rw [← cont_len L, h3]
  refine (markBag_u N _ _ L ws k0 w h4 hlo hhi (by omega) (by rw [h3]; omega) hw (by omega)).mono fun e w' ⟨h5, _, h6⟩ => ⟨⟨_, h5, ?_⟩, h6⟩
  rw [h3]; simp only [mkN]; omega
theorem markBagR_d (N : Int) (va : Option Addr) (n vc : Nat) (ua : Option Addr) (m uc : Nat) (pl : List Pkt) (ws : List Int) (w : World) {lo hi : Nat} (h : BagD lo hi w va n vc ua m uc pl ws) (hlo : lo ≤ w.heap.size) (hhi : hi ≤ w.heap.size) (hp : pl.length ≤ 1100000) (hp2 : bulk pl ≤ 2200000) (hw : ws.length ≤ 1048576) :
    Calls Try.prog 12 #[.agg #[.int .i64 N, .slice va n vc, .slice ua m uc], .int .i64 1] w fun e w' => e = .returned (.int .i64 ((1 + mkN pl + m : Nat) : Int)) ∧ BagM lo hi w' 1 va n vc ua m uc pl ∧ Turned lo hi w w' := by
  obtain ⟨_, hm, L, h3, h4⟩ := h
  subst hm
  have hL : L.length = pl.length := by rw [← cont_len L, h3]
  refine (markBag_u N _ _ L ws 1 w h4 hlo hhi (by omega) (by rw [h3]; omega) hw (by omega)).mono fun e w' ⟨h5, h6, h7⟩ => ⟨by rw [h5, h3], ⟨L, h3, h6⟩, h7⟩
theorem heldBag_d (N : Int) (va : Option Addr) (n vc : Nat) (ua : Option Addr) (m uc : Nat) (pl : List Pkt) (w : World) {lo hi : Nat} (h : BagM lo hi w 1 va n vc ua m uc pl) (hhi : hi ≤ w.heap.size) (hp : pl.length ≤ 1100000) (hp2 : bulk pl ≤ 2200000) (hw : m ≤ 1048576) :
    Calls Try.prog 13 #[.agg #[.int .i64 N, .slice va n vc, .slice ua m uc], .int .i64 1] w fun e w' => e = .returned (.int .i64 ((1 + mkN pl + m : Nat) : Int)) ∧ Below w.heap.size w w' := by
  obtain ⟨L, h3, h4⟩ := h
  have hL : L.length = pl.length := by rw [← cont_len L, h3]
  refine (heldBag_u N _ _ L m 1 w h4 hhi (by omega) (by rw [h3]; omega) hw (by omega)).mono fun e w' ⟨h5, h6⟩ => ⟨by rw [h5, h3], h6⟩
theorem toByteS_u (v : Value) (l : List Int) (w : World) (hv : Bs w v l) (hl : l.length ≤ 1048576) :
    Calls Try.prog 15 #[v] w fun e w' => ∃ q, e = .returned (.slice (some ⟨q, 0, none⟩) l.length l.length) ∧ BytesN w.heap.size w'.heap.size w' (.slice (some ⟨q, 0, none⟩) l.length l.length) l ∧ Below w.heap.size w w' :=
  (toByteS_own v l w hv hl).mono fun e w' ⟨q, h1, _, _, h2, h3⟩ => ⟨q, h1, .of h2, h3⟩
theorem BytesN.ofTo {w w' : World} {q : Nat} {l : List Int} (h : Own w' w.heap.size (.slice (some ⟨q, 0, none⟩) l.length l.length) l) : BytesN w.heap.size w'.heap.size w' (.slice (some ⟨q, 0, none⟩) l.length l.length) l := .of h
theorem eqByteS_d (a a' : Option Addr) (n cap n' cap' : Nat) (l : List Int) (w : World) {lo hi lo' hi' : Nat} (h : BytesN lo hi w (.slice a n cap) l) (h' : BytesN lo' hi' w (.slice a' n' cap') l) (hl : l.length ≤ maxLen) :
    Calls Try.prog 18 #[.slice a n cap, .slice a' n' cap'] w fun e w' => e = .returned (.bool true) ∧ Below w.heap.size w w' := eqByteS_same _ _ l w (h.bs hl) (h'.bs hl)
theorem markByteS_d (v : Value) (l : List Int) (k0 : Nat) (w : World) {lo hi : Nat} (h : BytesN lo hi w v l) (hl : l.length ≤ 1048576) (hk0 : k0 ≤ 10000000) :
    Calls Try.prog 19 #[v, .int .i64 k0] w fun e w' => (∃ k : Nat, e = .returned (.int .i64 k) ∧ k ≤ 20000000) ∧ Turned lo hi w w' :=
  (markByteS_any v l k0 w lo h.own (by omega) (by omega)).mono fun e w' ⟨h5, _, h6⟩ => ⟨⟨_, h5, by omega⟩, Turned.rows h6 fun k e => h.lt k e⟩
theorem eqPutAnswer_d (c i N : Int) (va : Option Addr) (n vc : Nat) (ua : Option Addr) (m uc : Nat) (va' : Option Addr) (vc' : Nat) (ua' : Option Addr) (uc' : Nat) (pl : List Pkt) (ws : List Int) (w : World) {lo hi lo' hi' : Nat} (h : BagD lo hi w va n vc ua m uc pl ws) (h' : BagD lo' hi' w va' n vc' ua' m uc' pl ws) (hhi : hi ≤ w.heap.size) (hhi' : hi' ≤ w.heap.size) :
    Calls Try.prog 17 #[.agg #[.int .i64 c, .int .i64 i, .int .i64 N, .slice va n vc, .slice ua m uc], .agg #[.int .i64 c, .int .i64 i, .int .i64 N, .slice va' n vc', .slice ua' m uc']] w fun e w' => e = .returned (.bool true) ∧ Below w.heap.size w w' := by
  obtain ⟨_, _, L, h3, h4⟩ := h
  obtain ⟨_, _, L', h3', h4'⟩ := h'
  exact eqPutAnswer_u c i N _ _ _ _ L L' ws w h4 h4' (by rw [h3, h3']) hhi hhi'
theorem markPutAnswer_d (c i N : Int) (va : Option Addr) (n vc : Nat) (ua : Option Addr) (m uc : Nat) (pl : List Pkt) (ws : List Int) (w : World) {lo hi : Nat} (h : BagD lo hi w va n vc ua m uc pl ws) (hlo : lo ≤ w.heap.size) (hhi : hi ≤ w.heap.size) (hp : pl.length ≤ 1100000) (hp2 : bulk pl ≤ 2200000) (hw : ws.length ≤ 1048576) :
    Calls Try.prog 20 #[.agg #[.int .i64 c, .int .i64 i, .int .i64 N, .slice va n vc, .slice ua m uc], .int .i64 1] w fun e w' => e = .returned (.int .i64 ((1 + mkN pl + m : Nat) : Int)) ∧ BagM lo hi w' 1 va n vc ua m uc pl ∧ Turned lo hi w w' := by
  obtain ⟨_, hm, L, h3, h4⟩ := h
  subst hm
  have hL : L.length = pl.length := by rw [← cont_len L, h3]
  refine (markPutAnswer_u c i N _ _ L ws w h4 hlo hhi (by omega) (by rw [h3]; omega) hw).mono fun e w' ⟨h5, h6, h7⟩ => ⟨by rw [h5, h3], ⟨L, h3, h6⟩, h7⟩
theorem heldPutAnswer_d (c i N : Int) (va : Option Addr) (n vc : Nat) (ua : Option Addr) (m uc : Nat) (pl : List Pkt) (w : World) {lo hi : Nat} (h : BagM lo hi w 1 va n vc ua m uc pl) (hhi : hi ≤ w.heap.size) (hp : pl.length ≤ 1100000) (hp2 : bulk pl ≤ 2200000) (hw : m ≤ 1048576) :
    Calls Try.prog 21 #[.agg #[.int .i64 c, .int .i64 i, .int .i64 N, .slice va n vc, .slice ua m uc], .int .i64 1] w fun e w' => e = .returned (.int .i64 ((1 + mkN pl + m : Nat) : Int)) ∧ Below w.heap.size w w' := by
  obtain ⟨L, h3, h4⟩ := h
  have hL : L.length = pl.length := by rw [← cont_len L, h3]
  refine (heldPutAnswer_u c i N _ _ L m w h4 hhi (by omega) (by rw [h3]; omega) hw).mono fun e w' ⟨h5, h6⟩ => ⟨by rw [h5, h3], h6⟩
end Go.Proofs.Ythondmpnleleiaa
