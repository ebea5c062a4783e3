/-
  spec.l2drawRecords, plain.
-/
import Derived.Test.YtjoflnnomebkpaaDoorDrNx
import Derived.Test.YtjoflnnomebkpaaDoorDrawBr
import Derived.Test.YtjoflnnomebkpaaDoorGround
namespace Go.Proofs.YtjoflnnomebkpaaDoor
open Go.RowKit
set_option linter.unusedVariables false
set_option linter.unusedSimpArgs false

/-- an entry whose term is within its bounds -/
def entT0 (e : Ent) : Prop := 0 ≤ e.t ∧ e.t ≤ 1073741824 ∧ e.fits
theorem entsD_mem (l : List Int) (k : Nat) (t : Int) (n : Nat) (h0 : 0 ≤ t) (h1 : t ≤ 1073741824) : ∀ e ∈ (entsD l k t n).1, entT0 e := by
  induction n with
  | zero => intro e he; simp [entsD] at he
  | succ n ih =>
    intro e he
    rw [entsD] at he
    rcases List.mem_append.1 he with he | he
    · exact ih e he
    · simp only [List.mem_singleton] at he
      have h2 := entsD_t l k t n h0 h1
      have h3 := entT_le l (entsD l k t n).2.1 (entsD l k t n).2.2 (by omega) h2.2
      have h4 := entE_fits l (entsD l k t n).2.1 (entsD l k t n).2.2
      subst he
      refine ⟨?_, ?_, h4⟩
      all_goals unfold entE; split <;> (dsimp only; omega)
theorem clipE_ok {T : Int} {e : Ent} (h0 : 0 ≤ T) (h1 : T ≤ 1073741824) (h : entT0 e) : entT0 (clipE T e) := by
  unfold clipE
  split
  · exact ⟨h0, h1, h.2.2⟩
  · exact h
theorem nxP_ok (l : List Int) (k : Nat) (t vo : Int) (h0 : 0 ≤ t) (h1 : t ≤ 1073741824) : 0 ≤ (nxP l k t vo).1 ∧ (nxP l k t vo).1 ≤ 1073741824 ∧ (nxP l k t vo).2.2 ≤ k + 3 := by
  unfold nxP
  split
  · dsimp only; omega
  · split <;> (dsimp only; omega)
theorem nxQ_ok (l : List Int) (k n : Nat) : (nxQ l k n).1 ≤ n ∧ (nxQ l k n).2 ≤ k + 5 := by
  unfold nxQ
  have := pickK_le (n + 1)
  have := pickV_lt l (k + 1) (n + 1) (by omega)
  split <;> (dsimp only; omega)
theorem lowV_ok (L : List Ent) (j : Nat) (h : ∀ e ∈ L, entT0 e) : 0 ≤ lowV L j ∧ lowV L j ≤ 1073741824 := by
  unfold lowV
  split
  · omega
  · cases e : L[j - 1]? with
    | none => simp
    | some x => have := h x (List.mem_of_getElem? e); exact ⟨this.1, this.2.1⟩
theorem nx_ok (l : List Int) (k : Nat) (t vo : Int) (L : List Ent) (n : Nat) (h0 : 0 ≤ t) (h1 : t ≤ 1073741824) (h : ∀ e ∈ L, entT0 e) :
    0 ≤ nxT l k t vo L n ∧ nxT l k t vo L n ≤ 1073741824 ∧ (nxL l k t vo L n).length ≤ L.length + n ∧ (∀ e ∈ nxL l k t vo L n, entT0 e) ∧ nxK l k t vo L n ≤ k + 9 + 16 * n := by
  have hP := nxP_ok l k t vo h0 h1
  have hQ := nxQ_ok l (nxP l k t vo).2.2 L.length
  have hlw := lowV_ok L (nxQ l (nxP l k t vo).2.2 L.length).1 h
  have hm := pickV_lt l (nxQ l (nxP l k t vo).2.2 L.length).2 (n + 1) (by omega)
  have hk := entsD_k l ((nxQ l (nxP l k t vo).2.2 L.length).2 + 1) (lowV L (nxQ l (nxP l k t vo).2.2 L.length).1) (pickV l (nxQ l (nxP l k t vo).2.2 L.length).2 (n + 1))
  have hl := entsD_len l ((nxQ l (nxP l k t vo).2.2 L.length).2 + 1) (lowV L (nxQ l (nxP l k t vo).2.2 L.length).1) (pickV l (nxQ l (nxP l k t vo).2.2 L.length).2 (n + 1))
  have hme := entsD_mem l ((nxQ l (nxP l k t vo).2.2 L.length).2 + 1) (lowV L (nxQ l (nxP l k t vo).2.2 L.length).1) (pickV l (nxQ l (nxP l k t vo).2.2 L.length).2 (n + 1)) hlw.1 hlw.2
  unfold nxT nxL nxK nxE
  refine ⟨hP.1, hP.2.1, ?_, ?_, ?_⟩
  · rw [List.length_append, List.length_take]
    split
    · dsimp only; rw [List.length_map]; omega
    · simp; omega
  · intro e he
    rcases List.mem_append.1 he with he | he
    · exact h e (List.mem_of_mem_take he)
    · split at he
      · dsimp only at he
        obtain ⟨x, hx, rfl⟩ := List.mem_map.1 he
        exact clipE_ok hP.1 hP.2.1 (hme x hx)
      · simp at he
  · split
    · dsimp only; omega
    · dsimp only; omega

/-- what is drawn so far -/
structure RsS where
  rs : List Rec
  t : Int
  vo : Int
  L : List Ent
  k : Nat
def rsStep (l : List Int) (s : RsS) : RsS :=
  ⟨s.rs ++ planL s.t s.vo s.L (nxT l s.k s.t s.vo s.L 4) (nxV l s.k s.t s.vo s.L 4) (nxL l s.k s.t s.vo s.L 4), nxT l s.k s.t s.vo s.L 4, nxV l s.k s.t s.vo s.L 4, nxL l s.k s.t s.vo s.L 4, nxK l s.k s.t s.vo s.L 4⟩
def rsRun (l : List Int) (k0 : Nat) : Nat → RsS
  | 0 => ⟨[], 0, 0, [], k0⟩
  | i + 1 => rsStep l (rsRun l k0 i)
structure RsOk (k0 i : Nat) (s : RsS) : Prop where
  t0 : 0 ≤ s.t
  t1 : s.t ≤ 1073741824
  len : s.L.length ≤ 4 * i
  ents : ∀ e ∈ s.L, entT0 e
  rlen : s.rs.length ≤ 60 * i
  rfits : ∀ r ∈ s.rs, r.e.fits
  k : s.k ≤ k0 + 100 * i
theorem addsL_mem : ∀ (i : Nat) (es : List Ent) (r : Rec), r ∈ addsL i es → r.e ∈ es
  | _, [], r, h => by simp [addsL] at h
  | i, e :: es, r, h => by
    simp only [addsL, List.mem_cons] at h
    rcases h with h | h
    · subst h; exact List.mem_cons_self ..
    · exact List.mem_cons_of_mem _ (addsL_mem (i + 1) es r h)
theorem zeroE_fits : zeroE.fits := ⟨(by decide : (⟨#[]⟩ : ByteArray).size ≤ maxLen), (by decide : (⟨#[]⟩ : ByteArray).size ≤ maxLen), (by decide : (⟨#[]⟩ : ByteArray).size ≤ maxLen)⟩
theorem planL_fits (t v : Int) (l : List Ent) (t' v' : Int) (l' : List Ent) (h : ∀ e ∈ l', e.fits) : ∀ r ∈ planL t v l t' v' l', r.e.fits := by
  intro r hr
  unfold planL planAll at hr
  split at hr
  · rcases List.mem_append.1 hr with hr | hr
    · rcases List.mem_append.1 hr with hr | hr
      · unfold hardL at hr
        split at hr
        · simp only [List.mem_singleton] at hr; subst hr; exact zeroE_fits
        · simp at hr
      · unfold cutL at hr
        split at hr
        · simp only [List.mem_singleton] at hr; subst hr; exact zeroE_fits
        · simp at hr
    · exact h _ (List.mem_of_mem_drop (addsL_mem _ _ r hr))
  · simp at hr
theorem planL_len2 (t v : Int) (l : List Ent) (t' v' : Int) (l' : List Ent) : (planL t v l t' v' l').length ≤ l'.length + 2 := by
  unfold planL planAll
  split
  · have h1 := hardL_len t v t' v'
    have h2 := cutL_len l l'
    simp only [List.length_append, addsL_len, List.length_drop]
    omega
  · simp
theorem rsRun_ok (l : List Int) (k0 : Nat) : ∀ i, i ≤ 13 → RsOk k0 i (rsRun l k0 i)
  | 0, _ => ⟨Int.le_refl _, by show (0 : Int) ≤ _; omega, Nat.le_refl _, fun e he => by simp [rsRun] at he, Nat.le_refl _, fun r hr => by simp [rsRun] at hr, Nat.le_refl _⟩
  | i + 1, hi => by
    have ih := rsRun_ok l k0 i (by omega)
    rw [rsRun]
    generalize rsRun l k0 i = s at ih
    have h := nx_ok l s.k s.t s.vo s.L 4 ih.t0 ih.t1 ih.ents
    have h2 := planL_len2 s.t s.vo s.L (nxT l s.k s.t s.vo s.L 4) (nxV l s.k s.t s.vo s.L 4) (nxL l s.k s.t s.vo s.L 4)
    have h3 := planL_fits s.t s.vo s.L (nxT l s.k s.t s.vo s.L 4) (nxV l s.k s.t s.vo s.L 4) (nxL l s.k s.t s.vo s.L 4) (fun e he => (h.2.2.2.1 e he).2.2)
    have h4 := ih.len
    have h5 := ih.rlen
    have h6 := ih.k
    refine ⟨h.1, h.2.1, ?_, h.2.2.2.1, ?_, ?_, ?_⟩
    · show (nxL l s.k s.t s.vo s.L 4).length ≤ _; omega
    · show (s.rs ++ _).length ≤ _; rw [List.length_append]; omega
    · intro r hr
      rcases List.mem_append.1 hr with hr | hr
      · exact ih.rfits r hr
      · exact h3 r hr
    · show nxK l s.k s.t s.vo s.L 4 ≤ _; omega
def getR (rs : List Rec) (i : Nat) : Rec := rs[i]?.getD ⟨0, 0, 0, 0, zeroE⟩
theorem getR_eq {rs : List Rec} {i : Nat} (h : i < rs.length) : getR rs i = rs[i] := by unfold getR; rw [List.getElem?_eq_getElem h]; rfl
/-- now and then one is spoilt, or two change places -/
def rsTail (l : List Int) (rs : List Rec) (k : Nat) : List Rec × Nat :=
  if pickV l k 6 = 0 ∧ 0 < rs.length then
    (rs.set (pickV l (k + 1) rs.length) (badR l (k + 1 + pickK rs.length) (getR rs (pickV l (k + 1) rs.length))), badRK l (k + 1 + pickK rs.length))
  else if pickV l k 6 = 1 ∧ 1 < rs.length then
    ((rs.set (pickV l (k + 1) rs.length) (getR rs (pickV l (k + 1 + pickK rs.length) rs.length))).set (pickV l (k + 1 + pickK rs.length) rs.length) (getR rs (pickV l (k + 1) rs.length)), k + 1 + pickK rs.length + pickK rs.length)
  else (rs, k + 1)
theorem set_fits {rs : List Rec} {i : Nat} {r : Rec} (h : ∀ r ∈ rs, r.e.fits) (hr : r.e.fits) : ∀ x ∈ rs.set i r, x.e.fits := fun x hx => by
  rcases List.mem_or_eq_of_mem_set hx with hx | hx
  · exact h x hx
  · subst hx; exact hr
theorem getR_fits {rs : List Rec} (h : ∀ r ∈ rs, r.e.fits) (i : Nat) : (getR rs i).e.fits := by
  unfold getR
  cases e : rs[i]? with
  | none => exact zeroE_fits
  | some x => exact h x (List.mem_of_getElem? e)
theorem rsTail_ok (l : List Int) (rs : List Rec) (k : Nat) (h : ∀ r ∈ rs, r.e.fits) : (rsTail l rs k).1.length = rs.length ∧ (∀ r ∈ (rsTail l rs k).1, r.e.fits) ∧ (rsTail l rs k).2 ≤ k + 10 := by
  have h1 := pickK_le rs.length
  have h2 := badRK_le l (k + 1 + pickK rs.length)
  unfold rsTail
  split
  · exact ⟨by simp, set_fits h (badR_fits (getR_fits h _)), by dsimp only; omega⟩
  · split
    · exact ⟨by simp, set_fits (set_fits h (getR_fits h _)) (getR_fits h _), by dsimp only; omega⟩
    · exact ⟨rfl, h, by dsimp only; omega⟩
/-- the records, and where the draws stand behind them -/
def recsD (l : List Int) (k size : Nat) : List Rec × Nat := rsTail l (rsRun l (k + 1) (1 + pickV l k (2 + size / 40))).rs (rsRun l (k + 1) (1 + pickV l k (2 + size / 40))).k
theorem recsD_ok (l : List Int) (k size : Nat) (hs : size ≤ 400) : (recsD l k size).1.length ≤ 720 ∧ (∀ r ∈ (recsD l k size).1, r.e.fits) ∧ (recsD l k size).2 ≤ k + 1300 := by
  have hp := pickV_lt l k (2 + size / 40) (by omega)
  have h := rsRun_ok l (k + 1) (1 + pickV l k (2 + size / 40)) (by omega)
  have h2 := rsTail_ok l (rsRun l (k + 1) (1 + pickV l k (2 + size / 40))).rs (rsRun l (k + 1) (1 + pickV l k (2 + size / 40))).k h.rfits
  have h3 := h.rlen
  have h4 := h.k
  unfold recsD
  exact ⟨by rw [h2.1]; omega, h2.2.1, by omega⟩

/-! ### records in memory of one's own: stored into, appended -/
def setL (xs : List Value) : Nat → List Value → List Value
  | _, [] => xs
  | o, v :: vs => setL (xs.set o v) (o + 1) vs
theorem setL_app (a : List Value) : ∀ (vs xs : List Value) (o : Nat), setL (a ++ xs) (a.length + o) vs = a ++ setL xs o vs
  | [], _, _ => rfl
  | v :: vs, xs, o => by
    rw [setL, setL, List.set_append, if_neg (by omega), show a.length + o - a.length = o by omega]
    exact setL_app a vs (xs.set o v) (o + 1)
theorem recCells_set (r : Rec) : ∀ (l : List Rec) (i : Nat), i < l.length → setL (recCells l) (i * 11) r.cells = recCells (l.set i r)
  | [], i, h => by simp at h
  | e :: l, 0, h => by simp [recCells, Rec.cells, setL]
  | e :: l, i + 1, h => by
    rw [List.set_cons_succ, recCells, recCells, ← recCells_set r l i (by simpa using h)]
    have := setL_app e.cells r.cells (recCells l) (i * 11)
    rw [Rec.cells_len] at this
    rw [← this]
    congr 1
    omega
theorem ownsRow_cells {base e size g n cap : Nat} : ∀ (vs : List Value) (w : World) (xs : List Value) (o : Nat), w.ownsRow base e size (.slice (some ⟨g, 0, none⟩) n cap) n xs → (w.setCells g o vs).ownsRow base e size (.slice (some ⟨g, 0, none⟩) n cap) n (setL xs o vs)
  | [], _, _, _, h => h
  | v :: vs, w, xs, o, h => ownsRow_cells vs (w.setCell ⟨g, o, none⟩ v) (xs.set o v) (o + 1) (h.stored o v).1
theorem OwnR.setR {w : World} {B q n c : Nat} {l : List Rec} (h : OwnR w B (.slice (some ⟨q, 0, none⟩) n c) l) (hn : n = l.length) (i : Nat) (hi : i < l.length) (r : Rec) : OwnR (w.setCells q (i * 11) r.cells) B (.slice (some ⟨q, 0, none⟩) n c) (l.set i r) := by
  subst hn
  unfold OwnR
  rw [List.length_set, ← recCells_set r l i hi]
  exact ownsRow_cells r.cells w _ _ h
theorem OwnR.at11 {w : World} {B n c : Nat} {a : Option Addr} {l : List Rec} (h : OwnR w B (.slice a n c) l) (hn : n = l.length) (i : Nat) (hi : i < l.length) : ∃ q, a = some ⟨q, 0, none⟩ ∧ w.rangeAt q (i * 11) l[i].cells ∧ w.there q (i * 11) 11 := by
  subst hn
  obtain ⟨q, cap', e⟩ := h.shape' (by omega)
  injection e with e1 e2 e3
  subst e1 e3
  refine ⟨q, rfl, fun j v hj => ?_, fun j hj => ?_⟩
  · have hj11 : j < 11 := by have := (List.getElem?_eq_some_iff.1 hj).1; rwa [Rec.cells_len] at this
    rw [h.cellAt (i * 11 + j) (by omega), recCells_get l i hi j hj11]
    exact hj
  · refine ⟨?_, h.frozenAt _⟩
    rw [h.cellAt (i * 11 + j) (by omega), List.getElem?_eq_getElem (by rw [recCells_len]; omega)]
    rfl
theorem below_cells {B q : Nat} (hq : B ≤ q) (vs : List Value) (o : Nat) (w : World) : Below B w (w.setCells q o vs) := below_setCells (w0 := w) hq vs o w (Below.refl _ _)
set_option maxRecDepth 100000 in
/-- append of all records of a slice -/
theorem wpl_appendRs {w : World} {ops : Array Oper} {rest : List Oper} {o : Oper} {a : Act} {Q : Exit → Act → World → Prop} (hgd : o.guard = none) (s x : Operand)
    (ho : o.op = .call { callee := .builtin .append, args := #[s, x], argTypes := #[25, 25] })
    {B q c : Nat} {v : Value} {l l2 : List Rec} (hown : OwnR w B v l) (hs : a.eval s = v) (hu : w.rangeAt q 0 (recCells l2)) (hx : a.eval x = .slice (some ⟨q, 0, none⟩) l2.length c) (hlen : l.length + l2.length ≤ 1000000) (hB : B ≤ w.heap.size)
    (h : ∀ v' w', OwnR w' B v' (l ++ l2) → Grew w v w' v' → wpList Tryd.prog ops Q rest (a.put o.dst v') w') : wpList Tryd.prog ops Q (o :: rest) a w := by
  obtain ⟨i0, hi, hz0, hz1, hz2⟩ := info_parts infoRecO
  refine wpList_append_own_at w hgd s x 25 ho B 94 i0 _ 11 112 Tryd.underlying25 hi hz0 hz1 hz2 rfl (by decide) v l.length _ hs hown ⟨q, 0, none⟩ l2.length c (recCells l2) hx (recCells_len l2) ?_ ?_ (by unfold maxLen; omega) (by omega) hB ?_
  · intro j u hj
    rw [cell_add, Nat.zero_add]
    have := hu j u hj
    rwa [Nat.zero_add] at this
  · clear hu h hx hlen
    induction l2 with
    | nil => intro u hu; simp [recCells] at hu
    | cons e es ih =>
      intro u hu
      rcases List.mem_append.1 hu with hu | hu
      · simp only [Rec.cells, List.mem_cons, List.not_mem_nil, or_false] at hu
        rcases hu with rfl | rfl | rfl | rfl | rfl | rfl | rfl | rfl | rfl | rfl | rfl <;> rfl
      · exact ih u hu
  · intro v' w' h2 h3 _ h5
    exact h v' w' (by unfold OwnR; rw [recCells_app, List.length_append]; exact h2) ⟨h3, h5.imp id fun e => ⟨_, e, Nat.le_refl _⟩⟩
theorem OwnR.range {w : World} {B n c : Nat} {q : Nat} {l : List Rec} (h : OwnR w B (.slice (some ⟨q, 0, none⟩) n c) l) (hn : n = l.length) : w.rangeAt q 0 (recCells l) := fun j v hj => by
  subst hn
  have hl : j < l.length * 11 := by have := (List.getElem?_eq_some_iff.1 hj).1; rwa [recCells_len] at this
  rw [Nat.zero_add, h.cellAt j hl]
  exact hj
end Go.Proofs.YtjoflnnomebkpaaDoor
