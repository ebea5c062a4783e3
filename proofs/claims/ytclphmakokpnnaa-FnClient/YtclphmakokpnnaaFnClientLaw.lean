/-
  The walk of the law FnClient.
-/
import Derived.Test.YtclphmakokpnnaaDrawH
import Derived.Test.YtclphmakokpnnaaCliStep
namespace Go.Proofs.Ytclphmakokpnnaa
open Go.RowKit
set_option linter.unusedVariables false
set_option linter.unusedSimpArgs false

theorem OwnV.range {w : World} {B g n cap : Nat} {l : List Cev} (h : OwnV w B (.slice (some ⟨g, 0, none⟩) n cap) l) (j : Nat) (hj : j < l.length) {e : Cev} (he : l[j] = e) : w.rangeAt g (j * 13) e.cells := by
  subst he
  obtain ⟨g', cap', e, hc⟩ := h.at j hj
  simp only [Value.slice.injEq, Option.some.injEq, Addr.mk.injEq, and_true] at e
  obtain ⟨rfl, _, rfl⟩ := e
  intro i v hv
  have hi : i < 13 := (List.getElem?_eq_some_iff.1 hv).1
  rw [hc i hi]
  exact hv
set_option maxRecDepth 100000 in
set_option maxHeartbeats 2000000 in
theorem eqSame_run (d : Nat) (ccl csq cop : Int) (ck cv co : ByteArray) (w : World) : (Op.equalIn (d + 2) 33 (.agg #[.int .i64 ccl, .int .i64 csq, .int .i64 cop, .string ck, .string cv, .string co]) (.agg #[.int .i64 ccl, .int .i64 csq, .int .i64 cop, .string ck, .string cv, .string co])).run Try.prog w = .ok true w := by
  have u3 := Try.underlying3
  have u9 := Try.underlying9
  have hS : Try.prog.underlying 33 = some (.struct (Try.prog.fieldsOf 33)) := by kernel_rfl
  rw [run_equalIn_agg w (d + 1) 33 _ _ hS (by kernel_rfl)]
  simp only [Program.fieldsOf, Try.underlying33]
  go_simp
theorem wpl_load_part {ops : Array Oper} {rest : List Oper} {o : Oper} {a : Act} {w : World} {Q : Exit → Act → World → Prop} (hgd : o.guard = none) (ty : TypeId) (x : Operand) (ho : o.op = .load ty x) (b off : Nat) (hx : a.eval x = .pointer (some ⟨b, off, none⟩)) {C : Array Value} {t : TypeId} (hb : Blk w b C t)
    (cs : List Value) (hcs : (C.toList.drop off).take cs.length = cs) {d : TypeDesc} (hu : Try.prog.underlying ty = some d) (hd : d.isRow = true) (hi : (Try.prog.info? ty).map (·.size) = some cs.length)
    (h : wpList Try.prog ops Q rest (a.put o.dst (.agg cs.toArray)) w) : wpList Try.prog ops Q (o :: rest) a w :=
  wpList_load_mid hgd ty x ho b off hx cs d (fun j v hv => by
    have hj : j < cs.length := (List.getElem?_eq_some_iff.1 hv).1
    rw [hb.cell (off + j), ← hv, ← hcs]
    rw [List.getElem?_take, if_pos hj, List.getElem?_drop]
    simp) hu hd hi h

theorem cli_cases {c nx : Cli} {ee : Cev} {cd sd dn : Int} (h : StepOk c ee cd sd dn nx) (hr : ee.rcl = c.id) (hb : c.bs = 0 ∨ c.bs = 1) (hk : ee.kd = 1 ∨ ee.kd = 2 ∨ ee.kd = 3) :
    (ee.kd = 1 ∧ cd = 0 ∧ dn = 0 ∧ (c.bs != 0) = false ∧ nx.bs = 1 ∧ nx.sq = c.sq + 1 ∧ nx.ck = ee.ek ∧ nx.csq = c.sq + 1 ∧ True ∧ True) ∨
    (ee.kd = 1 ∧ (cd == 0) = false ∧ dn = 0 ∧ nx.sq = c.sq ∧ nx.bs = c.bs ∧ nx.ccl = c.ccl ∧ nx.csq = c.csq ∧ nx.cop = c.cop ∧ nx.ck = c.ck ∧ (nx.cv = c.cv ∧ nx.co = c.co)) ∨
    (ee.kd = 2 ∧ True ∧ dn = 0 ∧ nx.sq = c.sq ∧ nx.bs = c.bs ∧ nx.ccl = c.ccl ∧ nx.csq = c.csq ∧ nx.cop = c.cop ∧ nx.ck = c.ck ∧ (nx.cv = c.cv ∧ nx.co = c.co)) ∨
    (ee.kd = 3 ∧ (c.bs == 1) = false ∧ dn = 0 ∧ nx.sq = c.sq ∧ nx.bs = c.bs ∧ nx.ccl = c.ccl ∧ nx.csq = c.csq ∧ nx.cop = c.cop ∧ nx.ck = c.ck ∧ (nx.cv = c.cv ∧ nx.co = c.co)) ∨
    (ee.kd = 3 ∧ c.bs = 1 ∧ dn = 0 ∧ nx.sq = c.sq ∧ nx.bs = 1 ∧ nx.ccl = c.ccl ∧ nx.csq = c.csq ∧ nx.cop = c.cop ∧ nx.ck = c.ck ∧ (nx.cv = c.cv ∧ nx.co = c.co) ∧ (ee.rsq == c.sq) = false) ∨
    (ee.kd = 3 ∧ c.bs = 1 ∧ dn = 0 ∧ nx.sq = c.sq ∧ nx.bs = 1 ∧ nx.ccl = c.ccl ∧ nx.csq = c.csq ∧ nx.cop = c.cop ∧ nx.ck = c.ck ∧ (nx.cv = c.cv ∧ nx.co = c.co) ∧ (ee.rsq = c.sq ∧ ee.rcl = c.id) ∧ (ee.rst == 1) = false) ∨
    (ee.kd = 3 ∧ c.bs = 1 ∧ dn = 1 ∧ nx.sq = c.sq ∧ nx.bs = 0 ∧ ee.rsq = c.sq ∧ ee.rcl = c.id ∧ ee.rst = 1 ∧ True) := by
  rcases h.done01 with d0 | d1
  · have nd : ¬ (ee.kd = 3 ∧ c.bs = 1 ∧ ee.rsq = c.sq ∧ ee.rcl = c.id ∧ ee.rst = 1) := fun x => by have := h.done.2 x; omega
    by_cases ht : ee.kd = 1 ∧ cd = 0
    · obtain ⟨q1, q2, q3, q4, q5⟩ := h.taken ht.1 ht.2
      exact .inl ⟨ht.1, ht.2, d0, by simp [q1], q2, q3, q4, q5.trans q3, trivial, trivial⟩
    · have s1 := h.stays ht
      obtain ⟨q1, q2, q3, q4, q5, q6, q7⟩ := h.keeps ht d0
      rcases hk with k1 | k2 | k3
      · exact .inr (.inl ⟨k1, by simpa using fun e => ht ⟨k1, e⟩, d0, s1, q1, q2, q3, q4, q5, q6, q7⟩)
      · exact .inr (.inr (.inl ⟨k2, trivial, d0, s1, q1, q2, q3, q4, q5, q6, q7⟩))
      · rcases hb with b0 | b1
        · exact .inr (.inr (.inr (.inl ⟨k3, by simp [b0], d0, s1, q1, q2, q3, q4, q5, q6, q7⟩)))
        · by_cases hs : ee.rsq = c.sq
          · exact .inr (.inr (.inr (.inr (.inr (.inl ⟨k3, b1, d0, s1, q1.trans b1, q2, q3, q4, q5, ⟨q6, q7⟩, ⟨hs, hr⟩, by simpa using fun e => nd ⟨k3, b1, hs, hr, e⟩⟩)))))
          · exact .inr (.inr (.inr (.inr (.inl ⟨k3, b1, d0, s1, q1.trans b1, q2, q3, q4, q5, ⟨q6, q7⟩, by simpa using hs⟩))))
  · obtain ⟨k3, b1, hs, hi, ht⟩ := h.done.1 d1
    exact .inr (.inr (.inr (.inr (.inr (.inr ⟨k3, b1, d1, h.stays (by omega), h.idle d1, hs, hi, ht, trivial⟩)))))
theorem Blk.drewN {w : World} {b : Nat} {C : Array Value} {t : TypeId} (h : Blk w b C t) (n : Nat) : Blk (w.drewN n) b C t := h
theorem ne_of_own {g n cap b q : Nat} (h : (Value.slice (some ⟨g, 0, none⟩) n cap).ownBlock = some b) (hq : g ≠ q) : b ≠ q := by
  have e : g = b := by simpa [Value.ownBlock] using h
  omega
theorem cli_rel {w w4 wz : World} {o : Obj} {q g1 g2 n cp1 cp2 B2 : Nat} {C C' : Array Value} {t : TypeId} {E : List Cev} (hh : wz.heap = (w4.alloc o).heap) (hos : wz.os = w4.os) (htp : wz.tape = w4.tape) (hop : wz.output = w4.output) (bc : Blk w4 q C t)
    (o1 : OwnV w4 w.heap.size (.slice (some ⟨g1, 0, none⟩) n cp1) E) (o2 : OwnV w4 B2 (.slice (some ⟨g2, 0, none⟩) n cp2) E) (hb : Below w.heap.size w w4) (hq : w.heap.size ≤ q) (h1 : g1 ≠ q) (h2 : g2 ≠ q) :
    Blk (wz.setRow q C') q C' t ∧ OwnV (wz.setRow q C') w.heap.size (.slice (some ⟨g1, 0, none⟩) n cp1) E ∧ OwnV (wz.setRow q C') B2 (.slice (some ⟨g2, 0, none⟩) n cp2) E ∧ Below w.heap.size w (wz.setRow q C') ∧ q < (wz.setRow q C').heap.size := by
  have hk : ∀ b, b < w4.heap.size → wz.heap[b]? = w4.heap[b]? := fun b h => by rw [hh]; exact Below.heap_alloc w4 o b h
  have bz : Blk wz q C t := bc.keep (hk q bc.lt)
  have hz : w4.heap.size ≤ wz.heap.size := by rw [hh]; simp
  have hl := bc.lt
  have hs : (wz.setRow q C').heap.size = wz.heap.size := by simp [World.setRow]
  refine ⟨bz.row _, o1.block fun b e => ?_, o2.block fun b e => ?_, below_row (⟨hos.trans hb.os, htp.trans hb.tape, hop.trans hb.output, Nat.le_trans hb.size hz, fun k hkk => (hk k (by have := hb.size; omega)).trans (hb.block k hkk)⟩ : Below w.heap.size w wz) hq _, by omega⟩
  · have e' : g1 = b := by simpa [Value.ownBlock] using e
    exact (setRow_other _ _ _ _ (by omega)).trans (hk b (o1.2.lt b e).2)
  · have e' : g2 = b := by simpa [Value.ownBlock] using e
    exact (setRow_other _ _ _ _ (by omega)).trans (hk b (o2.2.lt b e).2)
theorem send_cases {sd tg : Int} (h : sd = 0 ∨ sd = tg) : sd = 0 ∨ (tg = sd ∧ (tg != 0) = true) := by
  rcases h with h | h
  · exact .inl h
  · by_cases e : tg = 0
    · exact .inl (h.trans e)
    · exact .inr ⟨h.symm, by simpa using e⟩

set_option maxHeartbeats 16000000 in
set_option maxRecDepth 100000 in
theorem lawClient_walk (v : Value) (l : List Int) (w : World) (hv : Bs w v l) :
    Calls Try.prog 4 #[v] w fun e w' => e = .returned (.bool true) ∧ Below w.heap.size w w' := by
  have HV : Hid (Bs w v l) := hv
  obtain ⟨hlm, _, av, cp, rfl, _⟩ := hv
  by_cases hL : l.length ≤ 1048576
  case neg =>
    have hL' : (1048576 : Int) < (l.length : Int) := by omega
    go_enter Try.func4, Try.ntmps4
    go_wp2
    all_goals go_ret
    all_goals exact ⟨rfl, Below.refl _ _⟩
  have hL' : ¬ (1048576 : Int) < (l.length : Int) := by omega
  obtain ⟨c0, k2, n, hc0, hk2, hn, HC0⟩ := drawCalls_ex l hL
  have HC : Hid (∀ (w : World) (v : Value), Bs w v l → Calls Try.prog 13 #[v] w fun r w' => ∃ ev, r = .returned (.tuple #[.agg #[.int .i64 c0.id, .int .i64 c0.sv, .int .i64 c0.rt, .int .i64 c0.sq, .int .i64 c0.bs, .int .i64 c0.tg, .int .i64 c0.wt, .int .i64 c0.ccl, .int .i64 c0.csq, .int .i64 c0.cop, .string c0.ck, .string c0.cv, .string c0.co], ev]) ∧ OwnV w' w.heap.size ev (evsOf l k2 c0 n) ∧ Below w.heap.size w w') := HC0
  clear HC0
  have g1 : True := trivial
  have g2 : True := trivial
  go_enter Try.func4, Try.ntmps4
  go_wp2_with (first
    | (go_at_call 13; clear g1; refine Calls.mono (HC.out _ _ HV.out) ?_; rintro r w1 ⟨ev1, rfl, ho, hb⟩; have z1 := hb.size; have HO1 : Hid (OwnV w1 w.heap.size ev1 (evsOf l k2 c0 n)) := ho; have hl1 : Hid (∀ k, ev1.ownBlock = some k → k < w1.heap.size) := fun k e => (ho.2.lt k e).2; have HB : Hid (Below w.heap.size w w1) := hb; clear ho hb)
    | (have hBA := HO1; refine gate_st 35 (.tmp 3) _ rfl ?_; clear hBA; refine wpl_store_last rfl 35 (.tmp 3) _ rfl (w1.heap.size) rfl rfl rfl sizeCliD rfl rfl (by simp [Value.oneCell']) ?_)
    | (go_at_call 13; clear g2; refine Calls.mono (HC.out _ _ (HV.out.below (HB.out.alloc (by omega) _))) ?_; rintro r w2 ⟨ev2, rfl, ho, hb⟩; have z2 := hb.size; simp at z2; have ho2 : OwnV w2 (w1.heap.size + 1) ev2 (evsOf l k2 c0 n) := (by simpa using ho); have HO2 : Hid (OwnV w2 (w1.heap.size + 1) ev2 (evsOf l k2 c0 n)) := ho2; clear ho2; replace HO1 : Hid (OwnV w2 w.heap.size ev1 (evsOf l k2 c0 n)) := (HO1.out.below ((Below.refl _ _).alloc (Nat.le_refl _) _)).below hb; have BC : Hid (Blk w2 w1.heap.size #[.int .i64 c0.id, .int .i64 c0.sv, .int .i64 c0.rt, .int .i64 c0.sq, .int .i64 c0.bs, .int .i64 c0.tg, .int .i64 c0.wt, .int .i64 c0.ccl, .int .i64 c0.csq, .int .i64 c0.cop, .string c0.ck, .string c0.cv, .string c0.co] 35) := (Blk.new w1 _ _).below hb (by simp); replace HB : Hid (Below w.heap.size w w2) := (HB.out.alloc (by omega) _).trans (hb.mono (by simp <;> omega)); clear ho hb)
    | (have hBA := HO2; refine gate_st 35 (.tmp 5) _ rfl ?_; clear hBA; refine wpl_store_last rfl 35 (.tmp 5) _ rfl (w2.heap.size) rfl rfl rfl sizeCliD rfl rfl (by simp [Value.oneCell']) ?_))
  go_loopw [7] (fun i wr => ∃ j : Nat, j ≤ n ∧ i = .int .i64 j ∧ Blk wr w1.heap.size #[.int .i64 (stOf l k2 c0 j).2.id, .int .i64 (stOf l k2 c0 j).2.sv, .int .i64 (stOf l k2 c0 j).2.rt, .int .i64 (stOf l k2 c0 j).2.sq, .int .i64 (stOf l k2 c0 j).2.bs, .int .i64 (stOf l k2 c0 j).2.tg, .int .i64 (stOf l k2 c0 j).2.wt, .int .i64 (stOf l k2 c0 j).2.ccl, .int .i64 (stOf l k2 c0 j).2.csq, .int .i64 (stOf l k2 c0 j).2.cop, .string (stOf l k2 c0 j).2.ck, .string (stOf l k2 c0 j).2.cv, .string (stOf l k2 c0 j).2.co] 35 ∧ OwnV wr w.heap.size ev1 (evsOf l k2 c0 n) ∧ OwnV wr (w1.heap.size + 1) ev2 (evsOf l k2 c0 n) ∧ Below w.heap.size w wr ∧ w1.heap.size < wr.heap.size) (fun i _ => n - (intOf i).toNat)
  case atStart => exact ⟨0, Nat.zero_le _, rfl, BC.out.alloc _, HO1.out.below ((Below.refl _ _).alloc (Nat.le_refl _) _), HO2.out.below ((Below.refl _ _).alloc (Nat.le_refl _) _), HB.out.alloc (by omega) _, by simp <;> omega⟩
  case round =>
    obtain ⟨j, hj, rfl, bc, o1, o2, hb, hz⟩ := hrel
    clear BC HO1 HO2 HB HC
    have hel := evsOf_len l k2 c0 n
    obtain ⟨av1, cp1, es1⟩ := o1.shape
    obtain ⟨av2, cp2, es2⟩ := o2.shape
    rw [hel] at es1 es2
    subst es1 es2
    by_cases hlt : j < n
    · obtain ⟨g1, cq1, e1⟩ := o1.shape' (by omega)
      obtain ⟨g2, cq2, e2⟩ := o2.shape' (by omega)
      rw [hel] at e1 e2
      simp only [Value.slice.injEq] at e1 e2
      obtain ⟨rfl, _, rfl⟩ := e1
      obtain ⟨rfl, _, rfl⟩ := e2
      have hlg := hl1.out g1 rfl
      have hst := st_ok l k2 c0 hc0 j
      have hstep := step_ok _ _ hst.1 (evOf_ok l (stOf l k2 c0 j).1 (stOf l k2 c0 j).2)
      have hnx : (stOf l k2 c0 (j + 1)).2 = nextC (stOf l k2 c0 j).2 (evOf l (stOf l k2 c0 j).1 (stOf l k2 c0 j).2) := rfl
      have hget : (evsOf l k2 c0 n)[j]'(by omega) = evOf l (stOf l k2 c0 j).1 (stOf l k2 c0 j).2 := evsOf_get l k2 c0 n j (by omega)
      have hbs01 : (stOf l k2 c0 j).2.bs = 0 ∨ (stOf l k2 c0 j).2.bs = 1 := (openB_bs (cliB_parts hst.1.1).2.2.2.2.2.2).elim (fun h => .inl h.1) (fun h => .inr h.1)
      have hev := evOf_ok l (stOf l k2 c0 j).1 (stOf l k2 c0 j).2
      have hcs := hst.1.2
      clear hst
      generalize (stOf l k2 c0 j).2 = c at bc hstep hnx hget hev hcs hbs01
      generalize evOf l (stOf l k2 c0 j).1 c = ee at hstep hnx hget hev
      generalize nextC c ee = nx at hstep hnx
      obtain ⟨cd, sd, dn, hsw, hso⟩ := hstep
      obtain ⟨hkd, y1, y2, y3, y4, hrcl, _⟩ := hev
      have hso' := hso
      have hnx' := hnx
      have HSp : Hid (∀ u : World, Calls Try.prog 14 #[.agg #[.int .i64 c.id, .int .i64 c.sv, .int .i64 c.rt, .int .i64 c.sq, .int .i64 c.bs, .int .i64 c.tg, .int .i64 c.wt, .int .i64 c.ccl, .int .i64 c.csq, .int .i64 c.cop, .string c.ck, .string c.cv, .string c.co], .agg #[.int .i64 ee.kd, .int .i64 ee.ecl, .int .i64 ee.esq, .int .i64 ee.eop, .string ee.ek, .string ee.ev, .string ee.eo, .int .i64 ee.rcl, .int .i64 ee.rsq, .int .i64 ee.rst, .int .i64 ee.rcd, .string ee.rv, .int .i64 ee.rld]] u fun x w' => x = .returned (.agg #[.int .i64 cd, .int .i64 sd, .int .i64 dn, .int .i64 nx.id, .int .i64 nx.sv, .int .i64 nx.rt, .int .i64 nx.sq, .int .i64 nx.bs, .int .i64 nx.tg, .int .i64 nx.wt, .int .i64 nx.ccl, .int .i64 nx.csq, .int .i64 nx.cop, .string nx.ck, .string nx.cv, .string nx.co]) ∧ Below u.heap.size u w') := fun u => by
        have h := sStepClient_any c.id c.sv c.rt c.sq c.bs c.tg c.wt c.ccl c.csq c.cop c.ck c.cv c.co ee.kd ee.ecl ee.esq ee.eop ee.ek ee.ev ee.eo ee.rcl ee.rsq ee.rst ee.rcd ee.rv ee.rld (by unfold maxLen; omega) (by unfold maxLen; omega) (by unfold maxLen; omega) (by unfold maxLen; omega) (by unfold maxLen; omega) (by unfold maxLen; omega) (by unfold maxLen; omega) u
        rw [show stepV c.id c.sv c.rt c.sq c.bs c.tg c.wt c.ccl c.csq c.cop c.ck c.cv c.co ee.kd ee.ecl ee.esq ee.eop ee.ek ee.ev ee.eo ee.rcl ee.rsq ee.rst ee.rcd ee.rv ee.rld = ansV cd sd dn nx from hsw] at h
        exact h
      have HIm : Hid (∀ u : World, Calls Try.prog 15 #[.agg #[.int .i64 c.id, .int .i64 c.sv, .int .i64 c.rt, .int .i64 c.sq, .int .i64 c.bs, .int .i64 c.tg, .int .i64 c.wt, .int .i64 c.ccl, .int .i64 c.csq, .int .i64 c.cop, .string c.ck, .string c.cv, .string c.co], .agg #[.int .i64 ee.kd, .int .i64 ee.ecl, .int .i64 ee.esq, .int .i64 ee.eop, .string ee.ek, .string ee.ev, .string ee.eo, .int .i64 ee.rcl, .int .i64 ee.rsq, .int .i64 ee.rst, .int .i64 ee.rcd, .string ee.rv, .int .i64 ee.rld]] u fun x w' => x = .returned (.agg #[.int .i64 cd, .int .i64 sd, .int .i64 dn, .int .i64 nx.id, .int .i64 nx.sv, .int .i64 nx.rt, .int .i64 nx.sq, .int .i64 nx.bs, .int .i64 nx.tg, .int .i64 nx.wt, .int .i64 nx.ccl, .int .i64 nx.csq, .int .i64 nx.cop, .string nx.ck, .string nx.cv, .string nx.co]) ∧ Below u.heap.size u w') := fun u => by
        have h := stepClient_any c.id c.sv c.rt c.sq c.bs c.tg c.wt c.ccl c.csq c.cop c.ck c.cv c.co ee.kd ee.ecl ee.esq ee.eop ee.ek ee.ev ee.eo ee.rcl ee.rsq ee.rst ee.rcd ee.rv ee.rld (by unfold maxLen; omega) (by unfold maxLen; omega) (by unfold maxLen; omega) (by unfold maxLen; omega) (by unfold maxLen; omega) (by unfold maxLen; omega) (by unfold maxLen; omega) u
        rw [show stepV c.id c.sv c.rt c.sq c.bs c.tg c.wt c.ccl c.csq c.cop c.ck c.cv c.co ee.kd ee.ecl ee.esq ee.eop ee.ek ee.ev ee.eo ee.rcl ee.rsq ee.rst ee.rcd ee.rv ee.rld = ansV cd sd dn nx from hsw] at h
        exact h
      have HO1 : Hid (OwnV wr w.heap.size (.slice (some ⟨g1, 0, none⟩) n cp1) (evsOf l k2 c0 n)) := o1
      have HO2 : Hid (OwnV wr (w1.heap.size + 1) (.slice (some ⟨g2, 0, none⟩) n cp2) (evsOf l k2 c0 n)) := o2
      have BC : Blk wr w1.heap.size #[.int .i64 c.id, .int .i64 c.sv, .int .i64 c.rt, .int .i64 c.sq, .int .i64 c.bs, .int .i64 c.tg, .int .i64 c.wt, .int .i64 c.ccl, .int .i64 c.csq, .int .i64 c.cop, .string c.ck, .string c.cv, .string c.co] 35 := bc
      have HB : Hid (Below w.heap.size w wr) := hb
      have hlg2 : w1.heap.size < g2 := (o2.2.lt g2 rfl).1
      clear o1 o2 bc hb hsw hcs y1 y2 y3 y4 hl1
      have hjn : (j : Int) < (n : Int) := by omega
      have hjl : j < (evsOf l k2 c0 n).length := by omega
      go_wp2_with (fail)
      refine wp_named ?_
      intro a0 ha0
      have hsz0 : a0.tmps.size = 213 := by rw [ha0]; rfl
      have e3 : a0.eval (.tmp 3) = .pointer (some ⟨w1.heap.size, 0, none⟩) := by rw [ha0]; rfl
      have e4 : a0.eval (.tmp 4) = .slice (some ⟨g1, 0, none⟩) n cp1 := by rw [ha0]; rfl
      have e7 : a0.eval (.tmp 7) = .int .i64 (j : Int) := by rw [ha0]; rfl
      have HA0 : Hid (a0 = _) := ha0
      clear ha0
      refine wp_region_inv (by kernel_rfl) (fun L aF w' => ∃ x : Nat → Value, aF = frame a0 [32, 33, 34, 35, 36, 37, 8] x ∧ Below wr.heap.size wr w' ∧ (L.getD 0 false = true → x 32 = .agg #[.int .i64 c.id, .int .i64 c.sv, .int .i64 c.rt, .int .i64 c.sq, .int .i64 c.bs, .int .i64 c.tg, .int .i64 c.wt, .int .i64 c.ccl, .int .i64 c.csq, .int .i64 c.cop, .string c.ck, .string c.cv, .string c.co]) ∧ (L.getD 1 false = true → x 33 = .slice (some ⟨g1, 0, none⟩) n cp1) ∧ (L.getD 2 false = true → x 34 = .int .i64 (j : Int)) ∧ (L.getD 3 false = true → x 35 = .pointer (some ⟨g1, j * 13, none⟩)) ∧ (L.getD 4 false = true → x 36 = .agg #[.int .i64 ee.kd, .int .i64 ee.ecl, .int .i64 ee.esq, .int .i64 ee.eop, .string ee.ek, .string ee.ev, .string ee.eo, .int .i64 ee.rcl, .int .i64 ee.rsq, .int .i64 ee.rst, .int .i64 ee.rcd, .string ee.rv, .int .i64 ee.rld]) ∧ (L.getD 5 false = true → x 37 = .agg #[.int .i64 cd, .int .i64 sd, .int .i64 dn, .int .i64 nx.id, .int .i64 nx.sv, .int .i64 nx.rt, .int .i64 nx.sq, .int .i64 nx.bs, .int .i64 nx.tg, .int .i64 nx.wt, .int .i64 nx.ccl, .int .i64 nx.csq, .int .i64 nx.cop, .string nx.ck, .string nx.cv, .string nx.co]) ∧ (L.getD 6 false = true → ∃ p C, x 8 = .pointer (some ⟨p, 0, none⟩) ∧ wr.heap.size ≤ p ∧ Blk w' p C 40 ∧ C.size = 16 ∧ (L.getD 7 false = true → C = #[.int .i64 cd, .int .i64 sd, .int .i64 dn, .int .i64 nx.id, .int .i64 nx.sv, .int .i64 nx.rt, .int .i64 nx.sq, .int .i64 nx.bs, .int .i64 nx.tg, .int .i64 nx.wt, .int .i64 nx.ccl, .int .i64 nx.csq, .int .i64 nx.cop, .string nx.ck, .string nx.cv, .string nx.co])) ∧ (L.getD 7 false = true → L.getD 6 false = true)) ?_ ?_ ?_
      · exact ⟨_, frame_self a0 [32, 33, 34, 35, 36, 37, 8], (Below.refl _ _).drew, fun h => (noBit h).elim, fun h => (noBit h).elim, fun h => (noBit h).elim, fun h => (noBit h).elim, fun h => (noBit h).elim, fun h => (noBit h).elim, fun h => (noBit h).elim, fun h => (noBit h).elim⟩
      · rintro L a w' i hsL hi ⟨x, rfl, hB, h0, h1, h2, h3, h4, h5, h6, h7⟩
        have hiL : i < 8 := (ready_mem hsL hi).1
        have hL : L.size = 8 := hsL
        have hw' : wr.heap.size ≤ w'.heap.size := hB.size
        rcases (show i = 0 ∨ i = 1 ∨ i = 2 ∨ i = 3 ∨ i = 4 ∨ i = 5 ∨ i = 6 ∨ i = 7 by omega) with rfl | rfl | rfl | rfl | rfl | rfl | rfl | rfl
        · skip
          refine wpOp_plain rfl rfl (wp_load_blk 35 (.tmp 3) rfl (w1.heap.size) ((frame_eval _ _ _ 3 rfl).trans e3) (BC.below hB (by omega)) Try.underlying35 rfl sizeCliD rfl ?_)
          exact ⟨_, frame_put _ _ _ 32 _ rfl, hB, fun h => upd_same _ _ _, fun h => by rw [upd_ne _ _ _ _ (by decide)]; exact (h1 (keepBit h (by omega) (by decide))), fun h => by rw [upd_ne _ _ _ _ (by decide)]; exact (h2 (keepBit h (by omega) (by decide))), fun h => by rw [upd_ne _ _ _ _ (by decide)]; exact (h3 (keepBit h (by omega) (by decide))), fun h => by rw [upd_ne _ _ _ _ (by decide)]; exact (h4 (keepBit h (by omega) (by decide))), fun h => by rw [upd_ne _ _ _ _ (by decide)]; exact (h5 (keepBit h (by omega) (by decide))), fun h => by obtain ⟨p, C, ep, hp, hP, hC, hR⟩ := h6 (keepBit h (by omega) (by decide)); exact ⟨p, C, (upd_ne _ _ _ _ (by decide)).trans ep, hp, hP, hC, fun hq6 => (hR (keepBit hq6 (by omega) (by decide)))⟩, fun h => setBit (h7 (keepBit h (by omega) (by decide))) (by omega)⟩
        · skip
          refine wpOp_plain rfl rfl (wp_move_go (.tmp 4) (Or.inl rfl) ?_)
          rw [frame_eval _ _ _ 4 rfl, e4]
          exact ⟨_, frame_put _ _ _ 33 _ rfl, hB, fun h => by rw [upd_ne _ _ _ _ (by decide)]; exact (h0 (keepBit h (by omega) (by decide))), fun h => upd_same _ _ _, fun h => by rw [upd_ne _ _ _ _ (by decide)]; exact (h2 (keepBit h (by omega) (by decide))), fun h => by rw [upd_ne _ _ _ _ (by decide)]; exact (h3 (keepBit h (by omega) (by decide))), fun h => by rw [upd_ne _ _ _ _ (by decide)]; exact (h4 (keepBit h (by omega) (by decide))), fun h => by rw [upd_ne _ _ _ _ (by decide)]; exact (h5 (keepBit h (by omega) (by decide))), fun h => by obtain ⟨p, C, ep, hp, hP, hC, hR⟩ := h6 (keepBit h (by omega) (by decide)); exact ⟨p, C, (upd_ne _ _ _ _ (by decide)).trans ep, hp, hP, hC, fun hq6 => (hR (keepBit hq6 (by omega) (by decide)))⟩, fun h => setBit (h7 (keepBit h (by omega) (by decide))) (by omega)⟩
        · skip
          refine wpOp_plain rfl rfl (wp_move_go (.tmp 7) (Or.inl rfl) ?_)
          rw [frame_eval _ _ _ 7 rfl, e7]
          exact ⟨_, frame_put _ _ _ 34 _ rfl, hB, fun h => by rw [upd_ne _ _ _ _ (by decide)]; exact (h0 (keepBit h (by omega) (by decide))), fun h => by rw [upd_ne _ _ _ _ (by decide)]; exact (h1 (keepBit h (by omega) (by decide))), fun h => upd_same _ _ _, fun h => by rw [upd_ne _ _ _ _ (by decide)]; exact (h3 (keepBit h (by omega) (by decide))), fun h => by rw [upd_ne _ _ _ _ (by decide)]; exact (h4 (keepBit h (by omega) (by decide))), fun h => by rw [upd_ne _ _ _ _ (by decide)]; exact (h5 (keepBit h (by omega) (by decide))), fun h => by obtain ⟨p, C, ep, hp, hP, hC, hR⟩ := h6 (keepBit h (by omega) (by decide)); exact ⟨p, C, (upd_ne _ _ _ _ (by decide)).trans ep, hp, hP, hC, fun hq6 => (hR (keepBit hq6 (by omega) (by decide)))⟩, fun h => setBit (h7 (keepBit h (by omega) (by decide))) (by omega)⟩
        · have d1 := h1 (ready_needs hi (by decide))
          have d2 := h2 (ready_needs hi (by decide))
          have ev33 : (frame a0 [32, 33, 34, 35, 36, 37, 8] x).tmps[33]?.getD undef = .slice (some ⟨g1, 0, none⟩) n cp1 := by have h := (frame_eval_in a0 [32, 33, 34, 35, 36, 37, 8] x 33 rfl (by omega)).trans d1; simpa [Act.eval] using h
          have ev34 : (frame a0 [32, 33, 34, 35, 36, 37, 8] x).tmps[34]?.getD undef = .int .i64 (j : Int) := by have h := (frame_eval_in a0 [32, 33, 34, 35, 36, 37, 8] x 34 rfl (by omega)).trans d2; simpa [Act.eval] using h
          refine wpOp_plain rfl rfl (wp_value_go (v := .pointer (some ⟨g1, j * 13, none⟩)) ?_ ?_)
          · obtain ⟨aa, haa⟩ : ∃ aa, aa = frame a0 [32, 33, 34, 35, 36, 37, 8] x := ⟨_, rfl⟩
            rw [← haa] at ev33 ev34 ⊢
            clear haa HA0
            go_simp
          exact ⟨_, frame_put _ _ _ 35 _ rfl, hB, fun h => by rw [upd_ne _ _ _ _ (by decide)]; exact (h0 (keepBit h (by omega) (by decide))), fun h => by rw [upd_ne _ _ _ _ (by decide)]; exact (h1 (keepBit h (by omega) (by decide))), fun h => by rw [upd_ne _ _ _ _ (by decide)]; exact (h2 (keepBit h (by omega) (by decide))), fun h => upd_same _ _ _, fun h => by rw [upd_ne _ _ _ _ (by decide)]; exact (h4 (keepBit h (by omega) (by decide))), fun h => by rw [upd_ne _ _ _ _ (by decide)]; exact (h5 (keepBit h (by omega) (by decide))), fun h => by obtain ⟨p, C, ep, hp, hP, hC, hR⟩ := h6 (keepBit h (by omega) (by decide)); exact ⟨p, C, (upd_ne _ _ _ _ (by decide)).trans ep, hp, hP, hC, fun hq6 => (hR (keepBit hq6 (by omega) (by decide)))⟩, fun h => setBit (h7 (keepBit h (by omega) (by decide))) (by omega)⟩
        · have d3 := h3 (ready_needs hi (by decide))
          have evp := (frame_eval_in a0 [32, 33, 34, 35, 36, 37, 8] x 35 rfl (by omega)).trans d3
          refine wpOp_plain rfl rfl (wp_load_mid 45 (.tmp 35) rfl (g1) (j * 13) evp ee.cells _ ((HO1.out.below hB).range j hjl hget) Try.underlying45 rfl sizeCevD ?_)
          exact ⟨_, frame_put _ _ _ 36 _ rfl, hB, fun h => by rw [upd_ne _ _ _ _ (by decide)]; exact (h0 (keepBit h (by omega) (by decide))), fun h => by rw [upd_ne _ _ _ _ (by decide)]; exact (h1 (keepBit h (by omega) (by decide))), fun h => by rw [upd_ne _ _ _ _ (by decide)]; exact (h2 (keepBit h (by omega) (by decide))), fun h => by rw [upd_ne _ _ _ _ (by decide)]; exact (h3 (keepBit h (by omega) (by decide))), fun h => upd_same _ _ _, fun h => by rw [upd_ne _ _ _ _ (by decide)]; exact (h5 (keepBit h (by omega) (by decide))), fun h => by obtain ⟨p, C, ep, hp, hP, hC, hR⟩ := h6 (keepBit h (by omega) (by decide)); exact ⟨p, C, (upd_ne _ _ _ _ (by decide)).trans ep, hp, hP, hC, fun hq6 => (hR (keepBit hq6 (by omega) (by decide)))⟩, fun h => setBit (h7 (keepBit h (by omega) (by decide))) (by omega)⟩
        · have d0 := h0 (ready_needs hi (by decide))
          have d4 := h4 (ready_needs hi (by decide))
          have ev32 := (frame_eval_in a0 [32, 33, 34, 35, 36, 37, 8] x 32 rfl (by omega)).trans d0
          have ev36 := (frame_eval_in a0 [32, 33, 34, 35, 36, 37, 8] x 36 rfl (by omega)).trans d4
          refine wpOp_plain rfl rfl (wp_call_go (N := 14) rfl (fun _ _ => by go_simp) #[.agg #[.int .i64 c.id, .int .i64 c.sv, .int .i64 c.rt, .int .i64 c.sq, .int .i64 c.bs, .int .i64 c.tg, .int .i64 c.wt, .int .i64 c.ccl, .int .i64 c.csq, .int .i64 c.cop, .string c.ck, .string c.cv, .string c.co], .agg #[.int .i64 ee.kd, .int .i64 ee.ecl, .int .i64 ee.esq, .int .i64 ee.eop, .string ee.ek, .string ee.ev, .string ee.eo, .int .i64 ee.rcl, .int .i64 ee.rsq, .int .i64 ee.rst, .int .i64 ee.rcd, .string ee.rv, .int .i64 ee.rld]] (by simp only [List.map_toArray, List.map_cons, List.map_nil, ev32, ev36]) ?_)
          refine Calls.mono (HSp.out _) ?_
          rintro e w2 ⟨rfl, hb⟩
          refine ⟨_, rfl, ?_⟩
          exact ⟨_, frame_put _ _ _ 37 _ rfl, hB.trans (hb.mono hw'), fun h => by rw [upd_ne _ _ _ _ (by decide)]; exact (h0 (keepBit h (by omega) (by decide))), fun h => by rw [upd_ne _ _ _ _ (by decide)]; exact (h1 (keepBit h (by omega) (by decide))), fun h => by rw [upd_ne _ _ _ _ (by decide)]; exact (h2 (keepBit h (by omega) (by decide))), fun h => by rw [upd_ne _ _ _ _ (by decide)]; exact (h3 (keepBit h (by omega) (by decide))), fun h => by rw [upd_ne _ _ _ _ (by decide)]; exact (h4 (keepBit h (by omega) (by decide))), fun h => upd_same _ _ _, fun h => by obtain ⟨p, C, ep, hp, hP, hC, hR⟩ := h6 (keepBit h (by omega) (by decide)); exact ⟨p, C, (upd_ne _ _ _ _ (by decide)).trans ep, hp, hP.below hb hP.lt, hC, fun hq6 => (hR (keepBit hq6 (by omega) (by decide)))⟩, fun h => setBit (h7 (keepBit h (by omega) (by decide))) (by omega)⟩
        · skip
          refine wpOp_plain rfl rfl (wp_alloc_go 40 #[.int .i64 0, .int .i64 0, .int .i64 0, .int .i64 0, .int .i64 0, .int .i64 0, .int .i64 0, .int .i64 0, .int .i64 0, .int .i64 0, .int .i64 0, .int .i64 0, .int .i64 0, .string ⟨#[]⟩, .string ⟨#[]⟩, .string ⟨#[]⟩] rfl (fun _ => by go_simp) ?_)
          have hb : Below w'.heap.size w' (w'.alloc (.cells #[.int .i64 0, .int .i64 0, .int .i64 0, .int .i64 0, .int .i64 0, .int .i64 0, .int .i64 0, .int .i64 0, .int .i64 0, .int .i64 0, .int .i64 0, .int .i64 0, .int .i64 0, .string ⟨#[]⟩, .string ⟨#[]⟩, .string ⟨#[]⟩] 40)) := (Below.refl _ _).alloc (Nat.le_refl _) _
          exact ⟨_, frame_put _ _ _ 8 _ rfl, hB.alloc hw' _, fun h => by rw [upd_ne _ _ _ _ (by decide)]; exact (h0 (keepBit h (by omega) (by decide))), fun h => by rw [upd_ne _ _ _ _ (by decide)]; exact (h1 (keepBit h (by omega) (by decide))), fun h => by rw [upd_ne _ _ _ _ (by decide)]; exact (h2 (keepBit h (by omega) (by decide))), fun h => by rw [upd_ne _ _ _ _ (by decide)]; exact (h3 (keepBit h (by omega) (by decide))), fun h => by rw [upd_ne _ _ _ _ (by decide)]; exact (h4 (keepBit h (by omega) (by decide))), fun h => by rw [upd_ne _ _ _ _ (by decide)]; exact (h5 (keepBit h (by omega) (by decide))), fun h => ⟨_, _, upd_same _ _ _, hw', Blk.new _ _ _, rfl, fun hq6 => (readyBit hsL hi (h7 (keepBit hq6 (by omega) (by decide)))).elim⟩, fun h => setSelf (by omega)⟩
        · have d5 := h5 (ready_needs hi (by decide))
          have d6 := h6 (ready_needs hi (by decide))
          obtain ⟨p, C, ep, hp, hP, hC, hR⟩ := d6
          have evp := (frame_eval_in a0 [32, 33, 34, 35, 36, 37, 8] x 8 rfl (by omega)).trans ep
          have evs := (frame_eval_in a0 [32, 33, 34, 35, 36, 37, 8] x 37 rfl (by omega)).trans d5
          refine wpOp_plain rfl rfl (wp_store_blk 40 (.tmp 8) (.tmp 37) rfl p evp evs hP sizeCliA rfl hC (by simp [Value.oneCell']) ?_)
          exact ⟨_, rfl, below_row hB hp _, fun h => (h0 (keepBit h (by omega) (by decide))), fun h => (h1 (keepBit h (by omega) (by decide))), fun h => (h2 (keepBit h (by omega) (by decide))), fun h => (h3 (keepBit h (by omega) (by decide))), fun h => (h4 (keepBit h (by omega) (by decide))), fun h => (h5 (keepBit h (by omega) (by decide))), fun h => ⟨p, _, ep, hp, hP.row _, rfl, fun _ => rfl⟩, fun h => setBit (ready_needs hi (by decide)) (by omega)⟩
      · rintro L a w' hsL hr ⟨x, rfl, hB, h0, h1, h2, h3, h4, h5, h6, h7⟩
        have hall := ready_nil hsL hr (by decide)
        replace h0 := h0 (hall 0 (by decide))
        replace h1 := h1 (hall 1 (by decide))
        replace h2 := h2 (hall 2 (by decide))
        replace h3 := h3 (hall 3 (by decide))
        replace h4 := h4 (hall 4 (by decide))
        replace h5 := h5 (hall 5 (by decide))
        replace h6 := h6 (hall 6 (by decide))
        replace h7 := h7 (hall 7 (by decide))
        obtain ⟨p, C, ep, hp, hP, hC, hR⟩ := h6
        replace hR := hR (hall 7 (by decide))
        rw [HA0.out]
        simp only [frame, List.zipIdx_cons, List.zipIdx_nil, List.map_cons, List.map_nil, List.contains_cons, List.contains_nil, Nat.reduceBEq, Nat.reduceAdd, Bool.or_false, Bool.false_or, Bool.or_true, Bool.true_or, Bool.false_eq_true, if_false, if_true, ep]
        subst hR
        replace BC := BC.below hB (by omega)
        replace HO1 : Hid (OwnV w' w.heap.size (.slice (some ⟨g1, 0, none⟩) n cp1) (evsOf l k2 c0 n)) := HO1.out.below hB
        replace HO2 : Hid (OwnV w' (w1.heap.size + 1) (.slice (some ⟨g2, 0, none⟩) n cp2) (evsOf l k2 c0 n)) := HO2.out.below hB
        replace HB : Hid (Below w.heap.size w w') := HB.out.trans (hB.mono (by have := HB.out.size; omega))
        have zw3 := hB.size
        obtain ⟨p1, hpp⟩ : ∃ q, q = p := ⟨_, rfl⟩
        subst hpp
        obtain ⟨w3, hww⟩ : ∃ q, q = w' := ⟨_, rfl⟩
        subst hww
        have Pp1 := hP
        clear hP hB hC h0 h1 h2 h3 h4 h5 h7 hall hr hsL ep hp hsz0 HA0
        clear e3 e4 e7
        clear L a0
        obtain ⟨x1, hx1⟩ : ∃ q, q = x := ⟨_, rfl⟩
        subst hx1
        go_wp2_with (fail)
        refine wp_named ?_
        intro a0 ha0
        have hsz0 : a0.tmps.size = 213 := by rw [ha0]; rfl
        have e3 : a0.eval (.tmp 3) = .pointer (some ⟨w1.heap.size, 0, none⟩) := by rw [ha0]; rfl
        have e6 : a0.eval (.tmp 6) = .slice (some ⟨g2, 0, none⟩) n cp2 := by rw [ha0]; rfl
        have e7 : a0.eval (.tmp 7) = .int .i64 (j : Int) := by rw [ha0]; rfl
        have HA0 : Hid (a0 = _) := ha0
        clear ha0
        refine wp_region_inv (by kernel_rfl) (fun L aF w' => ∃ x : Nat → Value, aF = frame a0 [38, 39, 40, 41, 42, 43, 9] x ∧ Below w3.heap.size w3 w' ∧ (L.getD 0 false = true → x 38 = .agg #[.int .i64 c.id, .int .i64 c.sv, .int .i64 c.rt, .int .i64 c.sq, .int .i64 c.bs, .int .i64 c.tg, .int .i64 c.wt, .int .i64 c.ccl, .int .i64 c.csq, .int .i64 c.cop, .string c.ck, .string c.cv, .string c.co]) ∧ (L.getD 1 false = true → x 39 = .slice (some ⟨g2, 0, none⟩) n cp2) ∧ (L.getD 2 false = true → x 40 = .int .i64 (j : Int)) ∧ (L.getD 3 false = true → x 41 = .pointer (some ⟨g2, j * 13, none⟩)) ∧ (L.getD 4 false = true → x 42 = .agg #[.int .i64 ee.kd, .int .i64 ee.ecl, .int .i64 ee.esq, .int .i64 ee.eop, .string ee.ek, .string ee.ev, .string ee.eo, .int .i64 ee.rcl, .int .i64 ee.rsq, .int .i64 ee.rst, .int .i64 ee.rcd, .string ee.rv, .int .i64 ee.rld]) ∧ (L.getD 5 false = true → x 43 = .agg #[.int .i64 cd, .int .i64 sd, .int .i64 dn, .int .i64 nx.id, .int .i64 nx.sv, .int .i64 nx.rt, .int .i64 nx.sq, .int .i64 nx.bs, .int .i64 nx.tg, .int .i64 nx.wt, .int .i64 nx.ccl, .int .i64 nx.csq, .int .i64 nx.cop, .string nx.ck, .string nx.cv, .string nx.co]) ∧ (L.getD 6 false = true → ∃ p C, x 9 = .pointer (some ⟨p, 0, none⟩) ∧ w3.heap.size ≤ p ∧ Blk w' p C 40 ∧ C.size = 16 ∧ (L.getD 7 false = true → C = #[.int .i64 cd, .int .i64 sd, .int .i64 dn, .int .i64 nx.id, .int .i64 nx.sv, .int .i64 nx.rt, .int .i64 nx.sq, .int .i64 nx.bs, .int .i64 nx.tg, .int .i64 nx.wt, .int .i64 nx.ccl, .int .i64 nx.csq, .int .i64 nx.cop, .string nx.ck, .string nx.cv, .string nx.co])) ∧ (L.getD 7 false = true → L.getD 6 false = true)) ?_ ?_ ?_
        · exact ⟨_, frame_self a0 [38, 39, 40, 41, 42, 43, 9], (Below.refl _ _).drew, fun h => (noBit h).elim, fun h => (noBit h).elim, fun h => (noBit h).elim, fun h => (noBit h).elim, fun h => (noBit h).elim, fun h => (noBit h).elim, fun h => (noBit h).elim, fun h => (noBit h).elim⟩
        · rintro L a w' i hsL hi ⟨x, rfl, hB, h0, h1, h2, h3, h4, h5, h6, h7⟩
          have hiL : i < 8 := (ready_mem hsL hi).1
          have hL : L.size = 8 := hsL
          have hw' : w3.heap.size ≤ w'.heap.size := hB.size
          rcases (show i = 0 ∨ i = 1 ∨ i = 2 ∨ i = 3 ∨ i = 4 ∨ i = 5 ∨ i = 6 ∨ i = 7 by omega) with rfl | rfl | rfl | rfl | rfl | rfl | rfl | rfl
          · skip
            refine wpOp_plain rfl rfl (wp_load_blk 35 (.tmp 3) rfl (w1.heap.size) ((frame_eval _ _ _ 3 rfl).trans e3) (BC.below hB (by omega)) Try.underlying35 rfl sizeCliD rfl ?_)
            exact ⟨_, frame_put _ _ _ 38 _ rfl, hB, fun h => upd_same _ _ _, fun h => by rw [upd_ne _ _ _ _ (by decide)]; exact (h1 (keepBit h (by omega) (by decide))), fun h => by rw [upd_ne _ _ _ _ (by decide)]; exact (h2 (keepBit h (by omega) (by decide))), fun h => by rw [upd_ne _ _ _ _ (by decide)]; exact (h3 (keepBit h (by omega) (by decide))), fun h => by rw [upd_ne _ _ _ _ (by decide)]; exact (h4 (keepBit h (by omega) (by decide))), fun h => by rw [upd_ne _ _ _ _ (by decide)]; exact (h5 (keepBit h (by omega) (by decide))), fun h => by obtain ⟨p, C, ep, hp, hP, hC, hR⟩ := h6 (keepBit h (by omega) (by decide)); exact ⟨p, C, (upd_ne _ _ _ _ (by decide)).trans ep, hp, hP, hC, fun hq6 => (hR (keepBit hq6 (by omega) (by decide)))⟩, fun h => setBit (h7 (keepBit h (by omega) (by decide))) (by omega)⟩
          · skip
            refine wpOp_plain rfl rfl (wp_move_go (.tmp 6) (Or.inl rfl) ?_)
            rw [frame_eval _ _ _ 6 rfl, e6]
            exact ⟨_, frame_put _ _ _ 39 _ rfl, hB, fun h => by rw [upd_ne _ _ _ _ (by decide)]; exact (h0 (keepBit h (by omega) (by decide))), fun h => upd_same _ _ _, fun h => by rw [upd_ne _ _ _ _ (by decide)]; exact (h2 (keepBit h (by omega) (by decide))), fun h => by rw [upd_ne _ _ _ _ (by decide)]; exact (h3 (keepBit h (by omega) (by decide))), fun h => by rw [upd_ne _ _ _ _ (by decide)]; exact (h4 (keepBit h (by omega) (by decide))), fun h => by rw [upd_ne _ _ _ _ (by decide)]; exact (h5 (keepBit h (by omega) (by decide))), fun h => by obtain ⟨p, C, ep, hp, hP, hC, hR⟩ := h6 (keepBit h (by omega) (by decide)); exact ⟨p, C, (upd_ne _ _ _ _ (by decide)).trans ep, hp, hP, hC, fun hq6 => (hR (keepBit hq6 (by omega) (by decide)))⟩, fun h => setBit (h7 (keepBit h (by omega) (by decide))) (by omega)⟩
          · skip
            refine wpOp_plain rfl rfl (wp_move_go (.tmp 7) (Or.inl rfl) ?_)
            rw [frame_eval _ _ _ 7 rfl, e7]
            exact ⟨_, frame_put _ _ _ 40 _ rfl, hB, fun h => by rw [upd_ne _ _ _ _ (by decide)]; exact (h0 (keepBit h (by omega) (by decide))), fun h => by rw [upd_ne _ _ _ _ (by decide)]; exact (h1 (keepBit h (by omega) (by decide))), fun h => upd_same _ _ _, fun h => by rw [upd_ne _ _ _ _ (by decide)]; exact (h3 (keepBit h (by omega) (by decide))), fun h => by rw [upd_ne _ _ _ _ (by decide)]; exact (h4 (keepBit h (by omega) (by decide))), fun h => by rw [upd_ne _ _ _ _ (by decide)]; exact (h5 (keepBit h (by omega) (by decide))), fun h => by obtain ⟨p, C, ep, hp, hP, hC, hR⟩ := h6 (keepBit h (by omega) (by decide)); exact ⟨p, C, (upd_ne _ _ _ _ (by decide)).trans ep, hp, hP, hC, fun hq6 => (hR (keepBit hq6 (by omega) (by decide)))⟩, fun h => setBit (h7 (keepBit h (by omega) (by decide))) (by omega)⟩
          · have d1 := h1 (ready_needs hi (by decide))
            have d2 := h2 (ready_needs hi (by decide))
            have ev39 : (frame a0 [38, 39, 40, 41, 42, 43, 9] x).tmps[39]?.getD undef = .slice (some ⟨g2, 0, none⟩) n cp2 := by have h := (frame_eval_in a0 [38, 39, 40, 41, 42, 43, 9] x 39 rfl (by omega)).trans d1; simpa [Act.eval] using h
            have ev40 : (frame a0 [38, 39, 40, 41, 42, 43, 9] x).tmps[40]?.getD undef = .int .i64 (j : Int) := by have h := (frame_eval_in a0 [38, 39, 40, 41, 42, 43, 9] x 40 rfl (by omega)).trans d2; simpa [Act.eval] using h
            refine wpOp_plain rfl rfl (wp_value_go (v := .pointer (some ⟨g2, j * 13, none⟩)) ?_ ?_)
            · obtain ⟨aa, haa⟩ : ∃ aa, aa = frame a0 [38, 39, 40, 41, 42, 43, 9] x := ⟨_, rfl⟩
              rw [← haa] at ev39 ev40 ⊢
              clear haa HA0
              go_simp
            exact ⟨_, frame_put _ _ _ 41 _ rfl, hB, fun h => by rw [upd_ne _ _ _ _ (by decide)]; exact (h0 (keepBit h (by omega) (by decide))), fun h => by rw [upd_ne _ _ _ _ (by decide)]; exact (h1 (keepBit h (by omega) (by decide))), fun h => by rw [upd_ne _ _ _ _ (by decide)]; exact (h2 (keepBit h (by omega) (by decide))), fun h => upd_same _ _ _, fun h => by rw [upd_ne _ _ _ _ (by decide)]; exact (h4 (keepBit h (by omega) (by decide))), fun h => by rw [upd_ne _ _ _ _ (by decide)]; exact (h5 (keepBit h (by omega) (by decide))), fun h => by obtain ⟨p, C, ep, hp, hP, hC, hR⟩ := h6 (keepBit h (by omega) (by decide)); exact ⟨p, C, (upd_ne _ _ _ _ (by decide)).trans ep, hp, hP, hC, fun hq6 => (hR (keepBit hq6 (by omega) (by decide)))⟩, fun h => setBit (h7 (keepBit h (by omega) (by decide))) (by omega)⟩
          · have d3 := h3 (ready_needs hi (by decide))
            have evp := (frame_eval_in a0 [38, 39, 40, 41, 42, 43, 9] x 41 rfl (by omega)).trans d3
            refine wpOp_plain rfl rfl (wp_load_mid 45 (.tmp 41) rfl (g2) (j * 13) evp ee.cells _ ((HO2.out.below hB).range j hjl hget) Try.underlying45 rfl sizeCevD ?_)
            exact ⟨_, frame_put _ _ _ 42 _ rfl, hB, fun h => by rw [upd_ne _ _ _ _ (by decide)]; exact (h0 (keepBit h (by omega) (by decide))), fun h => by rw [upd_ne _ _ _ _ (by decide)]; exact (h1 (keepBit h (by omega) (by decide))), fun h => by rw [upd_ne _ _ _ _ (by decide)]; exact (h2 (keepBit h (by omega) (by decide))), fun h => by rw [upd_ne _ _ _ _ (by decide)]; exact (h3 (keepBit h (by omega) (by decide))), fun h => upd_same _ _ _, fun h => by rw [upd_ne _ _ _ _ (by decide)]; exact (h5 (keepBit h (by omega) (by decide))), fun h => by obtain ⟨p, C, ep, hp, hP, hC, hR⟩ := h6 (keepBit h (by omega) (by decide)); exact ⟨p, C, (upd_ne _ _ _ _ (by decide)).trans ep, hp, hP, hC, fun hq6 => (hR (keepBit hq6 (by omega) (by decide)))⟩, fun h => setBit (h7 (keepBit h (by omega) (by decide))) (by omega)⟩
          · have d0 := h0 (ready_needs hi (by decide))
            have d4 := h4 (ready_needs hi (by decide))
            have ev38 := (frame_eval_in a0 [38, 39, 40, 41, 42, 43, 9] x 38 rfl (by omega)).trans d0
            have ev42 := (frame_eval_in a0 [38, 39, 40, 41, 42, 43, 9] x 42 rfl (by omega)).trans d4
            refine wpOp_plain rfl rfl (wp_call_go (N := 15) rfl (fun _ _ => by go_simp) #[.agg #[.int .i64 c.id, .int .i64 c.sv, .int .i64 c.rt, .int .i64 c.sq, .int .i64 c.bs, .int .i64 c.tg, .int .i64 c.wt, .int .i64 c.ccl, .int .i64 c.csq, .int .i64 c.cop, .string c.ck, .string c.cv, .string c.co], .agg #[.int .i64 ee.kd, .int .i64 ee.ecl, .int .i64 ee.esq, .int .i64 ee.eop, .string ee.ek, .string ee.ev, .string ee.eo, .int .i64 ee.rcl, .int .i64 ee.rsq, .int .i64 ee.rst, .int .i64 ee.rcd, .string ee.rv, .int .i64 ee.rld]] (by simp only [List.map_toArray, List.map_cons, List.map_nil, ev38, ev42]) ?_)
            refine Calls.mono (HIm.out _) ?_
            rintro e w2 ⟨rfl, hb⟩
            refine ⟨_, rfl, ?_⟩
            exact ⟨_, frame_put _ _ _ 43 _ rfl, hB.trans (hb.mono hw'), fun h => by rw [upd_ne _ _ _ _ (by decide)]; exact (h0 (keepBit h (by omega) (by decide))), fun h => by rw [upd_ne _ _ _ _ (by decide)]; exact (h1 (keepBit h (by omega) (by decide))), fun h => by rw [upd_ne _ _ _ _ (by decide)]; exact (h2 (keepBit h (by omega) (by decide))), fun h => by rw [upd_ne _ _ _ _ (by decide)]; exact (h3 (keepBit h (by omega) (by decide))), fun h => by rw [upd_ne _ _ _ _ (by decide)]; exact (h4 (keepBit h (by omega) (by decide))), fun h => upd_same _ _ _, fun h => by obtain ⟨p, C, ep, hp, hP, hC, hR⟩ := h6 (keepBit h (by omega) (by decide)); exact ⟨p, C, (upd_ne _ _ _ _ (by decide)).trans ep, hp, hP.below hb hP.lt, hC, fun hq6 => (hR (keepBit hq6 (by omega) (by decide)))⟩, fun h => setBit (h7 (keepBit h (by omega) (by decide))) (by omega)⟩
          · skip
            refine wpOp_plain rfl rfl (wp_alloc_go 40 #[.int .i64 0, .int .i64 0, .int .i64 0, .int .i64 0, .int .i64 0, .int .i64 0, .int .i64 0, .int .i64 0, .int .i64 0, .int .i64 0, .int .i64 0, .int .i64 0, .int .i64 0, .string ⟨#[]⟩, .string ⟨#[]⟩, .string ⟨#[]⟩] rfl (fun _ => by go_simp) ?_)
            have hb : Below w'.heap.size w' (w'.alloc (.cells #[.int .i64 0, .int .i64 0, .int .i64 0, .int .i64 0, .int .i64 0, .int .i64 0, .int .i64 0, .int .i64 0, .int .i64 0, .int .i64 0, .int .i64 0, .int .i64 0, .int .i64 0, .string ⟨#[]⟩, .string ⟨#[]⟩, .string ⟨#[]⟩] 40)) := (Below.refl _ _).alloc (Nat.le_refl _) _
            exact ⟨_, frame_put _ _ _ 9 _ rfl, hB.alloc hw' _, fun h => by rw [upd_ne _ _ _ _ (by decide)]; exact (h0 (keepBit h (by omega) (by decide))), fun h => by rw [upd_ne _ _ _ _ (by decide)]; exact (h1 (keepBit h (by omega) (by decide))), fun h => by rw [upd_ne _ _ _ _ (by decide)]; exact (h2 (keepBit h (by omega) (by decide))), fun h => by rw [upd_ne _ _ _ _ (by decide)]; exact (h3 (keepBit h (by omega) (by decide))), fun h => by rw [upd_ne _ _ _ _ (by decide)]; exact (h4 (keepBit h (by omega) (by decide))), fun h => by rw [upd_ne _ _ _ _ (by decide)]; exact (h5 (keepBit h (by omega) (by decide))), fun h => ⟨_, _, upd_same _ _ _, hw', Blk.new _ _ _, rfl, fun hq6 => (readyBit hsL hi (h7 (keepBit hq6 (by omega) (by decide)))).elim⟩, fun h => setSelf (by omega)⟩
          · have d5 := h5 (ready_needs hi (by decide))
            have d6 := h6 (ready_needs hi (by decide))
            obtain ⟨p, C, ep, hp, hP, hC, hR⟩ := d6
            have evp := (frame_eval_in a0 [38, 39, 40, 41, 42, 43, 9] x 9 rfl (by omega)).trans ep
            have evs := (frame_eval_in a0 [38, 39, 40, 41, 42, 43, 9] x 43 rfl (by omega)).trans d5
            refine wpOp_plain rfl rfl (wp_store_blk 40 (.tmp 9) (.tmp 43) rfl p evp evs hP sizeCliA rfl hC (by simp [Value.oneCell']) ?_)
            exact ⟨_, rfl, below_row hB hp _, fun h => (h0 (keepBit h (by omega) (by decide))), fun h => (h1 (keepBit h (by omega) (by decide))), fun h => (h2 (keepBit h (by omega) (by decide))), fun h => (h3 (keepBit h (by omega) (by decide))), fun h => (h4 (keepBit h (by omega) (by decide))), fun h => (h5 (keepBit h (by omega) (by decide))), fun h => ⟨p, _, ep, hp, hP.row _, rfl, fun _ => rfl⟩, fun h => setBit (ready_needs hi (by decide)) (by omega)⟩
        · rintro L a w' hsL hr ⟨x, rfl, hB, h0, h1, h2, h3, h4, h5, h6, h7⟩
          have hall := ready_nil hsL hr (by decide)
          replace h0 := h0 (hall 0 (by decide))
          replace h1 := h1 (hall 1 (by decide))
          replace h2 := h2 (hall 2 (by decide))
          replace h3 := h3 (hall 3 (by decide))
          replace h4 := h4 (hall 4 (by decide))
          replace h5 := h5 (hall 5 (by decide))
          replace h6 := h6 (hall 6 (by decide))
          replace h7 := h7 (hall 7 (by decide))
          obtain ⟨p, C, ep, hp, hP, hC, hR⟩ := h6
          replace hR := hR (hall 7 (by decide))
          rw [HA0.out]
          simp only [frame, List.zipIdx_cons, List.zipIdx_nil, List.map_cons, List.map_nil, List.contains_cons, List.contains_nil, Nat.reduceBEq, Nat.reduceAdd, Bool.or_false, Bool.false_or, Bool.or_true, Bool.true_or, Bool.false_eq_true, if_false, if_true, ep]
          have hpl1 := Pp1.lt
          replace Pp1 := Pp1.below hB Pp1.lt
          subst hR
          replace BC := BC.below hB (by omega)
          replace HO1 : Hid (OwnV w' w.heap.size (.slice (some ⟨g1, 0, none⟩) n cp1) (evsOf l k2 c0 n)) := HO1.out.below hB
          replace HO2 : Hid (OwnV w' (w1.heap.size + 1) (.slice (some ⟨g2, 0, none⟩) n cp2) (evsOf l k2 c0 n)) := HO2.out.below hB
          replace HB : Hid (Below w.heap.size w w') := HB.out.trans (hB.mono (by have := HB.out.size; omega))
          have zw4 := hB.size
          obtain ⟨p2, hpp⟩ : ∃ q, q = p := ⟨_, rfl⟩
          subst hpp
          obtain ⟨w4, hww⟩ : ∃ q, q = w' := ⟨_, rfl⟩
          subst hww
          have Pp2 := hP
          clear hP hB hC h0 h1 h2 h3 h4 h5 h7 hall hr hsL ep hp hsz0 HA0
          clear e3 e6 e7
          clear L a0
          obtain ⟨hok, hcd0, hcd3, hsend, _, _, _, _, _, _, hr1, hr2, hr3, hr4⟩ := hso'
          have hcc := cli_cases hso hrcl hbs01 hkd
          have hss := send_cases hsend
          clear hso hrcl hbs01 hkd hok HSp HIm hsend hnx
          obtain ⟨c_id, c_sv, c_rt, c_sq, c_bs, c_tg, c_wt, c_ccl, c_csq, c_cop, c_ck, c_cv, c_co⟩ := c
          obtain ⟨n_id, n_sv, n_rt, n_sq, n_bs, n_tg, n_wt, n_ccl, n_csq, n_cop, n_ck, n_cv, n_co⟩ := nx
          obtain ⟨e_kd, e_ecl, e_esq, e_eop, e_ek, e_ev, e_eo, e_rcl, e_rsq, e_rst, e_rcd, e_rv, e_rld⟩ := ee
          dsimp only at hcc hss hr1 hr2 hr3 hr4 BC Pp1 Pp2 hget hnx'
          rcases hcc with ⟨u1, u2, u3, u4, u5, u6, u7, u8, _, _⟩ | ⟨u1, u2, u3, u4, u5, u6, u7, u8, u9, u10, u11⟩ | ⟨u1, _, u3, u4, u5, u6, u7, u8, u9, u10, u11⟩ | ⟨u1, u2, u3, u4, u5, u6, u7, u8, u9, u10, u11⟩ | ⟨u1, u2, u3, u4, u5, u6, u7, u8, u9, ⟨u10, u11⟩, u12⟩ | ⟨u1, u2, u3, u4, u5, u6, u7, u8, u9, ⟨u10, u11⟩, ⟨u12, u13⟩, u14⟩ | ⟨u1, u2, u3, u4, u5, u6, u7, u8, _⟩
          · rcases hss with hs0 | ⟨hs0, hs1⟩
            · as_aux_lemma =>
              subst u1 u3 u5 u7 hs0
              obtain rfl : n_sq = n_csq := u6.trans u8.symm
              have v2 : (cd == 0) = true := by simp [u2]
              have H4 : Hid ((c_bs != 0) = false) := u4
              have H6 : Hid (n_sq = c_sq + 1) := u6
              clear hr1 hr2 u2 u4 u6 u8
              go_wp2_with (first
                | (have hBA := Pp2; refine gate_ld 35 (.tmp 44) rfl ?_; clear hBA; refine wpl_load_part rfl 35 (.tmp 44) rfl p2 3 rfl Pp2 [.int .i64 n_id, .int .i64 n_sv, .int .i64 n_rt, .int .i64 n_sq, .int .i64 1, .int .i64 n_tg, .int .i64 n_wt, .int .i64 n_ccl, .int .i64 n_sq, .int .i64 n_cop, .string n_ck, .string n_cv, .string n_co] rfl Try.underlying35 rfl sizeCliD ?_)
                | (have hBA := Pp2; refine gate_st 35 (.tmp 10) _ rfl ?_; clear hBA; refine wpl_store_last rfl 35 (.tmp 10) _ rfl (w4.heap.size) rfl rfl rfl sizeCliD rfl rfl (by simp [Value.oneCell']) ?_; obtain ⟨W, hW⟩ : ∃ W, W = w4.alloc (.cells #[.int .i64 n_id, .int .i64 n_sv, .int .i64 n_rt, .int .i64 n_sq, .int .i64 1, .int .i64 n_tg, .int .i64 n_wt, .int .i64 n_ccl, .int .i64 n_sq, .int .i64 n_cop, .string n_ck, .string n_cv, .string n_co] 35) := ⟨_, rfl⟩; rw [← hW]; have cW := (Pp1.alloc (.cells #[.int .i64 n_id, .int .i64 n_sv, .int .i64 n_rt, .int .i64 n_sq, .int .i64 1, .int .i64 n_tg, .int .i64 n_wt, .int .i64 n_ccl, .int .i64 n_sq, .int .i64 n_cop, .string n_ck, .string n_cv, .string n_co] 35)).cell; have cG := (Pp2.alloc (.cells #[.int .i64 n_id, .int .i64 n_sv, .int .i64 n_rt, .int .i64 n_sq, .int .i64 1, .int .i64 n_tg, .int .i64 n_wt, .int .i64 n_ccl, .int .i64 n_sq, .int .i64 n_cop, .string n_ck, .string n_cv, .string n_co] 35)).cell; have BCW := BC.alloc (.cells #[.int .i64 n_id, .int .i64 n_sv, .int .i64 n_rt, .int .i64 n_sq, .int .i64 1, .int .i64 n_tg, .int .i64 n_wt, .int .i64 n_ccl, .int .i64 n_sq, .int .i64 n_cop, .string n_ck, .string n_cv, .string n_co] 35); have BN := Blk.new w4 #[.int .i64 n_id, .int .i64 n_sv, .int .i64 n_rt, .int .i64 n_sq, .int .i64 1, .int .i64 n_tg, .int .i64 n_wt, .int .i64 n_ccl, .int .i64 n_sq, .int .i64 n_cop, .string n_ck, .string n_cv, .string n_co] 35; have HR := (HO1.out.below ((Below.refl _ _).alloc (Nat.le_refl _) (.cells #[.int .i64 n_id, .int .i64 n_sv, .int .i64 n_rt, .int .i64 n_sq, .int .i64 1, .int .i64 n_tg, .int .i64 n_wt, .int .i64 n_ccl, .int .i64 n_sq, .int .i64 n_cop, .string n_ck, .string n_cv, .string n_co] 35))).range j hjl hget; rw [← hW] at cW cG BCW BN HR; have HW : Hid (W = w4.alloc (.cells #[.int .i64 n_id, .int .i64 n_sv, .int .i64 n_rt, .int .i64 n_sq, .int .i64 1, .int .i64 n_tg, .int .i64 n_wt, .int .i64 n_ccl, .int .i64 n_sq, .int .i64 n_cop, .string n_ck, .string n_cv, .string n_co] 35)) := hW; clear hW; have cC := BCW.cell; have cN := BN.cell; have cE0 : W.cell? ⟨g1, j * 13, none⟩ = some _ := HR 0 _ rfl; have cE4 : W.cell? ⟨g1, j * 13 + 4, none⟩ = some _ := HR 4 _ rfl; have cE4b : W.cell? ⟨g1, j * 13 + 1 + 3, none⟩ = some _ := HR 4 _ rfl; have cE7 : W.cell? ⟨g1, j * 13 + 7, none⟩ = some _ := HR 7 _ rfl; have cE8 : W.cell? ⟨g1, j * 13 + 8, none⟩ = some _ := HR 8 _ rfl; have cE8b : W.cell? ⟨g1, j * 13 + 7 + 1, none⟩ = some _ := HR 8 _ rfl; have cE9 : W.cell? ⟨g1, j * 13 + 9, none⟩ = some _ := HR 9 _ rfl; have cE9b : W.cell? ⟨g1, j * 13 + 7 + 2, none⟩ = some _ := HR 9 _ rfl; clear HR))
              all_goals go_quiet (fail)
              all_goals (have u4 := H4.out; have v6 : (n_sq != c_sq + 1) = false := by simp [H6.out])
              skip
              all_goals go_wp2_with (first
                | (have hBA := Pp2; refine gate_ld 35 (.tmp 10) rfl ?_; clear hBA; refine wpl_load_blk rfl 35 (.tmp 10) rfl (w4.heap.size) rfl (BN.drewN _) Try.underlying35 rfl sizeCliD rfl ?_)
                | (have hBA := Pp2; refine gate_st 35 (.tmp 3) _ rfl ?_; clear hBA; refine wpl_store_blk rfl 35 (.tmp 3) _ rfl (w1.heap.size) rfl rfl (BCW.drewN _) sizeCliD rfl rfl (by simp [Value.oneCell']) ?_))
              all_goals go_quiet (fail)
              all_goals go_upto_region 23 with (fail)
              all_goals go_wp2_with (first
                | (have hBA := Pp2; refine gate_ld 35 (.tmp 10) rfl ?_; clear hBA; refine wpl_load_blk rfl 35 (.tmp 10) rfl (w4.heap.size) rfl (BN.drewN _) Try.underlying35 rfl sizeCliD rfl ?_)
                | (have hBA := Pp2; refine gate_st 35 (.tmp 3) _ rfl ?_; clear hBA; refine wpl_store_blk rfl 35 (.tmp 3) _ rfl (w1.heap.size) rfl rfl (BCW.drewN _) sizeCliD rfl rfl (by simp [Value.oneCell']) ?_))
              all_goals go_roundw
              all_goals first
                | (simp [intOf]; omega)
                | (refine ⟨j + 1, by omega, by go_num, ?_⟩; rw [hnx'];  exact cli_rel (show W.heap = _ by rw [HW.out]) (show W.os = _ by rw [HW.out]; rfl) (show W.tape = _ by rw [HW.out]; rfl) (show W.output = _ by rw [HW.out]; rfl) BC HO1.out HO2.out HB.out (by omega) (by omega) (by omega))
            · as_aux_lemma =>
              subst u1 u3 u5 u7 hs0
              obtain rfl : n_sq = n_csq := u6.trans u8.symm
              have v2 : (cd == 0) = true := by simp [u2]
              have H4 : Hid ((c_bs != 0) = false) := u4
              have H6 : Hid (n_sq = c_sq + 1) := u6
              clear hr1 hr2 u2 u4 u6 u8
              go_wp2_with (first
                | (have hBA := Pp2; refine gate_ld 35 (.tmp 44) rfl ?_; clear hBA; refine wpl_load_part rfl 35 (.tmp 44) rfl p2 3 rfl Pp2 [.int .i64 n_id, .int .i64 n_sv, .int .i64 n_rt, .int .i64 n_sq, .int .i64 1, .int .i64 n_tg, .int .i64 n_wt, .int .i64 n_ccl, .int .i64 n_sq, .int .i64 n_cop, .string n_ck, .string n_cv, .string n_co] rfl Try.underlying35 rfl sizeCliD ?_)
                | (have hBA := Pp2; refine gate_st 35 (.tmp 10) _ rfl ?_; clear hBA; refine wpl_store_last rfl 35 (.tmp 10) _ rfl (w4.heap.size) rfl rfl rfl sizeCliD rfl rfl (by simp [Value.oneCell']) ?_; obtain ⟨W, hW⟩ : ∃ W, W = w4.alloc (.cells #[.int .i64 n_id, .int .i64 n_sv, .int .i64 n_rt, .int .i64 n_sq, .int .i64 1, .int .i64 n_tg, .int .i64 n_wt, .int .i64 n_ccl, .int .i64 n_sq, .int .i64 n_cop, .string n_ck, .string n_cv, .string n_co] 35) := ⟨_, rfl⟩; rw [← hW]; have cW := (Pp1.alloc (.cells #[.int .i64 n_id, .int .i64 n_sv, .int .i64 n_rt, .int .i64 n_sq, .int .i64 1, .int .i64 n_tg, .int .i64 n_wt, .int .i64 n_ccl, .int .i64 n_sq, .int .i64 n_cop, .string n_ck, .string n_cv, .string n_co] 35)).cell; have cG := (Pp2.alloc (.cells #[.int .i64 n_id, .int .i64 n_sv, .int .i64 n_rt, .int .i64 n_sq, .int .i64 1, .int .i64 n_tg, .int .i64 n_wt, .int .i64 n_ccl, .int .i64 n_sq, .int .i64 n_cop, .string n_ck, .string n_cv, .string n_co] 35)).cell; have BCW := BC.alloc (.cells #[.int .i64 n_id, .int .i64 n_sv, .int .i64 n_rt, .int .i64 n_sq, .int .i64 1, .int .i64 n_tg, .int .i64 n_wt, .int .i64 n_ccl, .int .i64 n_sq, .int .i64 n_cop, .string n_ck, .string n_cv, .string n_co] 35); have BN := Blk.new w4 #[.int .i64 n_id, .int .i64 n_sv, .int .i64 n_rt, .int .i64 n_sq, .int .i64 1, .int .i64 n_tg, .int .i64 n_wt, .int .i64 n_ccl, .int .i64 n_sq, .int .i64 n_cop, .string n_ck, .string n_cv, .string n_co] 35; have HR := (HO1.out.below ((Below.refl _ _).alloc (Nat.le_refl _) (.cells #[.int .i64 n_id, .int .i64 n_sv, .int .i64 n_rt, .int .i64 n_sq, .int .i64 1, .int .i64 n_tg, .int .i64 n_wt, .int .i64 n_ccl, .int .i64 n_sq, .int .i64 n_cop, .string n_ck, .string n_cv, .string n_co] 35))).range j hjl hget; rw [← hW] at cW cG BCW BN HR; have HW : Hid (W = w4.alloc (.cells #[.int .i64 n_id, .int .i64 n_sv, .int .i64 n_rt, .int .i64 n_sq, .int .i64 1, .int .i64 n_tg, .int .i64 n_wt, .int .i64 n_ccl, .int .i64 n_sq, .int .i64 n_cop, .string n_ck, .string n_cv, .string n_co] 35)) := hW; clear hW; have cC := BCW.cell; have cN := BN.cell; have cE0 : W.cell? ⟨g1, j * 13, none⟩ = some _ := HR 0 _ rfl; have cE4 : W.cell? ⟨g1, j * 13 + 4, none⟩ = some _ := HR 4 _ rfl; have cE4b : W.cell? ⟨g1, j * 13 + 1 + 3, none⟩ = some _ := HR 4 _ rfl; have cE7 : W.cell? ⟨g1, j * 13 + 7, none⟩ = some _ := HR 7 _ rfl; have cE8 : W.cell? ⟨g1, j * 13 + 8, none⟩ = some _ := HR 8 _ rfl; have cE8b : W.cell? ⟨g1, j * 13 + 7 + 1, none⟩ = some _ := HR 8 _ rfl; have cE9 : W.cell? ⟨g1, j * 13 + 9, none⟩ = some _ := HR 9 _ rfl; have cE9b : W.cell? ⟨g1, j * 13 + 7 + 2, none⟩ = some _ := HR 9 _ rfl; clear HR))
              all_goals go_quiet (fail)
              all_goals (have u4 := H4.out; have v6 : (n_sq != c_sq + 1) = false := by simp [H6.out])
              skip
              all_goals go_wp2_with (first
                | (have hBA := Pp2; refine gate_ld 35 (.tmp 10) rfl ?_; clear hBA; refine wpl_load_blk rfl 35 (.tmp 10) rfl (w4.heap.size) rfl (BN.drewN _) Try.underlying35 rfl sizeCliD rfl ?_)
                | (have hBA := Pp2; refine gate_st 35 (.tmp 3) _ rfl ?_; clear hBA; refine wpl_store_blk rfl 35 (.tmp 3) _ rfl (w1.heap.size) rfl rfl (BCW.drewN _) sizeCliD rfl rfl (by simp [Value.oneCell']) ?_))
              all_goals go_quiet (fail)
              all_goals go_upto_region 23 with (fail)
              all_goals go_wp2_with (first
                | (have hBA := Pp2; refine gate_ld 35 (.tmp 10) rfl ?_; clear hBA; refine wpl_load_blk rfl 35 (.tmp 10) rfl (w4.heap.size) rfl (BN.drewN _) Try.underlying35 rfl sizeCliD rfl ?_)
                | (have hBA := Pp2; refine gate_st 35 (.tmp 3) _ rfl ?_; clear hBA; refine wpl_store_blk rfl 35 (.tmp 3) _ rfl (w1.heap.size) rfl rfl (BCW.drewN _) sizeCliD rfl rfl (by simp [Value.oneCell']) ?_))
              all_goals go_roundw
              all_goals first
                | (simp [intOf]; omega)
                | (refine ⟨j + 1, by omega, by go_num, ?_⟩; rw [hnx'];  exact cli_rel (show W.heap = _ by rw [HW.out]) (show W.os = _ by rw [HW.out]; rfl) (show W.tape = _ by rw [HW.out]; rfl) (show W.output = _ by rw [HW.out]; rfl) BC HO1.out HO2.out HB.out (by omega) (by omega) (by omega))
          · rcases hss with hs0 | ⟨hs0, hs1⟩
            · as_aux_lemma =>
              subst u1 u3 u4 u5 u6 u7 u8 u9 u10 u11 hs0
              go_wp2_with (first
                | (have hBA := Pp2; refine gate_ld 35 (.tmp 44) rfl ?_; clear hBA; refine wpl_load_part rfl 35 (.tmp 44) rfl p2 3 rfl Pp2 [.int .i64 n_id, .int .i64 n_sv, .int .i64 n_rt, .int .i64 n_sq, .int .i64 n_bs, .int .i64 n_tg, .int .i64 n_wt, .int .i64 n_ccl, .int .i64 n_csq, .int .i64 n_cop, .string n_ck, .string n_cv, .string n_co] rfl Try.underlying35 rfl sizeCliD ?_)
                | (have hBA := Pp2; refine gate_st 35 (.tmp 10) _ rfl ?_; clear hBA; refine wpl_store_last rfl 35 (.tmp 10) _ rfl (w4.heap.size) rfl rfl rfl sizeCliD rfl rfl (by simp [Value.oneCell']) ?_; obtain ⟨W, hW⟩ : ∃ W, W = w4.alloc (.cells #[.int .i64 n_id, .int .i64 n_sv, .int .i64 n_rt, .int .i64 n_sq, .int .i64 n_bs, .int .i64 n_tg, .int .i64 n_wt, .int .i64 n_ccl, .int .i64 n_csq, .int .i64 n_cop, .string n_ck, .string n_cv, .string n_co] 35) := ⟨_, rfl⟩; rw [← hW]; have cW := (Pp1.alloc (.cells #[.int .i64 n_id, .int .i64 n_sv, .int .i64 n_rt, .int .i64 n_sq, .int .i64 n_bs, .int .i64 n_tg, .int .i64 n_wt, .int .i64 n_ccl, .int .i64 n_csq, .int .i64 n_cop, .string n_ck, .string n_cv, .string n_co] 35)).cell; have cG := (Pp2.alloc (.cells #[.int .i64 n_id, .int .i64 n_sv, .int .i64 n_rt, .int .i64 n_sq, .int .i64 n_bs, .int .i64 n_tg, .int .i64 n_wt, .int .i64 n_ccl, .int .i64 n_csq, .int .i64 n_cop, .string n_ck, .string n_cv, .string n_co] 35)).cell; have BCW := BC.alloc (.cells #[.int .i64 n_id, .int .i64 n_sv, .int .i64 n_rt, .int .i64 n_sq, .int .i64 n_bs, .int .i64 n_tg, .int .i64 n_wt, .int .i64 n_ccl, .int .i64 n_csq, .int .i64 n_cop, .string n_ck, .string n_cv, .string n_co] 35); have BN := Blk.new w4 #[.int .i64 n_id, .int .i64 n_sv, .int .i64 n_rt, .int .i64 n_sq, .int .i64 n_bs, .int .i64 n_tg, .int .i64 n_wt, .int .i64 n_ccl, .int .i64 n_csq, .int .i64 n_cop, .string n_ck, .string n_cv, .string n_co] 35; have HR := (HO1.out.below ((Below.refl _ _).alloc (Nat.le_refl _) (.cells #[.int .i64 n_id, .int .i64 n_sv, .int .i64 n_rt, .int .i64 n_sq, .int .i64 n_bs, .int .i64 n_tg, .int .i64 n_wt, .int .i64 n_ccl, .int .i64 n_csq, .int .i64 n_cop, .string n_ck, .string n_cv, .string n_co] 35))).range j hjl hget; rw [← hW] at cW cG BCW BN HR; have HW : Hid (W = w4.alloc (.cells #[.int .i64 n_id, .int .i64 n_sv, .int .i64 n_rt, .int .i64 n_sq, .int .i64 n_bs, .int .i64 n_tg, .int .i64 n_wt, .int .i64 n_ccl, .int .i64 n_csq, .int .i64 n_cop, .string n_ck, .string n_cv, .string n_co] 35)) := hW; clear hW; have cC := BCW.cell; have cN := BN.cell; have cE0 : W.cell? ⟨g1, j * 13, none⟩ = some _ := HR 0 _ rfl; have cE4 : W.cell? ⟨g1, j * 13 + 4, none⟩ = some _ := HR 4 _ rfl; have cE4b : W.cell? ⟨g1, j * 13 + 1 + 3, none⟩ = some _ := HR 4 _ rfl; have cE7 : W.cell? ⟨g1, j * 13 + 7, none⟩ = some _ := HR 7 _ rfl; have cE8 : W.cell? ⟨g1, j * 13 + 8, none⟩ = some _ := HR 8 _ rfl; have cE8b : W.cell? ⟨g1, j * 13 + 7 + 1, none⟩ = some _ := HR 8 _ rfl; have cE9 : W.cell? ⟨g1, j * 13 + 9, none⟩ = some _ := HR 9 _ rfl; have cE9b : W.cell? ⟨g1, j * 13 + 7 + 2, none⟩ = some _ := HR 9 _ rfl; clear HR))
              all_goals go_quiet (fail)
              have hE := fun u => eqSame_run 9998 n_ccl n_csq n_cop n_ck n_cv n_co u
              all_goals go_wp2_with (first
                | (have hBA := Pp2; refine gate_ld 35 (.tmp 10) rfl ?_; clear hBA; refine wpl_load_blk rfl 35 (.tmp 10) rfl (w4.heap.size) rfl (BN.drewN _) Try.underlying35 rfl sizeCliD rfl ?_)
                | (have hBA := Pp2; refine gate_st 35 (.tmp 3) _ rfl ?_; clear hBA; refine wpl_store_blk rfl 35 (.tmp 3) _ rfl (w1.heap.size) rfl rfl (BCW.drewN _) sizeCliD rfl rfl (by simp [Value.oneCell']) ?_))
              all_goals go_quiet (fail)
              all_goals go_wp2_with (first
                | (have hBA := Pp2; refine gate_ld 35 (.tmp 10) rfl ?_; clear hBA; refine wpl_load_blk rfl 35 (.tmp 10) rfl (w4.heap.size) rfl (BN.drewN _) Try.underlying35 rfl sizeCliD rfl ?_)
                | (have hBA := Pp2; refine gate_st 35 (.tmp 3) _ rfl ?_; clear hBA; refine wpl_store_blk rfl 35 (.tmp 3) _ rfl (w1.heap.size) rfl rfl (BCW.drewN _) sizeCliD rfl rfl (by simp [Value.oneCell']) ?_))
              all_goals go_roundw
              all_goals first
                | (simp [intOf]; omega)
                | (refine ⟨j + 1, by omega, by go_num, ?_⟩; rw [hnx'];  exact cli_rel (show W.heap = _ by rw [HW.out]) (show W.os = _ by rw [HW.out]; rfl) (show W.tape = _ by rw [HW.out]; rfl) (show W.output = _ by rw [HW.out]; rfl) BC HO1.out HO2.out HB.out (by omega) (by omega) (by omega))
            · as_aux_lemma =>
              subst u1 u3 u4 u5 u6 u7 u8 u9 u10 u11 hs0
              go_wp2_with (first
                | (have hBA := Pp2; refine gate_ld 35 (.tmp 44) rfl ?_; clear hBA; refine wpl_load_part rfl 35 (.tmp 44) rfl p2 3 rfl Pp2 [.int .i64 n_id, .int .i64 n_sv, .int .i64 n_rt, .int .i64 n_sq, .int .i64 n_bs, .int .i64 n_tg, .int .i64 n_wt, .int .i64 n_ccl, .int .i64 n_csq, .int .i64 n_cop, .string n_ck, .string n_cv, .string n_co] rfl Try.underlying35 rfl sizeCliD ?_)
                | (have hBA := Pp2; refine gate_st 35 (.tmp 10) _ rfl ?_; clear hBA; refine wpl_store_last rfl 35 (.tmp 10) _ rfl (w4.heap.size) rfl rfl rfl sizeCliD rfl rfl (by simp [Value.oneCell']) ?_; obtain ⟨W, hW⟩ : ∃ W, W = w4.alloc (.cells #[.int .i64 n_id, .int .i64 n_sv, .int .i64 n_rt, .int .i64 n_sq, .int .i64 n_bs, .int .i64 n_tg, .int .i64 n_wt, .int .i64 n_ccl, .int .i64 n_csq, .int .i64 n_cop, .string n_ck, .string n_cv, .string n_co] 35) := ⟨_, rfl⟩; rw [← hW]; have cW := (Pp1.alloc (.cells #[.int .i64 n_id, .int .i64 n_sv, .int .i64 n_rt, .int .i64 n_sq, .int .i64 n_bs, .int .i64 n_tg, .int .i64 n_wt, .int .i64 n_ccl, .int .i64 n_csq, .int .i64 n_cop, .string n_ck, .string n_cv, .string n_co] 35)).cell; have cG := (Pp2.alloc (.cells #[.int .i64 n_id, .int .i64 n_sv, .int .i64 n_rt, .int .i64 n_sq, .int .i64 n_bs, .int .i64 n_tg, .int .i64 n_wt, .int .i64 n_ccl, .int .i64 n_csq, .int .i64 n_cop, .string n_ck, .string n_cv, .string n_co] 35)).cell; have BCW := BC.alloc (.cells #[.int .i64 n_id, .int .i64 n_sv, .int .i64 n_rt, .int .i64 n_sq, .int .i64 n_bs, .int .i64 n_tg, .int .i64 n_wt, .int .i64 n_ccl, .int .i64 n_csq, .int .i64 n_cop, .string n_ck, .string n_cv, .string n_co] 35); have BN := Blk.new w4 #[.int .i64 n_id, .int .i64 n_sv, .int .i64 n_rt, .int .i64 n_sq, .int .i64 n_bs, .int .i64 n_tg, .int .i64 n_wt, .int .i64 n_ccl, .int .i64 n_csq, .int .i64 n_cop, .string n_ck, .string n_cv, .string n_co] 35; have HR := (HO1.out.below ((Below.refl _ _).alloc (Nat.le_refl _) (.cells #[.int .i64 n_id, .int .i64 n_sv, .int .i64 n_rt, .int .i64 n_sq, .int .i64 n_bs, .int .i64 n_tg, .int .i64 n_wt, .int .i64 n_ccl, .int .i64 n_csq, .int .i64 n_cop, .string n_ck, .string n_cv, .string n_co] 35))).range j hjl hget; rw [← hW] at cW cG BCW BN HR; have HW : Hid (W = w4.alloc (.cells #[.int .i64 n_id, .int .i64 n_sv, .int .i64 n_rt, .int .i64 n_sq, .int .i64 n_bs, .int .i64 n_tg, .int .i64 n_wt, .int .i64 n_ccl, .int .i64 n_csq, .int .i64 n_cop, .string n_ck, .string n_cv, .string n_co] 35)) := hW; clear hW; have cC := BCW.cell; have cN := BN.cell; have cE0 : W.cell? ⟨g1, j * 13, none⟩ = some _ := HR 0 _ rfl; have cE4 : W.cell? ⟨g1, j * 13 + 4, none⟩ = some _ := HR 4 _ rfl; have cE4b : W.cell? ⟨g1, j * 13 + 1 + 3, none⟩ = some _ := HR 4 _ rfl; have cE7 : W.cell? ⟨g1, j * 13 + 7, none⟩ = some _ := HR 7 _ rfl; have cE8 : W.cell? ⟨g1, j * 13 + 8, none⟩ = some _ := HR 8 _ rfl; have cE8b : W.cell? ⟨g1, j * 13 + 7 + 1, none⟩ = some _ := HR 8 _ rfl; have cE9 : W.cell? ⟨g1, j * 13 + 9, none⟩ = some _ := HR 9 _ rfl; have cE9b : W.cell? ⟨g1, j * 13 + 7 + 2, none⟩ = some _ := HR 9 _ rfl; clear HR))
              all_goals go_quiet (fail)
              have hE := fun u => eqSame_run 9998 n_ccl n_csq n_cop n_ck n_cv n_co u
              all_goals go_wp2_with (first
                | (have hBA := Pp2; refine gate_ld 35 (.tmp 10) rfl ?_; clear hBA; refine wpl_load_blk rfl 35 (.tmp 10) rfl (w4.heap.size) rfl (BN.drewN _) Try.underlying35 rfl sizeCliD rfl ?_)
                | (have hBA := Pp2; refine gate_st 35 (.tmp 3) _ rfl ?_; clear hBA; refine wpl_store_blk rfl 35 (.tmp 3) _ rfl (w1.heap.size) rfl rfl (BCW.drewN _) sizeCliD rfl rfl (by simp [Value.oneCell']) ?_))
              all_goals go_quiet (fail)
              all_goals go_wp2_with (first
                | (have hBA := Pp2; refine gate_ld 35 (.tmp 10) rfl ?_; clear hBA; refine wpl_load_blk rfl 35 (.tmp 10) rfl (w4.heap.size) rfl (BN.drewN _) Try.underlying35 rfl sizeCliD rfl ?_)
                | (have hBA := Pp2; refine gate_st 35 (.tmp 3) _ rfl ?_; clear hBA; refine wpl_store_blk rfl 35 (.tmp 3) _ rfl (w1.heap.size) rfl rfl (BCW.drewN _) sizeCliD rfl rfl (by simp [Value.oneCell']) ?_))
              all_goals go_roundw
              all_goals first
                | (simp [intOf]; omega)
                | (refine ⟨j + 1, by omega, by go_num, ?_⟩; rw [hnx'];  exact cli_rel (show W.heap = _ by rw [HW.out]) (show W.os = _ by rw [HW.out]; rfl) (show W.tape = _ by rw [HW.out]; rfl) (show W.output = _ by rw [HW.out]; rfl) BC HO1.out HO2.out HB.out (by omega) (by omega) (by omega))
          · rcases hss with hs0 | ⟨hs0, hs1⟩
            · as_aux_lemma =>
              subst u1 u3 u4 u5 u6 u7 u8 u9 u10 u11 hs0
              go_wp2_with (first
                | (have hBA := Pp2; refine gate_ld 35 (.tmp 44) rfl ?_; clear hBA; refine wpl_load_part rfl 35 (.tmp 44) rfl p2 3 rfl Pp2 [.int .i64 n_id, .int .i64 n_sv, .int .i64 n_rt, .int .i64 n_sq, .int .i64 n_bs, .int .i64 n_tg, .int .i64 n_wt, .int .i64 n_ccl, .int .i64 n_csq, .int .i64 n_cop, .string n_ck, .string n_cv, .string n_co] rfl Try.underlying35 rfl sizeCliD ?_)
                | (have hBA := Pp2; refine gate_st 35 (.tmp 10) _ rfl ?_; clear hBA; refine wpl_store_last rfl 35 (.tmp 10) _ rfl (w4.heap.size) rfl rfl rfl sizeCliD rfl rfl (by simp [Value.oneCell']) ?_; obtain ⟨W, hW⟩ : ∃ W, W = w4.alloc (.cells #[.int .i64 n_id, .int .i64 n_sv, .int .i64 n_rt, .int .i64 n_sq, .int .i64 n_bs, .int .i64 n_tg, .int .i64 n_wt, .int .i64 n_ccl, .int .i64 n_csq, .int .i64 n_cop, .string n_ck, .string n_cv, .string n_co] 35) := ⟨_, rfl⟩; rw [← hW]; have cW := (Pp1.alloc (.cells #[.int .i64 n_id, .int .i64 n_sv, .int .i64 n_rt, .int .i64 n_sq, .int .i64 n_bs, .int .i64 n_tg, .int .i64 n_wt, .int .i64 n_ccl, .int .i64 n_csq, .int .i64 n_cop, .string n_ck, .string n_cv, .string n_co] 35)).cell; have cG := (Pp2.alloc (.cells #[.int .i64 n_id, .int .i64 n_sv, .int .i64 n_rt, .int .i64 n_sq, .int .i64 n_bs, .int .i64 n_tg, .int .i64 n_wt, .int .i64 n_ccl, .int .i64 n_csq, .int .i64 n_cop, .string n_ck, .string n_cv, .string n_co] 35)).cell; have BCW := BC.alloc (.cells #[.int .i64 n_id, .int .i64 n_sv, .int .i64 n_rt, .int .i64 n_sq, .int .i64 n_bs, .int .i64 n_tg, .int .i64 n_wt, .int .i64 n_ccl, .int .i64 n_csq, .int .i64 n_cop, .string n_ck, .string n_cv, .string n_co] 35); have BN := Blk.new w4 #[.int .i64 n_id, .int .i64 n_sv, .int .i64 n_rt, .int .i64 n_sq, .int .i64 n_bs, .int .i64 n_tg, .int .i64 n_wt, .int .i64 n_ccl, .int .i64 n_csq, .int .i64 n_cop, .string n_ck, .string n_cv, .string n_co] 35; have HR := (HO1.out.below ((Below.refl _ _).alloc (Nat.le_refl _) (.cells #[.int .i64 n_id, .int .i64 n_sv, .int .i64 n_rt, .int .i64 n_sq, .int .i64 n_bs, .int .i64 n_tg, .int .i64 n_wt, .int .i64 n_ccl, .int .i64 n_csq, .int .i64 n_cop, .string n_ck, .string n_cv, .string n_co] 35))).range j hjl hget; rw [← hW] at cW cG BCW BN HR; have HW : Hid (W = w4.alloc (.cells #[.int .i64 n_id, .int .i64 n_sv, .int .i64 n_rt, .int .i64 n_sq, .int .i64 n_bs, .int .i64 n_tg, .int .i64 n_wt, .int .i64 n_ccl, .int .i64 n_csq, .int .i64 n_cop, .string n_ck, .string n_cv, .string n_co] 35)) := hW; clear hW; have cC := BCW.cell; have cN := BN.cell; have cE0 : W.cell? ⟨g1, j * 13, none⟩ = some _ := HR 0 _ rfl; have cE4 : W.cell? ⟨g1, j * 13 + 4, none⟩ = some _ := HR 4 _ rfl; have cE4b : W.cell? ⟨g1, j * 13 + 1 + 3, none⟩ = some _ := HR 4 _ rfl; have cE7 : W.cell? ⟨g1, j * 13 + 7, none⟩ = some _ := HR 7 _ rfl; have cE8 : W.cell? ⟨g1, j * 13 + 8, none⟩ = some _ := HR 8 _ rfl; have cE8b : W.cell? ⟨g1, j * 13 + 7 + 1, none⟩ = some _ := HR 8 _ rfl; have cE9 : W.cell? ⟨g1, j * 13 + 9, none⟩ = some _ := HR 9 _ rfl; have cE9b : W.cell? ⟨g1, j * 13 + 7 + 2, none⟩ = some _ := HR 9 _ rfl; clear HR))
              all_goals go_quiet (fail)
              have hE := fun u => eqSame_run 9998 n_ccl n_csq n_cop n_ck n_cv n_co u
              all_goals go_wp2_with (first
                | (have hBA := Pp2; refine gate_ld 35 (.tmp 10) rfl ?_; clear hBA; refine wpl_load_blk rfl 35 (.tmp 10) rfl (w4.heap.size) rfl (BN.drewN _) Try.underlying35 rfl sizeCliD rfl ?_)
                | (have hBA := Pp2; refine gate_st 35 (.tmp 3) _ rfl ?_; clear hBA; refine wpl_store_blk rfl 35 (.tmp 3) _ rfl (w1.heap.size) rfl rfl (BCW.drewN _) sizeCliD rfl rfl (by simp [Value.oneCell']) ?_))
              all_goals go_quiet (fail)
              all_goals go_wp2_with (first
                | (have hBA := Pp2; refine gate_ld 35 (.tmp 10) rfl ?_; clear hBA; refine wpl_load_blk rfl 35 (.tmp 10) rfl (w4.heap.size) rfl (BN.drewN _) Try.underlying35 rfl sizeCliD rfl ?_)
                | (have hBA := Pp2; refine gate_st 35 (.tmp 3) _ rfl ?_; clear hBA; refine wpl_store_blk rfl 35 (.tmp 3) _ rfl (w1.heap.size) rfl rfl (BCW.drewN _) sizeCliD rfl rfl (by simp [Value.oneCell']) ?_))
              all_goals go_roundw
              all_goals first
                | (simp [intOf]; omega)
                | (refine ⟨j + 1, by omega, by go_num, ?_⟩; rw [hnx'];  exact cli_rel (show W.heap = _ by rw [HW.out]) (show W.os = _ by rw [HW.out]; rfl) (show W.tape = _ by rw [HW.out]; rfl) (show W.output = _ by rw [HW.out]; rfl) BC HO1.out HO2.out HB.out (by omega) (by omega) (by omega))
            · as_aux_lemma =>
              subst u1 u3 u4 u5 u6 u7 u8 u9 u10 u11 hs0
              go_wp2_with (first
                | (have hBA := Pp2; refine gate_ld 35 (.tmp 44) rfl ?_; clear hBA; refine wpl_load_part rfl 35 (.tmp 44) rfl p2 3 rfl Pp2 [.int .i64 n_id, .int .i64 n_sv, .int .i64 n_rt, .int .i64 n_sq, .int .i64 n_bs, .int .i64 n_tg, .int .i64 n_wt, .int .i64 n_ccl, .int .i64 n_csq, .int .i64 n_cop, .string n_ck, .string n_cv, .string n_co] rfl Try.underlying35 rfl sizeCliD ?_)
                | (have hBA := Pp2; refine gate_st 35 (.tmp 10) _ rfl ?_; clear hBA; refine wpl_store_last rfl 35 (.tmp 10) _ rfl (w4.heap.size) rfl rfl rfl sizeCliD rfl rfl (by simp [Value.oneCell']) ?_; obtain ⟨W, hW⟩ : ∃ W, W = w4.alloc (.cells #[.int .i64 n_id, .int .i64 n_sv, .int .i64 n_rt, .int .i64 n_sq, .int .i64 n_bs, .int .i64 n_tg, .int .i64 n_wt, .int .i64 n_ccl, .int .i64 n_csq, .int .i64 n_cop, .string n_ck, .string n_cv, .string n_co] 35) := ⟨_, rfl⟩; rw [← hW]; have cW := (Pp1.alloc (.cells #[.int .i64 n_id, .int .i64 n_sv, .int .i64 n_rt, .int .i64 n_sq, .int .i64 n_bs, .int .i64 n_tg, .int .i64 n_wt, .int .i64 n_ccl, .int .i64 n_csq, .int .i64 n_cop, .string n_ck, .string n_cv, .string n_co] 35)).cell; have cG := (Pp2.alloc (.cells #[.int .i64 n_id, .int .i64 n_sv, .int .i64 n_rt, .int .i64 n_sq, .int .i64 n_bs, .int .i64 n_tg, .int .i64 n_wt, .int .i64 n_ccl, .int .i64 n_csq, .int .i64 n_cop, .string n_ck, .string n_cv, .string n_co] 35)).cell; have BCW := BC.alloc (.cells #[.int .i64 n_id, .int .i64 n_sv, .int .i64 n_rt, .int .i64 n_sq, .int .i64 n_bs, .int .i64 n_tg, .int .i64 n_wt, .int .i64 n_ccl, .int .i64 n_csq, .int .i64 n_cop, .string n_ck, .string n_cv, .string n_co] 35); have BN := Blk.new w4 #[.int .i64 n_id, .int .i64 n_sv, .int .i64 n_rt, .int .i64 n_sq, .int .i64 n_bs, .int .i64 n_tg, .int .i64 n_wt, .int .i64 n_ccl, .int .i64 n_csq, .int .i64 n_cop, .string n_ck, .string n_cv, .string n_co] 35; have HR := (HO1.out.below ((Below.refl _ _).alloc (Nat.le_refl _) (.cells #[.int .i64 n_id, .int .i64 n_sv, .int .i64 n_rt, .int .i64 n_sq, .int .i64 n_bs, .int .i64 n_tg, .int .i64 n_wt, .int .i64 n_ccl, .int .i64 n_csq, .int .i64 n_cop, .string n_ck, .string n_cv, .string n_co] 35))).range j hjl hget; rw [← hW] at cW cG BCW BN HR; have HW : Hid (W = w4.alloc (.cells #[.int .i64 n_id, .int .i64 n_sv, .int .i64 n_rt, .int .i64 n_sq, .int .i64 n_bs, .int .i64 n_tg, .int .i64 n_wt, .int .i64 n_ccl, .int .i64 n_csq, .int .i64 n_cop, .string n_ck, .string n_cv, .string n_co] 35)) := hW; clear hW; have cC := BCW.cell; have cN := BN.cell; have cE0 : W.cell? ⟨g1, j * 13, none⟩ = some _ := HR 0 _ rfl; have cE4 : W.cell? ⟨g1, j * 13 + 4, none⟩ = some _ := HR 4 _ rfl; have cE4b : W.cell? ⟨g1, j * 13 + 1 + 3, none⟩ = some _ := HR 4 _ rfl; have cE7 : W.cell? ⟨g1, j * 13 + 7, none⟩ = some _ := HR 7 _ rfl; have cE8 : W.cell? ⟨g1, j * 13 + 8, none⟩ = some _ := HR 8 _ rfl; have cE8b : W.cell? ⟨g1, j * 13 + 7 + 1, none⟩ = some _ := HR 8 _ rfl; have cE9 : W.cell? ⟨g1, j * 13 + 9, none⟩ = some _ := HR 9 _ rfl; have cE9b : W.cell? ⟨g1, j * 13 + 7 + 2, none⟩ = some _ := HR 9 _ rfl; clear HR))
              all_goals go_quiet (fail)
              have hE := fun u => eqSame_run 9998 n_ccl n_csq n_cop n_ck n_cv n_co u
              all_goals go_wp2_with (first
                | (have hBA := Pp2; refine gate_ld 35 (.tmp 10) rfl ?_; clear hBA; refine wpl_load_blk rfl 35 (.tmp 10) rfl (w4.heap.size) rfl (BN.drewN _) Try.underlying35 rfl sizeCliD rfl ?_)
                | (have hBA := Pp2; refine gate_st 35 (.tmp 3) _ rfl ?_; clear hBA; refine wpl_store_blk rfl 35 (.tmp 3) _ rfl (w1.heap.size) rfl rfl (BCW.drewN _) sizeCliD rfl rfl (by simp [Value.oneCell']) ?_))
              all_goals go_quiet (fail)
              all_goals go_wp2_with (first
                | (have hBA := Pp2; refine gate_ld 35 (.tmp 10) rfl ?_; clear hBA; refine wpl_load_blk rfl 35 (.tmp 10) rfl (w4.heap.size) rfl (BN.drewN _) Try.underlying35 rfl sizeCliD rfl ?_)
                | (have hBA := Pp2; refine gate_st 35 (.tmp 3) _ rfl ?_; clear hBA; refine wpl_store_blk rfl 35 (.tmp 3) _ rfl (w1.heap.size) rfl rfl (BCW.drewN _) sizeCliD rfl rfl (by simp [Value.oneCell']) ?_))
              all_goals go_roundw
              all_goals first
                | (simp [intOf]; omega)
                | (refine ⟨j + 1, by omega, by go_num, ?_⟩; rw [hnx'];  exact cli_rel (show W.heap = _ by rw [HW.out]) (show W.os = _ by rw [HW.out]; rfl) (show W.tape = _ by rw [HW.out]; rfl) (show W.output = _ by rw [HW.out]; rfl) BC HO1.out HO2.out HB.out (by omega) (by omega) (by omega))
          · rcases hss with hs0 | ⟨hs0, hs1⟩
            · as_aux_lemma =>
              subst u1 u3 u4 u5 u6 u7 u8 u9 u10 u11 hs0
              go_wp2_with (first
                | (have hBA := Pp2; refine gate_ld 35 (.tmp 44) rfl ?_; clear hBA; refine wpl_load_part rfl 35 (.tmp 44) rfl p2 3 rfl Pp2 [.int .i64 n_id, .int .i64 n_sv, .int .i64 n_rt, .int .i64 n_sq, .int .i64 n_bs, .int .i64 n_tg, .int .i64 n_wt, .int .i64 n_ccl, .int .i64 n_csq, .int .i64 n_cop, .string n_ck, .string n_cv, .string n_co] rfl Try.underlying35 rfl sizeCliD ?_)
                | (have hBA := Pp2; refine gate_st 35 (.tmp 10) _ rfl ?_; clear hBA; refine wpl_store_last rfl 35 (.tmp 10) _ rfl (w4.heap.size) rfl rfl rfl sizeCliD rfl rfl (by simp [Value.oneCell']) ?_; obtain ⟨W, hW⟩ : ∃ W, W = w4.alloc (.cells #[.int .i64 n_id, .int .i64 n_sv, .int .i64 n_rt, .int .i64 n_sq, .int .i64 n_bs, .int .i64 n_tg, .int .i64 n_wt, .int .i64 n_ccl, .int .i64 n_csq, .int .i64 n_cop, .string n_ck, .string n_cv, .string n_co] 35) := ⟨_, rfl⟩; rw [← hW]; have cW := (Pp1.alloc (.cells #[.int .i64 n_id, .int .i64 n_sv, .int .i64 n_rt, .int .i64 n_sq, .int .i64 n_bs, .int .i64 n_tg, .int .i64 n_wt, .int .i64 n_ccl, .int .i64 n_csq, .int .i64 n_cop, .string n_ck, .string n_cv, .string n_co] 35)).cell; have cG := (Pp2.alloc (.cells #[.int .i64 n_id, .int .i64 n_sv, .int .i64 n_rt, .int .i64 n_sq, .int .i64 n_bs, .int .i64 n_tg, .int .i64 n_wt, .int .i64 n_ccl, .int .i64 n_csq, .int .i64 n_cop, .string n_ck, .string n_cv, .string n_co] 35)).cell; have BCW := BC.alloc (.cells #[.int .i64 n_id, .int .i64 n_sv, .int .i64 n_rt, .int .i64 n_sq, .int .i64 n_bs, .int .i64 n_tg, .int .i64 n_wt, .int .i64 n_ccl, .int .i64 n_csq, .int .i64 n_cop, .string n_ck, .string n_cv, .string n_co] 35); have BN := Blk.new w4 #[.int .i64 n_id, .int .i64 n_sv, .int .i64 n_rt, .int .i64 n_sq, .int .i64 n_bs, .int .i64 n_tg, .int .i64 n_wt, .int .i64 n_ccl, .int .i64 n_csq, .int .i64 n_cop, .string n_ck, .string n_cv, .string n_co] 35; have HR := (HO1.out.below ((Below.refl _ _).alloc (Nat.le_refl _) (.cells #[.int .i64 n_id, .int .i64 n_sv, .int .i64 n_rt, .int .i64 n_sq, .int .i64 n_bs, .int .i64 n_tg, .int .i64 n_wt, .int .i64 n_ccl, .int .i64 n_csq, .int .i64 n_cop, .string n_ck, .string n_cv, .string n_co] 35))).range j hjl hget; rw [← hW] at cW cG BCW BN HR; have HW : Hid (W = w4.alloc (.cells #[.int .i64 n_id, .int .i64 n_sv, .int .i64 n_rt, .int .i64 n_sq, .int .i64 n_bs, .int .i64 n_tg, .int .i64 n_wt, .int .i64 n_ccl, .int .i64 n_csq, .int .i64 n_cop, .string n_ck, .string n_cv, .string n_co] 35)) := hW; clear hW; have cC := BCW.cell; have cN := BN.cell; have cE0 : W.cell? ⟨g1, j * 13, none⟩ = some _ := HR 0 _ rfl; have cE4 : W.cell? ⟨g1, j * 13 + 4, none⟩ = some _ := HR 4 _ rfl; have cE4b : W.cell? ⟨g1, j * 13 + 1 + 3, none⟩ = some _ := HR 4 _ rfl; have cE7 : W.cell? ⟨g1, j * 13 + 7, none⟩ = some _ := HR 7 _ rfl; have cE8 : W.cell? ⟨g1, j * 13 + 8, none⟩ = some _ := HR 8 _ rfl; have cE8b : W.cell? ⟨g1, j * 13 + 7 + 1, none⟩ = some _ := HR 8 _ rfl; have cE9 : W.cell? ⟨g1, j * 13 + 9, none⟩ = some _ := HR 9 _ rfl; have cE9b : W.cell? ⟨g1, j * 13 + 7 + 2, none⟩ = some _ := HR 9 _ rfl; clear HR))
              all_goals go_quiet (fail)
              have hE := fun u => eqSame_run 9998 n_ccl n_csq n_cop n_ck n_cv n_co u
              all_goals go_wp2_with (first
                | (have hBA := Pp2; refine gate_ld 35 (.tmp 10) rfl ?_; clear hBA; refine wpl_load_blk rfl 35 (.tmp 10) rfl (w4.heap.size) rfl (BN.drewN _) Try.underlying35 rfl sizeCliD rfl ?_)
                | (have hBA := Pp2; refine gate_st 35 (.tmp 3) _ rfl ?_; clear hBA; refine wpl_store_blk rfl 35 (.tmp 3) _ rfl (w1.heap.size) rfl rfl (BCW.drewN _) sizeCliD rfl rfl (by simp [Value.oneCell']) ?_))
              all_goals go_quiet (fail)
              all_goals go_wp2_with (first
                | (have hBA := Pp2; refine gate_ld 35 (.tmp 10) rfl ?_; clear hBA; refine wpl_load_blk rfl 35 (.tmp 10) rfl (w4.heap.size) rfl (BN.drewN _) Try.underlying35 rfl sizeCliD rfl ?_)
                | (have hBA := Pp2; refine gate_st 35 (.tmp 3) _ rfl ?_; clear hBA; refine wpl_store_blk rfl 35 (.tmp 3) _ rfl (w1.heap.size) rfl rfl (BCW.drewN _) sizeCliD rfl rfl (by simp [Value.oneCell']) ?_))
              all_goals go_roundw
              all_goals first
                | (simp [intOf]; omega)
                | (refine ⟨j + 1, by omega, by go_num, ?_⟩; rw [hnx'];  exact cli_rel (show W.heap = _ by rw [HW.out]) (show W.os = _ by rw [HW.out]; rfl) (show W.tape = _ by rw [HW.out]; rfl) (show W.output = _ by rw [HW.out]; rfl) BC HO1.out HO2.out HB.out (by omega) (by omega) (by omega))
            · as_aux_lemma =>
              subst u1 u3 u4 u5 u6 u7 u8 u9 u10 u11 hs0
              go_wp2_with (first
                | (have hBA := Pp2; refine gate_ld 35 (.tmp 44) rfl ?_; clear hBA; refine wpl_load_part rfl 35 (.tmp 44) rfl p2 3 rfl Pp2 [.int .i64 n_id, .int .i64 n_sv, .int .i64 n_rt, .int .i64 n_sq, .int .i64 n_bs, .int .i64 n_tg, .int .i64 n_wt, .int .i64 n_ccl, .int .i64 n_csq, .int .i64 n_cop, .string n_ck, .string n_cv, .string n_co] rfl Try.underlying35 rfl sizeCliD ?_)
                | (have hBA := Pp2; refine gate_st 35 (.tmp 10) _ rfl ?_; clear hBA; refine wpl_store_last rfl 35 (.tmp 10) _ rfl (w4.heap.size) rfl rfl rfl sizeCliD rfl rfl (by simp [Value.oneCell']) ?_; obtain ⟨W, hW⟩ : ∃ W, W = w4.alloc (.cells #[.int .i64 n_id, .int .i64 n_sv, .int .i64 n_rt, .int .i64 n_sq, .int .i64 n_bs, .int .i64 n_tg, .int .i64 n_wt, .int .i64 n_ccl, .int .i64 n_csq, .int .i64 n_cop, .string n_ck, .string n_cv, .string n_co] 35) := ⟨_, rfl⟩; rw [← hW]; have cW := (Pp1.alloc (.cells #[.int .i64 n_id, .int .i64 n_sv, .int .i64 n_rt, .int .i64 n_sq, .int .i64 n_bs, .int .i64 n_tg, .int .i64 n_wt, .int .i64 n_ccl, .int .i64 n_csq, .int .i64 n_cop, .string n_ck, .string n_cv, .string n_co] 35)).cell; have cG := (Pp2.alloc (.cells #[.int .i64 n_id, .int .i64 n_sv, .int .i64 n_rt, .int .i64 n_sq, .int .i64 n_bs, .int .i64 n_tg, .int .i64 n_wt, .int .i64 n_ccl, .int .i64 n_csq, .int .i64 n_cop, .string n_ck, .string n_cv, .string n_co] 35)).cell; have BCW := BC.alloc (.cells #[.int .i64 n_id, .int .i64 n_sv, .int .i64 n_rt, .int .i64 n_sq, .int .i64 n_bs, .int .i64 n_tg, .int .i64 n_wt, .int .i64 n_ccl, .int .i64 n_csq, .int .i64 n_cop, .string n_ck, .string n_cv, .string n_co] 35); have BN := Blk.new w4 #[.int .i64 n_id, .int .i64 n_sv, .int .i64 n_rt, .int .i64 n_sq, .int .i64 n_bs, .int .i64 n_tg, .int .i64 n_wt, .int .i64 n_ccl, .int .i64 n_csq, .int .i64 n_cop, .string n_ck, .string n_cv, .string n_co] 35; have HR := (HO1.out.below ((Below.refl _ _).alloc (Nat.le_refl _) (.cells #[.int .i64 n_id, .int .i64 n_sv, .int .i64 n_rt, .int .i64 n_sq, .int .i64 n_bs, .int .i64 n_tg, .int .i64 n_wt, .int .i64 n_ccl, .int .i64 n_csq, .int .i64 n_cop, .string n_ck, .string n_cv, .string n_co] 35))).range j hjl hget; rw [← hW] at cW cG BCW BN HR; have HW : Hid (W = w4.alloc (.cells #[.int .i64 n_id, .int .i64 n_sv, .int .i64 n_rt, .int .i64 n_sq, .int .i64 n_bs, .int .i64 n_tg, .int .i64 n_wt, .int .i64 n_ccl, .int .i64 n_csq, .int .i64 n_cop, .string n_ck, .string n_cv, .string n_co] 35)) := hW; clear hW; have cC := BCW.cell; have cN := BN.cell; have cE0 : W.cell? ⟨g1, j * 13, none⟩ = some _ := HR 0 _ rfl; have cE4 : W.cell? ⟨g1, j * 13 + 4, none⟩ = some _ := HR 4 _ rfl; have cE4b : W.cell? ⟨g1, j * 13 + 1 + 3, none⟩ = some _ := HR 4 _ rfl; have cE7 : W.cell? ⟨g1, j * 13 + 7, none⟩ = some _ := HR 7 _ rfl; have cE8 : W.cell? ⟨g1, j * 13 + 8, none⟩ = some _ := HR 8 _ rfl; have cE8b : W.cell? ⟨g1, j * 13 + 7 + 1, none⟩ = some _ := HR 8 _ rfl; have cE9 : W.cell? ⟨g1, j * 13 + 9, none⟩ = some _ := HR 9 _ rfl; have cE9b : W.cell? ⟨g1, j * 13 + 7 + 2, none⟩ = some _ := HR 9 _ rfl; clear HR))
              all_goals go_quiet (fail)
              have hE := fun u => eqSame_run 9998 n_ccl n_csq n_cop n_ck n_cv n_co u
              all_goals go_wp2_with (first
                | (have hBA := Pp2; refine gate_ld 35 (.tmp 10) rfl ?_; clear hBA; refine wpl_load_blk rfl 35 (.tmp 10) rfl (w4.heap.size) rfl (BN.drewN _) Try.underlying35 rfl sizeCliD rfl ?_)
                | (have hBA := Pp2; refine gate_st 35 (.tmp 3) _ rfl ?_; clear hBA; refine wpl_store_blk rfl 35 (.tmp 3) _ rfl (w1.heap.size) rfl rfl (BCW.drewN _) sizeCliD rfl rfl (by simp [Value.oneCell']) ?_))
              all_goals go_quiet (fail)
              all_goals go_wp2_with (first
                | (have hBA := Pp2; refine gate_ld 35 (.tmp 10) rfl ?_; clear hBA; refine wpl_load_blk rfl 35 (.tmp 10) rfl (w4.heap.size) rfl (BN.drewN _) Try.underlying35 rfl sizeCliD rfl ?_)
                | (have hBA := Pp2; refine gate_st 35 (.tmp 3) _ rfl ?_; clear hBA; refine wpl_store_blk rfl 35 (.tmp 3) _ rfl (w1.heap.size) rfl rfl (BCW.drewN _) sizeCliD rfl rfl (by simp [Value.oneCell']) ?_))
              all_goals go_roundw
              all_goals first
                | (simp [intOf]; omega)
                | (refine ⟨j + 1, by omega, by go_num, ?_⟩; rw [hnx'];  exact cli_rel (show W.heap = _ by rw [HW.out]) (show W.os = _ by rw [HW.out]; rfl) (show W.tape = _ by rw [HW.out]; rfl) (show W.output = _ by rw [HW.out]; rfl) BC HO1.out HO2.out HB.out (by omega) (by omega) (by omega))
          · rcases hss with hs0 | ⟨hs0, hs1⟩
            · as_aux_lemma =>
              subst u1 u2 u3 u4 u5 u6 u7 u8 u9 u10 u11 hs0
              go_wp2_with (first
                | (have hBA := Pp2; refine gate_ld 35 (.tmp 44) rfl ?_; clear hBA; refine wpl_load_part rfl 35 (.tmp 44) rfl p2 3 rfl Pp2 [.int .i64 n_id, .int .i64 n_sv, .int .i64 n_rt, .int .i64 n_sq, .int .i64 1, .int .i64 n_tg, .int .i64 n_wt, .int .i64 n_ccl, .int .i64 n_csq, .int .i64 n_cop, .string n_ck, .string n_cv, .string n_co] rfl Try.underlying35 rfl sizeCliD ?_)
                | (have hBA := Pp2; refine gate_st 35 (.tmp 10) _ rfl ?_; clear hBA; refine wpl_store_last rfl 35 (.tmp 10) _ rfl (w4.heap.size) rfl rfl rfl sizeCliD rfl rfl (by simp [Value.oneCell']) ?_; obtain ⟨W, hW⟩ : ∃ W, W = w4.alloc (.cells #[.int .i64 n_id, .int .i64 n_sv, .int .i64 n_rt, .int .i64 n_sq, .int .i64 1, .int .i64 n_tg, .int .i64 n_wt, .int .i64 n_ccl, .int .i64 n_csq, .int .i64 n_cop, .string n_ck, .string n_cv, .string n_co] 35) := ⟨_, rfl⟩; rw [← hW]; have cW := (Pp1.alloc (.cells #[.int .i64 n_id, .int .i64 n_sv, .int .i64 n_rt, .int .i64 n_sq, .int .i64 1, .int .i64 n_tg, .int .i64 n_wt, .int .i64 n_ccl, .int .i64 n_csq, .int .i64 n_cop, .string n_ck, .string n_cv, .string n_co] 35)).cell; have cG := (Pp2.alloc (.cells #[.int .i64 n_id, .int .i64 n_sv, .int .i64 n_rt, .int .i64 n_sq, .int .i64 1, .int .i64 n_tg, .int .i64 n_wt, .int .i64 n_ccl, .int .i64 n_csq, .int .i64 n_cop, .string n_ck, .string n_cv, .string n_co] 35)).cell; have BCW := BC.alloc (.cells #[.int .i64 n_id, .int .i64 n_sv, .int .i64 n_rt, .int .i64 n_sq, .int .i64 1, .int .i64 n_tg, .int .i64 n_wt, .int .i64 n_ccl, .int .i64 n_csq, .int .i64 n_cop, .string n_ck, .string n_cv, .string n_co] 35); have BN := Blk.new w4 #[.int .i64 n_id, .int .i64 n_sv, .int .i64 n_rt, .int .i64 n_sq, .int .i64 1, .int .i64 n_tg, .int .i64 n_wt, .int .i64 n_ccl, .int .i64 n_csq, .int .i64 n_cop, .string n_ck, .string n_cv, .string n_co] 35; have HR := (HO1.out.below ((Below.refl _ _).alloc (Nat.le_refl _) (.cells #[.int .i64 n_id, .int .i64 n_sv, .int .i64 n_rt, .int .i64 n_sq, .int .i64 1, .int .i64 n_tg, .int .i64 n_wt, .int .i64 n_ccl, .int .i64 n_csq, .int .i64 n_cop, .string n_ck, .string n_cv, .string n_co] 35))).range j hjl hget; rw [← hW] at cW cG BCW BN HR; have HW : Hid (W = w4.alloc (.cells #[.int .i64 n_id, .int .i64 n_sv, .int .i64 n_rt, .int .i64 n_sq, .int .i64 1, .int .i64 n_tg, .int .i64 n_wt, .int .i64 n_ccl, .int .i64 n_csq, .int .i64 n_cop, .string n_ck, .string n_cv, .string n_co] 35)) := hW; clear hW; have cC := BCW.cell; have cN := BN.cell; have cE0 : W.cell? ⟨g1, j * 13, none⟩ = some _ := HR 0 _ rfl; have cE4 : W.cell? ⟨g1, j * 13 + 4, none⟩ = some _ := HR 4 _ rfl; have cE4b : W.cell? ⟨g1, j * 13 + 1 + 3, none⟩ = some _ := HR 4 _ rfl; have cE7 : W.cell? ⟨g1, j * 13 + 7, none⟩ = some _ := HR 7 _ rfl; have cE8 : W.cell? ⟨g1, j * 13 + 8, none⟩ = some _ := HR 8 _ rfl; have cE8b : W.cell? ⟨g1, j * 13 + 7 + 1, none⟩ = some _ := HR 8 _ rfl; have cE9 : W.cell? ⟨g1, j * 13 + 9, none⟩ = some _ := HR 9 _ rfl; have cE9b : W.cell? ⟨g1, j * 13 + 7 + 2, none⟩ = some _ := HR 9 _ rfl; clear HR))
              all_goals go_quiet (fail)
              have hE := fun u => eqSame_run 9998 n_ccl n_csq n_cop n_ck n_cv n_co u
              all_goals go_wp2_with (first
                | (have hBA := Pp2; refine gate_ld 35 (.tmp 10) rfl ?_; clear hBA; refine wpl_load_blk rfl 35 (.tmp 10) rfl (w4.heap.size) rfl (BN.drewN _) Try.underlying35 rfl sizeCliD rfl ?_)
                | (have hBA := Pp2; refine gate_st 35 (.tmp 3) _ rfl ?_; clear hBA; refine wpl_store_blk rfl 35 (.tmp 3) _ rfl (w1.heap.size) rfl rfl (BCW.drewN _) sizeCliD rfl rfl (by simp [Value.oneCell']) ?_))
              all_goals go_quiet (fail)
              all_goals go_wp2_with (first
                | (have hBA := Pp2; refine gate_ld 35 (.tmp 10) rfl ?_; clear hBA; refine wpl_load_blk rfl 35 (.tmp 10) rfl (w4.heap.size) rfl (BN.drewN _) Try.underlying35 rfl sizeCliD rfl ?_)
                | (have hBA := Pp2; refine gate_st 35 (.tmp 3) _ rfl ?_; clear hBA; refine wpl_store_blk rfl 35 (.tmp 3) _ rfl (w1.heap.size) rfl rfl (BCW.drewN _) sizeCliD rfl rfl (by simp [Value.oneCell']) ?_))
              all_goals go_roundw
              all_goals first
                | (simp [intOf]; omega)
                | (refine ⟨j + 1, by omega, by go_num, ?_⟩; rw [hnx'];  exact cli_rel (show W.heap = _ by rw [HW.out]) (show W.os = _ by rw [HW.out]; rfl) (show W.tape = _ by rw [HW.out]; rfl) (show W.output = _ by rw [HW.out]; rfl) BC HO1.out HO2.out HB.out (by omega) (by omega) (by omega))
            · as_aux_lemma =>
              subst u1 u2 u3 u4 u5 u6 u7 u8 u9 u10 u11 hs0
              go_wp2_with (first
                | (have hBA := Pp2; refine gate_ld 35 (.tmp 44) rfl ?_; clear hBA; refine wpl_load_part rfl 35 (.tmp 44) rfl p2 3 rfl Pp2 [.int .i64 n_id, .int .i64 n_sv, .int .i64 n_rt, .int .i64 n_sq, .int .i64 1, .int .i64 n_tg, .int .i64 n_wt, .int .i64 n_ccl, .int .i64 n_csq, .int .i64 n_cop, .string n_ck, .string n_cv, .string n_co] rfl Try.underlying35 rfl sizeCliD ?_)
                | (have hBA := Pp2; refine gate_st 35 (.tmp 10) _ rfl ?_; clear hBA; refine wpl_store_last rfl 35 (.tmp 10) _ rfl (w4.heap.size) rfl rfl rfl sizeCliD rfl rfl (by simp [Value.oneCell']) ?_; obtain ⟨W, hW⟩ : ∃ W, W = w4.alloc (.cells #[.int .i64 n_id, .int .i64 n_sv, .int .i64 n_rt, .int .i64 n_sq, .int .i64 1, .int .i64 n_tg, .int .i64 n_wt, .int .i64 n_ccl, .int .i64 n_csq, .int .i64 n_cop, .string n_ck, .string n_cv, .string n_co] 35) := ⟨_, rfl⟩; rw [← hW]; have cW := (Pp1.alloc (.cells #[.int .i64 n_id, .int .i64 n_sv, .int .i64 n_rt, .int .i64 n_sq, .int .i64 1, .int .i64 n_tg, .int .i64 n_wt, .int .i64 n_ccl, .int .i64 n_csq, .int .i64 n_cop, .string n_ck, .string n_cv, .string n_co] 35)).cell; have cG := (Pp2.alloc (.cells #[.int .i64 n_id, .int .i64 n_sv, .int .i64 n_rt, .int .i64 n_sq, .int .i64 1, .int .i64 n_tg, .int .i64 n_wt, .int .i64 n_ccl, .int .i64 n_csq, .int .i64 n_cop, .string n_ck, .string n_cv, .string n_co] 35)).cell; have BCW := BC.alloc (.cells #[.int .i64 n_id, .int .i64 n_sv, .int .i64 n_rt, .int .i64 n_sq, .int .i64 1, .int .i64 n_tg, .int .i64 n_wt, .int .i64 n_ccl, .int .i64 n_csq, .int .i64 n_cop, .string n_ck, .string n_cv, .string n_co] 35); have BN := Blk.new w4 #[.int .i64 n_id, .int .i64 n_sv, .int .i64 n_rt, .int .i64 n_sq, .int .i64 1, .int .i64 n_tg, .int .i64 n_wt, .int .i64 n_ccl, .int .i64 n_csq, .int .i64 n_cop, .string n_ck, .string n_cv, .string n_co] 35; have HR := (HO1.out.below ((Below.refl _ _).alloc (Nat.le_refl _) (.cells #[.int .i64 n_id, .int .i64 n_sv, .int .i64 n_rt, .int .i64 n_sq, .int .i64 1, .int .i64 n_tg, .int .i64 n_wt, .int .i64 n_ccl, .int .i64 n_csq, .int .i64 n_cop, .string n_ck, .string n_cv, .string n_co] 35))).range j hjl hget; rw [← hW] at cW cG BCW BN HR; have HW : Hid (W = w4.alloc (.cells #[.int .i64 n_id, .int .i64 n_sv, .int .i64 n_rt, .int .i64 n_sq, .int .i64 1, .int .i64 n_tg, .int .i64 n_wt, .int .i64 n_ccl, .int .i64 n_csq, .int .i64 n_cop, .string n_ck, .string n_cv, .string n_co] 35)) := hW; clear hW; have cC := BCW.cell; have cN := BN.cell; have cE0 : W.cell? ⟨g1, j * 13, none⟩ = some _ := HR 0 _ rfl; have cE4 : W.cell? ⟨g1, j * 13 + 4, none⟩ = some _ := HR 4 _ rfl; have cE4b : W.cell? ⟨g1, j * 13 + 1 + 3, none⟩ = some _ := HR 4 _ rfl; have cE7 : W.cell? ⟨g1, j * 13 + 7, none⟩ = some _ := HR 7 _ rfl; have cE8 : W.cell? ⟨g1, j * 13 + 8, none⟩ = some _ := HR 8 _ rfl; have cE8b : W.cell? ⟨g1, j * 13 + 7 + 1, none⟩ = some _ := HR 8 _ rfl; have cE9 : W.cell? ⟨g1, j * 13 + 9, none⟩ = some _ := HR 9 _ rfl; have cE9b : W.cell? ⟨g1, j * 13 + 7 + 2, none⟩ = some _ := HR 9 _ rfl; clear HR))
              all_goals go_quiet (fail)
              have hE := fun u => eqSame_run 9998 n_ccl n_csq n_cop n_ck n_cv n_co u
              all_goals go_wp2_with (first
                | (have hBA := Pp2; refine gate_ld 35 (.tmp 10) rfl ?_; clear hBA; refine wpl_load_blk rfl 35 (.tmp 10) rfl (w4.heap.size) rfl (BN.drewN _) Try.underlying35 rfl sizeCliD rfl ?_)
                | (have hBA := Pp2; refine gate_st 35 (.tmp 3) _ rfl ?_; clear hBA; refine wpl_store_blk rfl 35 (.tmp 3) _ rfl (w1.heap.size) rfl rfl (BCW.drewN _) sizeCliD rfl rfl (by simp [Value.oneCell']) ?_))
              all_goals go_quiet (fail)
              all_goals go_wp2_with (first
                | (have hBA := Pp2; refine gate_ld 35 (.tmp 10) rfl ?_; clear hBA; refine wpl_load_blk rfl 35 (.tmp 10) rfl (w4.heap.size) rfl (BN.drewN _) Try.underlying35 rfl sizeCliD rfl ?_)
                | (have hBA := Pp2; refine gate_st 35 (.tmp 3) _ rfl ?_; clear hBA; refine wpl_store_blk rfl 35 (.tmp 3) _ rfl (w1.heap.size) rfl rfl (BCW.drewN _) sizeCliD rfl rfl (by simp [Value.oneCell']) ?_))
              all_goals go_roundw
              all_goals first
                | (simp [intOf]; omega)
                | (refine ⟨j + 1, by omega, by go_num, ?_⟩; rw [hnx'];  exact cli_rel (show W.heap = _ by rw [HW.out]) (show W.os = _ by rw [HW.out]; rfl) (show W.tape = _ by rw [HW.out]; rfl) (show W.output = _ by rw [HW.out]; rfl) BC HO1.out HO2.out HB.out (by omega) (by omega) (by omega))
          · rcases hss with hs0 | ⟨hs0, hs1⟩
            · as_aux_lemma =>
              subst u1 u2 u3 u4 u5 u6 u7 u8 u9 u10 u11 u12 u13 hs0
              go_wp2_with (first
                | (have hBA := Pp2; refine gate_ld 35 (.tmp 44) rfl ?_; clear hBA; refine wpl_load_part rfl 35 (.tmp 44) rfl p2 3 rfl Pp2 [.int .i64 n_id, .int .i64 n_sv, .int .i64 n_rt, .int .i64 e_rsq, .int .i64 1, .int .i64 n_tg, .int .i64 n_wt, .int .i64 n_ccl, .int .i64 n_csq, .int .i64 n_cop, .string n_ck, .string n_cv, .string n_co] rfl Try.underlying35 rfl sizeCliD ?_)
                | (have hBA := Pp2; refine gate_st 35 (.tmp 10) _ rfl ?_; clear hBA; refine wpl_store_last rfl 35 (.tmp 10) _ rfl (w4.heap.size) rfl rfl rfl sizeCliD rfl rfl (by simp [Value.oneCell']) ?_; obtain ⟨W, hW⟩ : ∃ W, W = w4.alloc (.cells #[.int .i64 n_id, .int .i64 n_sv, .int .i64 n_rt, .int .i64 e_rsq, .int .i64 1, .int .i64 n_tg, .int .i64 n_wt, .int .i64 n_ccl, .int .i64 n_csq, .int .i64 n_cop, .string n_ck, .string n_cv, .string n_co] 35) := ⟨_, rfl⟩; rw [← hW]; have cW := (Pp1.alloc (.cells #[.int .i64 n_id, .int .i64 n_sv, .int .i64 n_rt, .int .i64 e_rsq, .int .i64 1, .int .i64 n_tg, .int .i64 n_wt, .int .i64 n_ccl, .int .i64 n_csq, .int .i64 n_cop, .string n_ck, .string n_cv, .string n_co] 35)).cell; have cG := (Pp2.alloc (.cells #[.int .i64 n_id, .int .i64 n_sv, .int .i64 n_rt, .int .i64 e_rsq, .int .i64 1, .int .i64 n_tg, .int .i64 n_wt, .int .i64 n_ccl, .int .i64 n_csq, .int .i64 n_cop, .string n_ck, .string n_cv, .string n_co] 35)).cell; have BCW := BC.alloc (.cells #[.int .i64 n_id, .int .i64 n_sv, .int .i64 n_rt, .int .i64 e_rsq, .int .i64 1, .int .i64 n_tg, .int .i64 n_wt, .int .i64 n_ccl, .int .i64 n_csq, .int .i64 n_cop, .string n_ck, .string n_cv, .string n_co] 35); have BN := Blk.new w4 #[.int .i64 n_id, .int .i64 n_sv, .int .i64 n_rt, .int .i64 e_rsq, .int .i64 1, .int .i64 n_tg, .int .i64 n_wt, .int .i64 n_ccl, .int .i64 n_csq, .int .i64 n_cop, .string n_ck, .string n_cv, .string n_co] 35; have HR := (HO1.out.below ((Below.refl _ _).alloc (Nat.le_refl _) (.cells #[.int .i64 n_id, .int .i64 n_sv, .int .i64 n_rt, .int .i64 e_rsq, .int .i64 1, .int .i64 n_tg, .int .i64 n_wt, .int .i64 n_ccl, .int .i64 n_csq, .int .i64 n_cop, .string n_ck, .string n_cv, .string n_co] 35))).range j hjl hget; rw [← hW] at cW cG BCW BN HR; have HW : Hid (W = w4.alloc (.cells #[.int .i64 n_id, .int .i64 n_sv, .int .i64 n_rt, .int .i64 e_rsq, .int .i64 1, .int .i64 n_tg, .int .i64 n_wt, .int .i64 n_ccl, .int .i64 n_csq, .int .i64 n_cop, .string n_ck, .string n_cv, .string n_co] 35)) := hW; clear hW; have cC := BCW.cell; have cN := BN.cell; have cE0 : W.cell? ⟨g1, j * 13, none⟩ = some _ := HR 0 _ rfl; have cE4 : W.cell? ⟨g1, j * 13 + 4, none⟩ = some _ := HR 4 _ rfl; have cE4b : W.cell? ⟨g1, j * 13 + 1 + 3, none⟩ = some _ := HR 4 _ rfl; have cE7 : W.cell? ⟨g1, j * 13 + 7, none⟩ = some _ := HR 7 _ rfl; have cE8 : W.cell? ⟨g1, j * 13 + 8, none⟩ = some _ := HR 8 _ rfl; have cE8b : W.cell? ⟨g1, j * 13 + 7 + 1, none⟩ = some _ := HR 8 _ rfl; have cE9 : W.cell? ⟨g1, j * 13 + 9, none⟩ = some _ := HR 9 _ rfl; have cE9b : W.cell? ⟨g1, j * 13 + 7 + 2, none⟩ = some _ := HR 9 _ rfl; clear HR))
              all_goals go_quiet (fail)
              have hE := fun u => eqSame_run 9998 n_ccl n_csq n_cop n_ck n_cv n_co u
              all_goals go_wp2_with (first
                | (have hBA := Pp2; refine gate_ld 35 (.tmp 10) rfl ?_; clear hBA; refine wpl_load_blk rfl 35 (.tmp 10) rfl (w4.heap.size) rfl (BN.drewN _) Try.underlying35 rfl sizeCliD rfl ?_)
                | (have hBA := Pp2; refine gate_st 35 (.tmp 3) _ rfl ?_; clear hBA; refine wpl_store_blk rfl 35 (.tmp 3) _ rfl (w1.heap.size) rfl rfl (BCW.drewN _) sizeCliD rfl rfl (by simp [Value.oneCell']) ?_))
              all_goals go_quiet (fail)
              all_goals go_wp2_with (first
                | (have hBA := Pp2; refine gate_ld 35 (.tmp 10) rfl ?_; clear hBA; refine wpl_load_blk rfl 35 (.tmp 10) rfl (w4.heap.size) rfl (BN.drewN _) Try.underlying35 rfl sizeCliD rfl ?_)
                | (have hBA := Pp2; refine gate_st 35 (.tmp 3) _ rfl ?_; clear hBA; refine wpl_store_blk rfl 35 (.tmp 3) _ rfl (w1.heap.size) rfl rfl (BCW.drewN _) sizeCliD rfl rfl (by simp [Value.oneCell']) ?_))
              all_goals go_roundw
              all_goals first
                | (simp [intOf]; omega)
                | (refine ⟨j + 1, by omega, by go_num, ?_⟩; rw [hnx'];  exact cli_rel (show W.heap = _ by rw [HW.out]) (show W.os = _ by rw [HW.out]; rfl) (show W.tape = _ by rw [HW.out]; rfl) (show W.output = _ by rw [HW.out]; rfl) BC HO1.out HO2.out HB.out (by omega) (by omega) (by omega))
            · as_aux_lemma =>
              subst u1 u2 u3 u4 u5 u6 u7 u8 u9 u10 u11 u12 u13 hs0
              go_wp2_with (first
                | (have hBA := Pp2; refine gate_ld 35 (.tmp 44) rfl ?_; clear hBA; refine wpl_load_part rfl 35 (.tmp 44) rfl p2 3 rfl Pp2 [.int .i64 n_id, .int .i64 n_sv, .int .i64 n_rt, .int .i64 e_rsq, .int .i64 1, .int .i64 n_tg, .int .i64 n_wt, .int .i64 n_ccl, .int .i64 n_csq, .int .i64 n_cop, .string n_ck, .string n_cv, .string n_co] rfl Try.underlying35 rfl sizeCliD ?_)
                | (have hBA := Pp2; refine gate_st 35 (.tmp 10) _ rfl ?_; clear hBA; refine wpl_store_last rfl 35 (.tmp 10) _ rfl (w4.heap.size) rfl rfl rfl sizeCliD rfl rfl (by simp [Value.oneCell']) ?_; obtain ⟨W, hW⟩ : ∃ W, W = w4.alloc (.cells #[.int .i64 n_id, .int .i64 n_sv, .int .i64 n_rt, .int .i64 e_rsq, .int .i64 1, .int .i64 n_tg, .int .i64 n_wt, .int .i64 n_ccl, .int .i64 n_csq, .int .i64 n_cop, .string n_ck, .string n_cv, .string n_co] 35) := ⟨_, rfl⟩; rw [← hW]; have cW := (Pp1.alloc (.cells #[.int .i64 n_id, .int .i64 n_sv, .int .i64 n_rt, .int .i64 e_rsq, .int .i64 1, .int .i64 n_tg, .int .i64 n_wt, .int .i64 n_ccl, .int .i64 n_csq, .int .i64 n_cop, .string n_ck, .string n_cv, .string n_co] 35)).cell; have cG := (Pp2.alloc (.cells #[.int .i64 n_id, .int .i64 n_sv, .int .i64 n_rt, .int .i64 e_rsq, .int .i64 1, .int .i64 n_tg, .int .i64 n_wt, .int .i64 n_ccl, .int .i64 n_csq, .int .i64 n_cop, .string n_ck, .string n_cv, .string n_co] 35)).cell; have BCW := BC.alloc (.cells #[.int .i64 n_id, .int .i64 n_sv, .int .i64 n_rt, .int .i64 e_rsq, .int .i64 1, .int .i64 n_tg, .int .i64 n_wt, .int .i64 n_ccl, .int .i64 n_csq, .int .i64 n_cop, .string n_ck, .string n_cv, .string n_co] 35); have BN := Blk.new w4 #[.int .i64 n_id, .int .i64 n_sv, .int .i64 n_rt, .int .i64 e_rsq, .int .i64 1, .int .i64 n_tg, .int .i64 n_wt, .int .i64 n_ccl, .int .i64 n_csq, .int .i64 n_cop, .string n_ck, .string n_cv, .string n_co] 35; have HR := (HO1.out.below ((Below.refl _ _).alloc (Nat.le_refl _) (.cells #[.int .i64 n_id, .int .i64 n_sv, .int .i64 n_rt, .int .i64 e_rsq, .int .i64 1, .int .i64 n_tg, .int .i64 n_wt, .int .i64 n_ccl, .int .i64 n_csq, .int .i64 n_cop, .string n_ck, .string n_cv, .string n_co] 35))).range j hjl hget; rw [← hW] at cW cG BCW BN HR; have HW : Hid (W = w4.alloc (.cells #[.int .i64 n_id, .int .i64 n_sv, .int .i64 n_rt, .int .i64 e_rsq, .int .i64 1, .int .i64 n_tg, .int .i64 n_wt, .int .i64 n_ccl, .int .i64 n_csq, .int .i64 n_cop, .string n_ck, .string n_cv, .string n_co] 35)) := hW; clear hW; have cC := BCW.cell; have cN := BN.cell; have cE0 : W.cell? ⟨g1, j * 13, none⟩ = some _ := HR 0 _ rfl; have cE4 : W.cell? ⟨g1, j * 13 + 4, none⟩ = some _ := HR 4 _ rfl; have cE4b : W.cell? ⟨g1, j * 13 + 1 + 3, none⟩ = some _ := HR 4 _ rfl; have cE7 : W.cell? ⟨g1, j * 13 + 7, none⟩ = some _ := HR 7 _ rfl; have cE8 : W.cell? ⟨g1, j * 13 + 8, none⟩ = some _ := HR 8 _ rfl; have cE8b : W.cell? ⟨g1, j * 13 + 7 + 1, none⟩ = some _ := HR 8 _ rfl; have cE9 : W.cell? ⟨g1, j * 13 + 9, none⟩ = some _ := HR 9 _ rfl; have cE9b : W.cell? ⟨g1, j * 13 + 7 + 2, none⟩ = some _ := HR 9 _ rfl; clear HR))
              all_goals go_quiet (fail)
              have hE := fun u => eqSame_run 9998 n_ccl n_csq n_cop n_ck n_cv n_co u
              all_goals go_wp2_with (first
                | (have hBA := Pp2; refine gate_ld 35 (.tmp 10) rfl ?_; clear hBA; refine wpl_load_blk rfl 35 (.tmp 10) rfl (w4.heap.size) rfl (BN.drewN _) Try.underlying35 rfl sizeCliD rfl ?_)
                | (have hBA := Pp2; refine gate_st 35 (.tmp 3) _ rfl ?_; clear hBA; refine wpl_store_blk rfl 35 (.tmp 3) _ rfl (w1.heap.size) rfl rfl (BCW.drewN _) sizeCliD rfl rfl (by simp [Value.oneCell']) ?_))
              all_goals go_quiet (fail)
              all_goals go_wp2_with (first
                | (have hBA := Pp2; refine gate_ld 35 (.tmp 10) rfl ?_; clear hBA; refine wpl_load_blk rfl 35 (.tmp 10) rfl (w4.heap.size) rfl (BN.drewN _) Try.underlying35 rfl sizeCliD rfl ?_)
                | (have hBA := Pp2; refine gate_st 35 (.tmp 3) _ rfl ?_; clear hBA; refine wpl_store_blk rfl 35 (.tmp 3) _ rfl (w1.heap.size) rfl rfl (BCW.drewN _) sizeCliD rfl rfl (by simp [Value.oneCell']) ?_))
              all_goals go_roundw
              all_goals first
                | (simp [intOf]; omega)
                | (refine ⟨j + 1, by omega, by go_num, ?_⟩; rw [hnx'];  exact cli_rel (show W.heap = _ by rw [HW.out]) (show W.os = _ by rw [HW.out]; rfl) (show W.tape = _ by rw [HW.out]; rfl) (show W.output = _ by rw [HW.out]; rfl) BC HO1.out HO2.out HB.out (by omega) (by omega) (by omega))
          · rcases hss with hs0 | ⟨hs0, hs1⟩
            · as_aux_lemma =>
              subst u1 u2 u4 u6 u7 u8 hs0
              have H5 : Hid (n_bs = 0) := u5
              have v5 : (n_bs != 0) = false := by simp [u5]
              have v3 : (dn == 1) = true := by simp [u3]
              have v4 : (dn != 0) = true := by simp [u3]
              have v7 : (dn != 1) = false := by simp [u3]
              clear u5 u3
              go_wp2_with (first
                | (have hBA := Pp2; refine gate_ld 35 (.tmp 44) rfl ?_; clear hBA; refine wpl_load_part rfl 35 (.tmp 44) rfl p2 3 rfl Pp2 [.int .i64 n_id, .int .i64 n_sv, .int .i64 n_rt, .int .i64 e_rsq, .int .i64 n_bs, .int .i64 n_tg, .int .i64 n_wt, .int .i64 n_ccl, .int .i64 n_csq, .int .i64 n_cop, .string n_ck, .string n_cv, .string n_co] rfl Try.underlying35 rfl sizeCliD ?_)
                | (have hBA := Pp2; refine gate_st 35 (.tmp 10) _ rfl ?_; clear hBA; refine wpl_store_last rfl 35 (.tmp 10) _ rfl (w4.heap.size) rfl rfl rfl sizeCliD rfl rfl (by simp [Value.oneCell']) ?_; obtain ⟨W, hW⟩ : ∃ W, W = w4.alloc (.cells #[.int .i64 n_id, .int .i64 n_sv, .int .i64 n_rt, .int .i64 e_rsq, .int .i64 n_bs, .int .i64 n_tg, .int .i64 n_wt, .int .i64 n_ccl, .int .i64 n_csq, .int .i64 n_cop, .string n_ck, .string n_cv, .string n_co] 35) := ⟨_, rfl⟩; rw [← hW]; have cW := (Pp1.alloc (.cells #[.int .i64 n_id, .int .i64 n_sv, .int .i64 n_rt, .int .i64 e_rsq, .int .i64 n_bs, .int .i64 n_tg, .int .i64 n_wt, .int .i64 n_ccl, .int .i64 n_csq, .int .i64 n_cop, .string n_ck, .string n_cv, .string n_co] 35)).cell; have cG := (Pp2.alloc (.cells #[.int .i64 n_id, .int .i64 n_sv, .int .i64 n_rt, .int .i64 e_rsq, .int .i64 n_bs, .int .i64 n_tg, .int .i64 n_wt, .int .i64 n_ccl, .int .i64 n_csq, .int .i64 n_cop, .string n_ck, .string n_cv, .string n_co] 35)).cell; have BCW := BC.alloc (.cells #[.int .i64 n_id, .int .i64 n_sv, .int .i64 n_rt, .int .i64 e_rsq, .int .i64 n_bs, .int .i64 n_tg, .int .i64 n_wt, .int .i64 n_ccl, .int .i64 n_csq, .int .i64 n_cop, .string n_ck, .string n_cv, .string n_co] 35); have BN := Blk.new w4 #[.int .i64 n_id, .int .i64 n_sv, .int .i64 n_rt, .int .i64 e_rsq, .int .i64 n_bs, .int .i64 n_tg, .int .i64 n_wt, .int .i64 n_ccl, .int .i64 n_csq, .int .i64 n_cop, .string n_ck, .string n_cv, .string n_co] 35; have HR := (HO1.out.below ((Below.refl _ _).alloc (Nat.le_refl _) (.cells #[.int .i64 n_id, .int .i64 n_sv, .int .i64 n_rt, .int .i64 e_rsq, .int .i64 n_bs, .int .i64 n_tg, .int .i64 n_wt, .int .i64 n_ccl, .int .i64 n_csq, .int .i64 n_cop, .string n_ck, .string n_cv, .string n_co] 35))).range j hjl hget; rw [← hW] at cW cG BCW BN HR; have HW : Hid (W = w4.alloc (.cells #[.int .i64 n_id, .int .i64 n_sv, .int .i64 n_rt, .int .i64 e_rsq, .int .i64 n_bs, .int .i64 n_tg, .int .i64 n_wt, .int .i64 n_ccl, .int .i64 n_csq, .int .i64 n_cop, .string n_ck, .string n_cv, .string n_co] 35)) := hW; clear hW; have cC := BCW.cell; have cN := BN.cell; have cE0 : W.cell? ⟨g1, j * 13, none⟩ = some _ := HR 0 _ rfl; have cE4 : W.cell? ⟨g1, j * 13 + 4, none⟩ = some _ := HR 4 _ rfl; have cE4b : W.cell? ⟨g1, j * 13 + 1 + 3, none⟩ = some _ := HR 4 _ rfl; have cE7 : W.cell? ⟨g1, j * 13 + 7, none⟩ = some _ := HR 7 _ rfl; have cE8 : W.cell? ⟨g1, j * 13 + 8, none⟩ = some _ := HR 8 _ rfl; have cE8b : W.cell? ⟨g1, j * 13 + 7 + 1, none⟩ = some _ := HR 8 _ rfl; have cE9 : W.cell? ⟨g1, j * 13 + 9, none⟩ = some _ := HR 9 _ rfl; have cE9b : W.cell? ⟨g1, j * 13 + 7 + 2, none⟩ = some _ := HR 9 _ rfl; clear HR))
              all_goals go_quiet (fail)
              skip
              all_goals go_wp2_with (first
                | (have hBA := Pp2; refine gate_ld 35 (.tmp 10) rfl ?_; clear hBA; refine wpl_load_blk rfl 35 (.tmp 10) rfl (w4.heap.size) rfl (BN.drewN _) Try.underlying35 rfl sizeCliD rfl ?_)
                | (have hBA := Pp2; refine gate_st 35 (.tmp 3) _ rfl ?_; clear hBA; refine wpl_store_blk rfl 35 (.tmp 3) _ rfl (w1.heap.size) rfl rfl (BCW.drewN _) sizeCliD rfl rfl (by simp [Value.oneCell']) ?_))
              all_goals go_quiet (fail)
              all_goals go_upto_region 23 with (fail)
              all_goals go_wp2_with (first
                | (have hBA := Pp2; refine gate_ld 35 (.tmp 10) rfl ?_; clear hBA; refine wpl_load_blk rfl 35 (.tmp 10) rfl (w4.heap.size) rfl (BN.drewN _) Try.underlying35 rfl sizeCliD rfl ?_)
                | (have hBA := Pp2; refine gate_st 35 (.tmp 3) _ rfl ?_; clear hBA; refine wpl_store_blk rfl 35 (.tmp 3) _ rfl (w1.heap.size) rfl rfl (BCW.drewN _) sizeCliD rfl rfl (by simp [Value.oneCell']) ?_))
              all_goals go_roundw
              all_goals first
                | (simp [intOf]; omega)
                | (refine ⟨j + 1, by omega, by go_num, ?_⟩; rw [hnx']; have e5 := H5.out; subst e5; exact cli_rel (show W.heap = _ by rw [HW.out]) (show W.os = _ by rw [HW.out]; rfl) (show W.tape = _ by rw [HW.out]; rfl) (show W.output = _ by rw [HW.out]; rfl) BC HO1.out HO2.out HB.out (by omega) (by omega) (by omega))
            · as_aux_lemma =>
              subst u1 u2 u4 u6 u7 u8 hs0
              have H5 : Hid (n_bs = 0) := u5
              have v5 : (n_bs != 0) = false := by simp [u5]
              have v3 : (dn == 1) = true := by simp [u3]
              have v4 : (dn != 0) = true := by simp [u3]
              have v7 : (dn != 1) = false := by simp [u3]
              clear u5 u3
              go_wp2_with (first
                | (have hBA := Pp2; refine gate_ld 35 (.tmp 44) rfl ?_; clear hBA; refine wpl_load_part rfl 35 (.tmp 44) rfl p2 3 rfl Pp2 [.int .i64 n_id, .int .i64 n_sv, .int .i64 n_rt, .int .i64 e_rsq, .int .i64 n_bs, .int .i64 n_tg, .int .i64 n_wt, .int .i64 n_ccl, .int .i64 n_csq, .int .i64 n_cop, .string n_ck, .string n_cv, .string n_co] rfl Try.underlying35 rfl sizeCliD ?_)
                | (have hBA := Pp2; refine gate_st 35 (.tmp 10) _ rfl ?_; clear hBA; refine wpl_store_last rfl 35 (.tmp 10) _ rfl (w4.heap.size) rfl rfl rfl sizeCliD rfl rfl (by simp [Value.oneCell']) ?_; obtain ⟨W, hW⟩ : ∃ W, W = w4.alloc (.cells #[.int .i64 n_id, .int .i64 n_sv, .int .i64 n_rt, .int .i64 e_rsq, .int .i64 n_bs, .int .i64 n_tg, .int .i64 n_wt, .int .i64 n_ccl, .int .i64 n_csq, .int .i64 n_cop, .string n_ck, .string n_cv, .string n_co] 35) := ⟨_, rfl⟩; rw [← hW]; have cW := (Pp1.alloc (.cells #[.int .i64 n_id, .int .i64 n_sv, .int .i64 n_rt, .int .i64 e_rsq, .int .i64 n_bs, .int .i64 n_tg, .int .i64 n_wt, .int .i64 n_ccl, .int .i64 n_csq, .int .i64 n_cop, .string n_ck, .string n_cv, .string n_co] 35)).cell; have cG := (Pp2.alloc (.cells #[.int .i64 n_id, .int .i64 n_sv, .int .i64 n_rt, .int .i64 e_rsq, .int .i64 n_bs, .int .i64 n_tg, .int .i64 n_wt, .int .i64 n_ccl, .int .i64 n_csq, .int .i64 n_cop, .string n_ck, .string n_cv, .string n_co] 35)).cell; have BCW := BC.alloc (.cells #[.int .i64 n_id, .int .i64 n_sv, .int .i64 n_rt, .int .i64 e_rsq, .int .i64 n_bs, .int .i64 n_tg, .int .i64 n_wt, .int .i64 n_ccl, .int .i64 n_csq, .int .i64 n_cop, .string n_ck, .string n_cv, .string n_co] 35); have BN := Blk.new w4 #[.int .i64 n_id, .int .i64 n_sv, .int .i64 n_rt, .int .i64 e_rsq, .int .i64 n_bs, .int .i64 n_tg, .int .i64 n_wt, .int .i64 n_ccl, .int .i64 n_csq, .int .i64 n_cop, .string n_ck, .string n_cv, .string n_co] 35; have HR := (HO1.out.below ((Below.refl _ _).alloc (Nat.le_refl _) (.cells #[.int .i64 n_id, .int .i64 n_sv, .int .i64 n_rt, .int .i64 e_rsq, .int .i64 n_bs, .int .i64 n_tg, .int .i64 n_wt, .int .i64 n_ccl, .int .i64 n_csq, .int .i64 n_cop, .string n_ck, .string n_cv, .string n_co] 35))).range j hjl hget; rw [← hW] at cW cG BCW BN HR; have HW : Hid (W = w4.alloc (.cells #[.int .i64 n_id, .int .i64 n_sv, .int .i64 n_rt, .int .i64 e_rsq, .int .i64 n_bs, .int .i64 n_tg, .int .i64 n_wt, .int .i64 n_ccl, .int .i64 n_csq, .int .i64 n_cop, .string n_ck, .string n_cv, .string n_co] 35)) := hW; clear hW; have cC := BCW.cell; have cN := BN.cell; have cE0 : W.cell? ⟨g1, j * 13, none⟩ = some _ := HR 0 _ rfl; have cE4 : W.cell? ⟨g1, j * 13 + 4, none⟩ = some _ := HR 4 _ rfl; have cE4b : W.cell? ⟨g1, j * 13 + 1 + 3, none⟩ = some _ := HR 4 _ rfl; have cE7 : W.cell? ⟨g1, j * 13 + 7, none⟩ = some _ := HR 7 _ rfl; have cE8 : W.cell? ⟨g1, j * 13 + 8, none⟩ = some _ := HR 8 _ rfl; have cE8b : W.cell? ⟨g1, j * 13 + 7 + 1, none⟩ = some _ := HR 8 _ rfl; have cE9 : W.cell? ⟨g1, j * 13 + 9, none⟩ = some _ := HR 9 _ rfl; have cE9b : W.cell? ⟨g1, j * 13 + 7 + 2, none⟩ = some _ := HR 9 _ rfl; clear HR))
              all_goals go_quiet (fail)
              skip
              all_goals go_wp2_with (first
                | (have hBA := Pp2; refine gate_ld 35 (.tmp 10) rfl ?_; clear hBA; refine wpl_load_blk rfl 35 (.tmp 10) rfl (w4.heap.size) rfl (BN.drewN _) Try.underlying35 rfl sizeCliD rfl ?_)
                | (have hBA := Pp2; refine gate_st 35 (.tmp 3) _ rfl ?_; clear hBA; refine wpl_store_blk rfl 35 (.tmp 3) _ rfl (w1.heap.size) rfl rfl (BCW.drewN _) sizeCliD rfl rfl (by simp [Value.oneCell']) ?_))
              all_goals go_quiet (fail)
              all_goals go_upto_region 23 with (fail)
              all_goals go_wp2_with (first
                | (have hBA := Pp2; refine gate_ld 35 (.tmp 10) rfl ?_; clear hBA; refine wpl_load_blk rfl 35 (.tmp 10) rfl (w4.heap.size) rfl (BN.drewN _) Try.underlying35 rfl sizeCliD rfl ?_)
                | (have hBA := Pp2; refine gate_st 35 (.tmp 3) _ rfl ?_; clear hBA; refine wpl_store_blk rfl 35 (.tmp 3) _ rfl (w1.heap.size) rfl rfl (BCW.drewN _) sizeCliD rfl rfl (by simp [Value.oneCell']) ?_))
              all_goals go_roundw
              all_goals first
                | (simp [intOf]; omega)
                | (refine ⟨j + 1, by omega, by go_num, ?_⟩; rw [hnx']; have e5 := H5.out; subst e5; exact cli_rel (show W.heap = _ by rw [HW.out]) (show W.os = _ by rw [HW.out]; rfl) (show W.tape = _ by rw [HW.out]; rfl) (show W.output = _ by rw [HW.out]; rfl) BC HO1.out HO2.out HB.out (by omega) (by omega) (by omega))
    · obtain rfl : j = n := by omega
      go_wp2
      go_ret
      exact ⟨rfl, hb⟩
end Go.Proofs.Ytclphmakokpnnaa
