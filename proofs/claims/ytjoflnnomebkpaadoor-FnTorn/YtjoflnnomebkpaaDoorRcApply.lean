/-
  The changes of impl: apply.
-/
import Derived.Test.YtjoflnnomebkpaaDoorRcFol
import Derived.Test.YtjoflnnomebkpaaDoorRegInv
import Derived.Deep.RegionLaw
import Derived.Deep.MidRow
namespace Go.Proofs.YtjoflnnomebkpaaDoor
open Go.RowKit
set_option linter.unusedVariables false
set_option linter.unusedSimpArgs false

theorem Blk.part {w : World} {b : Nat} {C : Array Value} {t : TypeId} (h : Blk w b C t) (off : Nat) (cs : List Value) (hcs : (C.toList.drop off).take cs.length = cs) : w.rangeAt b off cs := fun j v hv => by
  have hj : j < cs.length := (List.getElem?_eq_some_iff.1 hv).1
  rw [h.cell (off + j), ← hv, ← hcs, List.getElem?_take, if_pos hj, List.getElem?_drop]
  simp
theorem infoStab : (Tryd.prog.info? 39).map (·.size) = some 3 := by kernel_rfl
theorem infoHard : (Tryd.prog.info? 97).map (·.size) = some 2 := by kernel_rfl
theorem infoAdd : (Tryd.prog.info? 138).map (·.size) = some 8 := by kernel_rfl
theorem entAt_new' (w : World) (e : Ent) : EntAt (w.alloc (.cells #[.int .i64 e.t, .int .i64 e.cl, .int .i64 e.sq, .int .i64 e.op, .string e.k, .string e.v, .string e.o] 92)) w.heap.size 0 e := by
  unfold EntAt
  simp [World.cell?_alloc_new]
set_option maxRecDepth 100000 in
theorem stp_appendE {w : World} {ops : Array Oper} {o : Oper} {a : Act} {K : Act → World → Prop} {Q : Exit → Act → World → Prop} {E : Prop} (hgd : o.guard = none) (s x : Operand)
    (ho : o.op = .call { callee := .builtin .append, args := #[s, x], argTypes := #[37, 37] })
    {B : Nat} {v : Value} {l : List Ent} (e : Ent) (hf : e.fits) (hown : OwnE w B v l) (hs : a.eval s = v) (b c : Nat) (hu : EntAt w b 0 e) (hx : a.eval x = .slice (some ⟨b, 0, none⟩) 1 c) (hlen : l.length ≤ 1048576) (hB : B ≤ w.heap.size)
    (h : ∀ v' w', OwnE w' B v' (l ++ [e]) → Grew w v w' v' → K (a.put o.dst v') w') : if Region.wanted o (yielded ops a.tmps) = true then Oper.wp Tryd.prog o a w K Q else E := by
  have hw : Region.wanted o (yielded ops a.tmps) = true := by simp [Region.wanted, hgd]
  rw [if_pos hw]
  obtain ⟨i0, hi, hz0, hz1, hz2⟩ := info_parts infoEnt
  obtain ⟨u0, u1, u2, u3, u4, u5, u6⟩ := hu
  obtain ⟨v', w', hr, h2, h3, h4, h5⟩ := run_append_own_at (P := Tryd.prog) w B 37 o.type 92 i0 _ 7 80 Tryd.underlying37 hi hz0 hz1 hz2 rfl (by decide) v l.length _ hown.2 ⟨b, 0, none⟩ 1 c e.cells rfl
    (by
      intro j u hj
      rw [cell_add, Nat.zero_add]
      have hj7 : j < 7 := (List.getElem?_eq_some_iff.1 hj).1
      rcases (show j = 0 ∨ j = 1 ∨ j = 2 ∨ j = 3 ∨ j = 4 ∨ j = 5 ∨ j = 6 by omega) with rfl | rfl | rfl | rfl | rfl | rfl | rfl
      · exact u0.trans hj
      · exact u1.trans hj
      · exact u2.trans hj
      · exact u3.trans hj
      · exact u4.trans hj
      · exact u5.trans hj
      · exact u6.trans hj)
    (by
      intro u hu
      simp only [Ent.cells, List.mem_cons, List.not_mem_nil, or_false] at hu
      rcases hu with rfl | rfl | rfl | rfl | rfl | rfl | rfl <;> rfl)
    (by unfold maxLen; omega) (by omega) hB
  unfold Oper.wp execOp
  simp only [ho, resolve, invoke, builtin, Sem.run_bind, Sem.run_pure, Result.andThen_ok, List.map_toArray, List.map_cons, List.map_nil, hs, hx, hr]
  refine h v' w' ⟨fun y hy => ?_, by rw [entCells_app]; simpa [entCells] using h2⟩ ⟨h3, h5.imp id fun e => ⟨_, e, Nat.le_refl _⟩⟩
  rcases List.mem_append.1 hy with hy | hy
  · exact hown.1 y hy
  · rw [List.mem_singleton.1 hy]; exact hf

theorem OwnE.take {w : World} {B g n cap : Nat} {l : List Ent} (h : OwnE w B (.slice (some ⟨g, 0, none⟩) n cap) l) (k : Nat) (hk : k ≤ l.length) : OwnE w B (.slice (some ⟨g, 0, none⟩) k cap) (l.take k) := by
  have hlt : (l.take k).length = k := by rw [List.length_take]; omega
  refine ⟨fun e he => h.1 e (List.mem_of_mem_take he), ?_⟩
  rw [hlt]
  obtain ⟨hx, hr⟩ := h.2
  rcases hr with ⟨h0, _⟩ | ⟨g', cap', cur, hv, hg, hh, h1, h2, h3, h4⟩
  · cases h0
  · simp only [Value.slice.injEq, Option.some.injEq, Addr.mk.injEq, and_true] at hv
    obtain ⟨rfl, _, rfl⟩ := hv
    refine ⟨by rw [entCells_len, hlt], .inr ⟨g, cap, cur, rfl, hg, hh, by omega, h2, h3, ?_⟩⟩
    have e1 : entCells (l.take k) = (entCells l).take (k * 7) := by
      have h7 : entCells l = entCells (l.take k) ++ entCells (l.drop k) := by rw [← entCells_app, List.take_append_drop]
      have h8 : (entCells (l.take k)).length = k * 7 := by rw [entCells_len, hlt]
      rw [show (entCells l).take (k * 7) = (entCells (l.take k) ++ entCells (l.drop k)).take (k * 7) by rw [← h7], List.take_append_of_le_length (by omega)]
      exact (List.take_of_length_le (by omega)).symm
    rw [e1, ← h4, List.take_take, Nat.min_eq_left (by omega)]

/-- a Recovery of the call's own in block q; its log lies behind q -/
def Rc (w : World) (q : Nat) (cd gd rn : Int) (s : Stt) : Prop :=
  ∃ lg, Blk w q #[.int .i64 cd, .int .i64 gd, .int .i64 rn, .int .i64 s.t, .int .i64 s.v, lg] 100 ∧ OwnE w (q + 1) lg s.log
theorem Rc.below {w w' : World} {q : Nat} {cd gd rn : Int} {s : Stt} (h : Rc w q cd gd rn s) (hb : Below w.heap.size w w') : Rc w' q cd gd rn s := by
  obtain ⟨lg, h1, h2⟩ := h
  exact ⟨lg, h1.below hb h1.lt, h2.below hb⟩
theorem Rc.lt {w : World} {q : Nat} {cd gd rn : Int} {s : Stt} (h : Rc w q cd gd rn s) : q < w.heap.size := by
  obtain ⟨lg, h1, _⟩ := h
  exact h1.lt

theorem slice_he (a : Option Addr) (len c n : Nat) (h : n ≤ c) (wx : World) : (Instr.slice 37 (.slice a len c) none (some (.int .i64 (n : Int))) none).run Tryd.prog wx = .ok (sliced a 0 n c 7) wx := by
  have hel : Tryd.prog.elem 37 = 92 := by rw [Program.elem, Tryd.underlying37]
  have hu : Tryd.prog.underlying 37 = some (.slice (Tryd.prog.elem 37)) := by rw [hel]; exact Tryd.underlying37
  have hz : ∀ w, (Go.sizeOf 92).run Tryd.prog w = .ok 7 w := fun w => by kernel_rfl
  rw [run_slice_h wx 37 a len c hu .i64 (n : Int) (by omega) (by omega), hel, hz]
  rfl
theorem heap_oneN {w : World} {q i k n : Nat} (x : Value) (h : k ≠ q) : ((w.drewN n).setCell ⟨q, i, none⟩ x).heap[k]? = w.heap[k]? := Below.heap_setCell (w.drewN n) ⟨q, i, none⟩ x k h
theorem below_oneN {B : Nat} {w0 w : World} {q i n : Nat} (x : Value) (h : Below B w0 w) (hq : B ≤ q) : Below B w0 ((w.drewN n).setCell ⟨q, i, none⟩ x) := have h' : Below B w0 (w.drewN n) := ⟨h.os, h.tape, h.output, h.size, h.block⟩; h'.setCell (show B ≤ (⟨q, i, none⟩ : Addr).block from hq) x
theorem below_one {B : Nat} {w0 w : World} {q i : Nat} (x : Value) (h : Below B w0 w) (hq : B ≤ q) : Below B w0 (w.setCell ⟨q, i, none⟩ x) := h.setCell (show B ≤ (⟨q, i, none⟩ : Addr).block from hq) x
theorem heap_two {w : World} {q i j k : Nat} (x y : Value) (h : k ≠ q) : ((w.setCell ⟨q, i, none⟩ x).setCell ⟨q, j, none⟩ y).drew.heap[k]? = w.heap[k]? := (Below.heap_setCell (w.setCell ⟨q, i, none⟩ x) ⟨q, j, none⟩ y k h).trans (Below.heap_setCell w ⟨q, i, none⟩ x k h)
theorem below_two {B : Nat} {w0 w : World} {q i j : Nat} (x y : Value) (h : Below B w0 w) (hq : B ≤ q) : Below B w0 ((w.setCell ⟨q, i, none⟩ x).setCell ⟨q, j, none⟩ y).drew := ((h.setCell (show B ≤ (⟨q, i, none⟩ : Addr).block from hq) x).setCell (show B ≤ (⟨q, j, none⟩ : Addr).block from hq) y).drew
/-- behind an append to the log the block q is what it was -/
theorem Blk.grownR {w w' : World} {q : Nat} {C : Array Value} {t : TypeId} {v v' : Value} {l : List Ent} {wo : World} {B : Nat} (h : Blk w q C t) (hg : Grew w v w' v') (hq : q < B) (ho : OwnE wo B v l) : Blk w' q C t :=
  h.keep (hg.g.block q h.lt (fun e => by have := (ho.2.lt q e.symm).1; omega))
theorem grewQ {w w' wo : World} {q : Nat} {v v' : Value} {l : List Ent} (hg : Grew w v w' v') (ho : OwnE wo (q + 1) v l) (hq : q ≤ w.heap.size) : Below q w w' :=
  (Below.refl _ _).grown hg.g hq (fun k hk => by have := (ho.2.lt k hk).1; omega)

set_option maxHeartbeats 8000000 in
set_option maxRecDepth 100000 in
theorem hardApply (q : Nat) (cd gd rn : Int) (s : Stt) (tm vo : Int) (w : World) (A : Nat → Addr) (B : Nat) (hs : Sents w A B) (h : Rc w q cd gd rn s) (hll : s.log.length ≤ 1048576) :
    Calls Tryd.prog 157 #[.agg #[.int .i64 tm, .int .i64 vo], .pointer (some ⟨q, 3, none⟩)] w fun e w' => e = .returned (if folR s.t s.v tm vo = true then .nilIface else refV (A 9) 0) ∧ Rc w' q cd gd rn (if folR s.t s.v tm vo = true then ⟨tm, vo, s.log⟩ else s) ∧ Below q w w' := by
  obtain ⟨lg, BQ0, HO⟩ := h
  obtain ⟨t, v, l⟩ := s
  dsimp only at BQ0 HO hll ⊢
  obtain ⟨la, lc, rfl⟩ := HO.shape
  have hq := BQ0.lt
  have HES : Hid (Es w (.slice la l.length lc) l) := HO.es (by unfold maxLen; omega)
  have HOW : Hid (OwnE w (q + 1) (.slice la l.length lc) l) := HO
  clear HO
  have BQ : Blk (w.alloc (.cells #[.int .i64 tm, .int .i64 vo] 97)) q #[.int .i64 cd, .int .i64 gd, .int .i64 rn, .int .i64 t, .int .i64 v, .slice la l.length lc] 100 := BQ0.alloc _
  have BX : Blk (w.alloc (.cells #[.int .i64 tm, .int .i64 vo] 97)) w.heap.size #[.int .i64 tm, .int .i64 vo] 97 := Blk.new _ _ _
  have HF : ∀ u : World, Hid (Calls Tryd.prog 59 #[.agg #[.int .i64 tm, .int .i64 vo], .agg #[.int .i64 t, .int .i64 v, .slice la l.length lc]] u fun e w' => e = .returned (.bool (folR t v tm vo)) ∧ Below u.heap.size u w') := fun u => hardFollows_any _ _ _ _ _ _ _ u
  cases hF : folR t v tm vo
  · rw [hF] at HF
    go_enter Tryd.func157, Tryd.ntmps157
    go_wp2_with (fail)
    refine wp_named ?_
    intro a0 ha0
    have hsz0 : a0.tmps.size = 24 := by rw [ha0]; rfl
    have e1 : a0.eval (.tmp 1) = .pointer (some ⟨q, 3, none⟩) := by rw [ha0]; rfl
    have e2 : a0.eval (.tmp 2) = .pointer (some ⟨w.heap.size, 0, none⟩) := by rw [ha0]; rfl
    have HA0 : Hid (a0 = _) := ha0
    clear ha0
    refine wp_region_inv (by kernel_rfl) (fun L aF w' => ∃ x : Nat → Value, aF = frame a0 [5, 6, 7, 8, 9, 10] x ∧ Below (w.alloc (.cells #[.int .i64 tm, .int .i64 vo] 97)).heap.size (w.alloc (.cells #[.int .i64 tm, .int .i64 vo] 97)) w' ∧ (L.getD 0 false = true → x 5 = .agg #[.int .i64 tm, .int .i64 vo]) ∧ (L.getD 1 false = true → x 6 = .pointer (some ⟨q, 3, none⟩)) ∧ (L.getD 2 false = true → x 7 = .pointer (some ⟨q, 3, none⟩)) ∧ (L.getD 3 false = true → x 8 = .agg #[.int .i64 t, .int .i64 v, .slice la l.length lc]) ∧ (L.getD 4 false = true → x 9 = .bool false) ∧ (L.getD 5 false = true → x 10 = .bool (!false))) ?_ ?_ ?_
    · exact ⟨_, frame_self a0 [5, 6, 7, 8, 9, 10], (Below.refl _ _).drew, fun h => (noBit h).elim, fun h => (noBit h).elim, fun h => (noBit h).elim, fun h => (noBit h).elim, fun h => (noBit h).elim, fun h => (noBit h).elim⟩
    · rintro L a w' i hsL hi ⟨x, rfl, hB, h0, h1, h2, h3, h4, h5⟩
      have hiL : i < 6 := (ready_mem hsL hi).1
      have hL : L.size = 6 := hsL
      have hw' : (w.alloc (.cells #[.int .i64 tm, .int .i64 vo] 97)).heap.size ≤ w'.heap.size := hB.size
      rcases (show i = 0 ∨ i = 1 ∨ i = 2 ∨ i = 3 ∨ i = 4 ∨ i = 5 by omega) with rfl | rfl | rfl | rfl | rfl | rfl
      · skip
        refine wpOp_plain rfl rfl (wp_load_blk 97 (.tmp 2) rfl (w.heap.size) ((frame_eval _ _ _ 2 rfl).trans e2) (BX.below hB BX.lt) Tryd.underlying97 rfl infoHard rfl ?_)
        exact ⟨_, frame_put _ _ _ 5 _ rfl, hB, fun h => upd_same _ _ _, fun h => by rw [upd_ne _ _ _ _ (by decide)]; exact (h1 (keepBit h (by omega) (by decide))), fun h => by rw [upd_ne _ _ _ _ (by decide)]; exact (h2 (keepBit h (by omega) (by decide))), fun h => by rw [upd_ne _ _ _ _ (by decide)]; exact (h3 (keepBit h (by omega) (by decide))), fun h => by rw [upd_ne _ _ _ _ (by decide)]; exact (h4 (keepBit h (by omega) (by decide))), fun h => by rw [upd_ne _ _ _ _ (by decide)]; exact (h5 (keepBit h (by omega) (by decide)))⟩
      · skip
        refine wpOp_plain rfl rfl (wp_move_go (.tmp 1) (Or.inl rfl) ?_)
        rw [frame_eval _ _ _ 1 rfl, e1]
        exact ⟨_, frame_put _ _ _ 6 _ rfl, hB, fun h => by rw [upd_ne _ _ _ _ (by decide)]; exact (h0 (keepBit h (by omega) (by decide))), fun h => upd_same _ _ _, fun h => by rw [upd_ne _ _ _ _ (by decide)]; exact (h2 (keepBit h (by omega) (by decide))), fun h => by rw [upd_ne _ _ _ _ (by decide)]; exact (h3 (keepBit h (by omega) (by decide))), fun h => by rw [upd_ne _ _ _ _ (by decide)]; exact (h4 (keepBit h (by omega) (by decide))), fun h => by rw [upd_ne _ _ _ _ (by decide)]; exact (h5 (keepBit h (by omega) (by decide)))⟩
      · have d1 := h1 (ready_needs hi (by decide))
        have ev6 : (frame a0 [5, 6, 7, 8, 9, 10] x).tmps[6]?.getD undef = .pointer (some ⟨q, 3, none⟩) := by have h := (frame_eval_in a0 [5, 6, 7, 8, 9, 10] x 6 rfl (by omega)).trans d1; simpa [Act.eval] using h
        refine wpOp_plain rfl rfl (wp_value_go (v := .pointer (some ⟨q, 3, none⟩)) ?_ ?_)
        · obtain ⟨aa, haa⟩ : ∃ aa, aa = frame a0 [5, 6, 7, 8, 9, 10] x := ⟨_, rfl⟩
          rw [← haa] at ev6 ⊢
          clear haa HA0
          go_simp
        exact ⟨_, frame_put _ _ _ 7 _ rfl, hB, fun h => by rw [upd_ne _ _ _ _ (by decide)]; exact (h0 (keepBit h (by omega) (by decide))), fun h => by rw [upd_ne _ _ _ _ (by decide)]; exact (h1 (keepBit h (by omega) (by decide))), fun h => upd_same _ _ _, fun h => by rw [upd_ne _ _ _ _ (by decide)]; exact (h3 (keepBit h (by omega) (by decide))), fun h => by rw [upd_ne _ _ _ _ (by decide)]; exact (h4 (keepBit h (by omega) (by decide))), fun h => by rw [upd_ne _ _ _ _ (by decide)]; exact (h5 (keepBit h (by omega) (by decide)))⟩
      · have d2 := h2 (ready_needs hi (by decide))
        have evp := (frame_eval_in a0 [5, 6, 7, 8, 9, 10] x 7 rfl (by omega)).trans d2
        refine wpOp_plain rfl rfl (wp_load_mid 39 (.tmp 7) rfl (q) (3) evp [.int .i64 t, .int .i64 v, .slice la l.length lc] _ ((BQ.below hB BQ.lt).part 3 _ rfl) Tryd.underlying39 rfl infoStab ?_)
        exact ⟨_, frame_put _ _ _ 8 _ rfl, hB, fun h => by rw [upd_ne _ _ _ _ (by decide)]; exact (h0 (keepBit h (by omega) (by decide))), fun h => by rw [upd_ne _ _ _ _ (by decide)]; exact (h1 (keepBit h (by omega) (by decide))), fun h => by rw [upd_ne _ _ _ _ (by decide)]; exact (h2 (keepBit h (by omega) (by decide))), fun h => upd_same _ _ _, fun h => by rw [upd_ne _ _ _ _ (by decide)]; exact (h4 (keepBit h (by omega) (by decide))), fun h => by rw [upd_ne _ _ _ _ (by decide)]; exact (h5 (keepBit h (by omega) (by decide)))⟩
      · have d0 := h0 (ready_needs hi (by decide))
        have d3 := h3 (ready_needs hi (by decide))
        have ev5 := (frame_eval_in a0 [5, 6, 7, 8, 9, 10] x 5 rfl (by omega)).trans d0
        have ev8 := (frame_eval_in a0 [5, 6, 7, 8, 9, 10] x 8 rfl (by omega)).trans d3
        refine wpOp_plain rfl rfl (wp_call_go (N := 59) rfl (fun _ _ => by go_simp) #[.agg #[.int .i64 tm, .int .i64 vo], .agg #[.int .i64 t, .int .i64 v, .slice la l.length lc]] (by simp only [List.map_toArray, List.map_cons, List.map_nil, ev5, ev8]) ?_)
        refine Calls.mono ((HF _).out) ?_
        rintro e w2 ⟨rfl, hb⟩
        refine ⟨_, rfl, ?_⟩
        exact ⟨_, frame_put _ _ _ 9 _ rfl, hB.trans (hb.mono hw'), fun h => by rw [upd_ne _ _ _ _ (by decide)]; exact (h0 (keepBit h (by omega) (by decide))), fun h => by rw [upd_ne _ _ _ _ (by decide)]; exact (h1 (keepBit h (by omega) (by decide))), fun h => by rw [upd_ne _ _ _ _ (by decide)]; exact (h2 (keepBit h (by omega) (by decide))), fun h => by rw [upd_ne _ _ _ _ (by decide)]; exact (h3 (keepBit h (by omega) (by decide))), fun h => upd_same _ _ _, fun h => by rw [upd_ne _ _ _ _ (by decide)]; exact (h5 (keepBit h (by omega) (by decide)))⟩
      · have d4 := h4 (ready_needs hi (by decide))
        have evn := (frame_eval_in a0 [5, 6, 7, 8, 9, 10] x 9 rfl (by omega)).trans d4
        refine wpOp_plain rfl rfl (wp_not_go (.tmp 9) rfl evn ?_)
        exact ⟨_, frame_put _ _ _ 10 _ rfl, hB, fun h => by rw [upd_ne _ _ _ _ (by decide)]; exact (h0 (keepBit h (by omega) (by decide))), fun h => by rw [upd_ne _ _ _ _ (by decide)]; exact (h1 (keepBit h (by omega) (by decide))), fun h => by rw [upd_ne _ _ _ _ (by decide)]; exact (h2 (keepBit h (by omega) (by decide))), fun h => by rw [upd_ne _ _ _ _ (by decide)]; exact (h3 (keepBit h (by omega) (by decide))), fun h => by rw [upd_ne _ _ _ _ (by decide)]; exact (h4 (keepBit h (by omega) (by decide))), fun h => upd_same _ _ _⟩
    · rintro L a w' hsL hr ⟨x, rfl, hB, h0, h1, h2, h3, h4, h5⟩
      have hall := ready_nil hsL hr (by decide)
      replace h0 := h0 (hall 0 (by decide))
      replace h1 := h1 (hall 1 (by decide))
      replace h2 := h2 (hall 2 (by decide))
      replace h3 := h3 (hall 3 (by decide))
      replace h4 := h4 (hall 4 (by decide))
      replace h5 := h5 (hall 5 (by decide))
      rw [HA0.out]
      simp only [frame, List.zipIdx_cons, List.zipIdx_nil, List.map_cons, List.map_nil, List.contains_cons, List.contains_nil, Nat.reduceBEq, Nat.reduceAdd, Bool.or_false, Bool.false_or, Bool.or_true, Bool.true_or, Bool.false_eq_true, if_false, if_true, h0, h1, h2, h3, h4, h5]
      have hB0 : Below w.heap.size w w' := (((Below.refl _ _).alloc (Nat.le_refl _) _).trans (hB.mono (by simp)))
      replace BQ := BQ.below hB BQ.lt
      replace BX := BX.below hB BX.lt
      clear HES HF h0 h1 h2 h3 h4 h5 hall hr hsL HA0 hsz0 e1 e2
      have g9 := (hs.below hB0).g9
      go_wp2
      go_ret
      exact ⟨rfl, ⟨_, BQ, HOW.out.below hB0⟩, hB0.mono (by omega)⟩
  · rw [hF] at HF
    go_enter Tryd.func157, Tryd.ntmps157
    go_wp2_with (fail)
    refine wp_named ?_
    intro a0 ha0
    have hsz0 : a0.tmps.size = 24 := by rw [ha0]; rfl
    have e1 : a0.eval (.tmp 1) = .pointer (some ⟨q, 3, none⟩) := by rw [ha0]; rfl
    have e2 : a0.eval (.tmp 2) = .pointer (some ⟨w.heap.size, 0, none⟩) := by rw [ha0]; rfl
    have HA0 : Hid (a0 = _) := ha0
    clear ha0
    refine wp_region_inv (by kernel_rfl) (fun L aF w' => ∃ x : Nat → Value, aF = frame a0 [5, 6, 7, 8, 9, 10] x ∧ Below (w.alloc (.cells #[.int .i64 tm, .int .i64 vo] 97)).heap.size (w.alloc (.cells #[.int .i64 tm, .int .i64 vo] 97)) w' ∧ (L.getD 0 false = true → x 5 = .agg #[.int .i64 tm, .int .i64 vo]) ∧ (L.getD 1 false = true → x 6 = .pointer (some ⟨q, 3, none⟩)) ∧ (L.getD 2 false = true → x 7 = .pointer (some ⟨q, 3, none⟩)) ∧ (L.getD 3 false = true → x 8 = .agg #[.int .i64 t, .int .i64 v, .slice la l.length lc]) ∧ (L.getD 4 false = true → x 9 = .bool true) ∧ (L.getD 5 false = true → x 10 = .bool (!true))) ?_ ?_ ?_
    · exact ⟨_, frame_self a0 [5, 6, 7, 8, 9, 10], (Below.refl _ _).drew, fun h => (noBit h).elim, fun h => (noBit h).elim, fun h => (noBit h).elim, fun h => (noBit h).elim, fun h => (noBit h).elim, fun h => (noBit h).elim⟩
    · rintro L a w' i hsL hi ⟨x, rfl, hB, h0, h1, h2, h3, h4, h5⟩
      have hiL : i < 6 := (ready_mem hsL hi).1
      have hL : L.size = 6 := hsL
      have hw' : (w.alloc (.cells #[.int .i64 tm, .int .i64 vo] 97)).heap.size ≤ w'.heap.size := hB.size
      rcases (show i = 0 ∨ i = 1 ∨ i = 2 ∨ i = 3 ∨ i = 4 ∨ i = 5 by omega) with rfl | rfl | rfl | rfl | rfl | rfl
      · skip
        refine wpOp_plain rfl rfl (wp_load_blk 97 (.tmp 2) rfl (w.heap.size) ((frame_eval _ _ _ 2 rfl).trans e2) (BX.below hB BX.lt) Tryd.underlying97 rfl infoHard rfl ?_)
        exact ⟨_, frame_put _ _ _ 5 _ rfl, hB, fun h => upd_same _ _ _, fun h => by rw [upd_ne _ _ _ _ (by decide)]; exact (h1 (keepBit h (by omega) (by decide))), fun h => by rw [upd_ne _ _ _ _ (by decide)]; exact (h2 (keepBit h (by omega) (by decide))), fun h => by rw [upd_ne _ _ _ _ (by decide)]; exact (h3 (keepBit h (by omega) (by decide))), fun h => by rw [upd_ne _ _ _ _ (by decide)]; exact (h4 (keepBit h (by omega) (by decide))), fun h => by rw [upd_ne _ _ _ _ (by decide)]; exact (h5 (keepBit h (by omega) (by decide)))⟩
      · skip
        refine wpOp_plain rfl rfl (wp_move_go (.tmp 1) (Or.inl rfl) ?_)
        rw [frame_eval _ _ _ 1 rfl, e1]
        exact ⟨_, frame_put _ _ _ 6 _ rfl, hB, fun h => by rw [upd_ne _ _ _ _ (by decide)]; exact (h0 (keepBit h (by omega) (by decide))), fun h => upd_same _ _ _, fun h => by rw [upd_ne _ _ _ _ (by decide)]; exact (h2 (keepBit h (by omega) (by decide))), fun h => by rw [upd_ne _ _ _ _ (by decide)]; exact (h3 (keepBit h (by omega) (by decide))), fun h => by rw [upd_ne _ _ _ _ (by decide)]; exact (h4 (keepBit h (by omega) (by decide))), fun h => by rw [upd_ne _ _ _ _ (by decide)]; exact (h5 (keepBit h (by omega) (by decide)))⟩
      · have d1 := h1 (ready_needs hi (by decide))
        have ev6 : (frame a0 [5, 6, 7, 8, 9, 10] x).tmps[6]?.getD undef = .pointer (some ⟨q, 3, none⟩) := by have h := (frame_eval_in a0 [5, 6, 7, 8, 9, 10] x 6 rfl (by omega)).trans d1; simpa [Act.eval] using h
        refine wpOp_plain rfl rfl (wp_value_go (v := .pointer (some ⟨q, 3, none⟩)) ?_ ?_)
        · obtain ⟨aa, haa⟩ : ∃ aa, aa = frame a0 [5, 6, 7, 8, 9, 10] x := ⟨_, rfl⟩
          rw [← haa] at ev6 ⊢
          clear haa HA0
          go_simp
        exact ⟨_, frame_put _ _ _ 7 _ rfl, hB, fun h => by rw [upd_ne _ _ _ _ (by decide)]; exact (h0 (keepBit h (by omega) (by decide))), fun h => by rw [upd_ne _ _ _ _ (by decide)]; exact (h1 (keepBit h (by omega) (by decide))), fun h => upd_same _ _ _, fun h => by rw [upd_ne _ _ _ _ (by decide)]; exact (h3 (keepBit h (by omega) (by decide))), fun h => by rw [upd_ne _ _ _ _ (by decide)]; exact (h4 (keepBit h (by omega) (by decide))), fun h => by rw [upd_ne _ _ _ _ (by decide)]; exact (h5 (keepBit h (by omega) (by decide)))⟩
      · have d2 := h2 (ready_needs hi (by decide))
        have evp := (frame_eval_in a0 [5, 6, 7, 8, 9, 10] x 7 rfl (by omega)).trans d2
        refine wpOp_plain rfl rfl (wp_load_mid 39 (.tmp 7) rfl (q) (3) evp [.int .i64 t, .int .i64 v, .slice la l.length lc] _ ((BQ.below hB BQ.lt).part 3 _ rfl) Tryd.underlying39 rfl infoStab ?_)
        exact ⟨_, frame_put _ _ _ 8 _ rfl, hB, fun h => by rw [upd_ne _ _ _ _ (by decide)]; exact (h0 (keepBit h (by omega) (by decide))), fun h => by rw [upd_ne _ _ _ _ (by decide)]; exact (h1 (keepBit h (by omega) (by decide))), fun h => by rw [upd_ne _ _ _ _ (by decide)]; exact (h2 (keepBit h (by omega) (by decide))), fun h => upd_same _ _ _, fun h => by rw [upd_ne _ _ _ _ (by decide)]; exact (h4 (keepBit h (by omega) (by decide))), fun h => by rw [upd_ne _ _ _ _ (by decide)]; exact (h5 (keepBit h (by omega) (by decide)))⟩
      · have d0 := h0 (ready_needs hi (by decide))
        have d3 := h3 (ready_needs hi (by decide))
        have ev5 := (frame_eval_in a0 [5, 6, 7, 8, 9, 10] x 5 rfl (by omega)).trans d0
        have ev8 := (frame_eval_in a0 [5, 6, 7, 8, 9, 10] x 8 rfl (by omega)).trans d3
        refine wpOp_plain rfl rfl (wp_call_go (N := 59) rfl (fun _ _ => by go_simp) #[.agg #[.int .i64 tm, .int .i64 vo], .agg #[.int .i64 t, .int .i64 v, .slice la l.length lc]] (by simp only [List.map_toArray, List.map_cons, List.map_nil, ev5, ev8]) ?_)
        refine Calls.mono ((HF _).out) ?_
        rintro e w2 ⟨rfl, hb⟩
        refine ⟨_, rfl, ?_⟩
        exact ⟨_, frame_put _ _ _ 9 _ rfl, hB.trans (hb.mono hw'), fun h => by rw [upd_ne _ _ _ _ (by decide)]; exact (h0 (keepBit h (by omega) (by decide))), fun h => by rw [upd_ne _ _ _ _ (by decide)]; exact (h1 (keepBit h (by omega) (by decide))), fun h => by rw [upd_ne _ _ _ _ (by decide)]; exact (h2 (keepBit h (by omega) (by decide))), fun h => by rw [upd_ne _ _ _ _ (by decide)]; exact (h3 (keepBit h (by omega) (by decide))), fun h => upd_same _ _ _, fun h => by rw [upd_ne _ _ _ _ (by decide)]; exact (h5 (keepBit h (by omega) (by decide)))⟩
      · have d4 := h4 (ready_needs hi (by decide))
        have evn := (frame_eval_in a0 [5, 6, 7, 8, 9, 10] x 9 rfl (by omega)).trans d4
        refine wpOp_plain rfl rfl (wp_not_go (.tmp 9) rfl evn ?_)
        exact ⟨_, frame_put _ _ _ 10 _ rfl, hB, fun h => by rw [upd_ne _ _ _ _ (by decide)]; exact (h0 (keepBit h (by omega) (by decide))), fun h => by rw [upd_ne _ _ _ _ (by decide)]; exact (h1 (keepBit h (by omega) (by decide))), fun h => by rw [upd_ne _ _ _ _ (by decide)]; exact (h2 (keepBit h (by omega) (by decide))), fun h => by rw [upd_ne _ _ _ _ (by decide)]; exact (h3 (keepBit h (by omega) (by decide))), fun h => by rw [upd_ne _ _ _ _ (by decide)]; exact (h4 (keepBit h (by omega) (by decide))), fun h => upd_same _ _ _⟩
    · rintro L a w' hsL hr ⟨x, rfl, hB, h0, h1, h2, h3, h4, h5⟩
      have hall := ready_nil hsL hr (by decide)
      replace h0 := h0 (hall 0 (by decide))
      replace h1 := h1 (hall 1 (by decide))
      replace h2 := h2 (hall 2 (by decide))
      replace h3 := h3 (hall 3 (by decide))
      replace h4 := h4 (hall 4 (by decide))
      replace h5 := h5 (hall 5 (by decide))
      rw [HA0.out]
      simp only [frame, List.zipIdx_cons, List.zipIdx_nil, List.map_cons, List.map_nil, List.contains_cons, List.contains_nil, Nat.reduceBEq, Nat.reduceAdd, Bool.or_false, Bool.false_or, Bool.or_true, Bool.true_or, Bool.false_eq_true, if_false, if_true, h0, h1, h2, h3, h4, h5]
      have hB0 : Below w.heap.size w w' := (((Below.refl _ _).alloc (Nat.le_refl _) _).trans (hB.mono (by simp)))
      replace BQ := BQ.below hB BQ.lt
      replace BX := BX.below hB BX.lt
      clear HES HF h0 h1 h2 h3 h4 h5 hall hr hsL HA0 hsz0 e1 e2
      have cq := BQ.cell
      have fq := BQ.free
      have cx := BX.cell
      have hqx : q ≠ w.heap.size := by omega
      go_wp2_with (fail)
      go_region
      all_goals go_wp2
      all_goals go_ret
      all_goals refine ⟨rfl, ⟨.slice la l.length lc, ?_, ?_⟩, ?_⟩
      all_goals first
        | exact (BQ.set 3 _).set 4 _
        | (have h34 := (BQ.set 4 (.int .i64 vo)).set 3 (.int .i64 tm); exact h34)
        | exact (HOW.out.below hB0).block fun k hk => heap_two _ _ (by have hk1 := (HOW.out.2.lt k hk).1; omega)
        | exact below_two _ _ (hB0.mono (Nat.le_of_lt hq)) (Nat.le_refl _)
set_option maxHeartbeats 8000000 in
set_option maxRecDepth 100000 in
theorem cutApply (q : Nat) (cd gd rn : Int) (s : Stt) (ix : Int) (w : World) (A : Nat → Addr) (B : Nat) (hs : Sents w A B) (h : Rc w q cd gd rn s) (hll : s.log.length ≤ 1048576) (hix : 0 ≤ ix) :
    Calls Tryd.prog 163 #[.agg #[.int .i64 ix], .pointer (some ⟨q, 3, none⟩)] w fun e w' => e = .returned (if decide (ix ≤ (s.log.length : Int)) = true then .nilIface else refV (A 9) 0) ∧ Rc w' q cd gd rn (if decide (ix ≤ (s.log.length : Int)) = true then ⟨s.t, s.v, s.log.take ix.toNat⟩ else s) ∧ Below q w w' := by
  obtain ⟨lg, BQ0, HO⟩ := h
  obtain ⟨t, v, l⟩ := s
  dsimp only at BQ0 HO hll ⊢
  obtain ⟨la, lc, rfl⟩ := HO.shape
  have hq := BQ0.lt
  have HES : Hid (Es w (.slice la l.length lc) l) := HO.es (by unfold maxLen; omega)
  have HOW : Hid (OwnE w (q + 1) (.slice la l.length lc) l) := HO
  clear HO
  have BQ : Blk (w.alloc (.cells #[.int .i64 ix] 136)) q #[.int .i64 cd, .int .i64 gd, .int .i64 rn, .int .i64 t, .int .i64 v, .slice la l.length lc] 100 := BQ0.alloc _
  have BX : Blk (w.alloc (.cells #[.int .i64 ix] 136)) w.heap.size #[.int .i64 ix] 136 := Blk.new _ _ _
  have hB0 : Hid (Below w.heap.size w (w.alloc (.cells #[.int .i64 ix] 136))) := (Below.refl _ _).alloc (Nat.le_refl _) _
  have cq := BQ.cell
  have fq := BQ.free
  have cx := BX.cell
  have hqx : q ≠ w.heap.size := by omega
  by_cases hF : ix ≤ (l.length : Int)
  · rw [decide_eq_true hF]
    obtain ⟨k, rfl⟩ : ∃ k : Nat, ix = k := ⟨ix.toNat, by omega⟩
    have hkl : k ≤ l.length := by omega
    have hnn : ¬ (l.length : Int) < (k : Int) := by omega
    obtain ⟨lb, ld, hlb, hlo⟩ : ∃ lb ld, (∀ wx, (Instr.slice 37 (.slice la l.length lc) none (some (.int .i64 (k : Int))) none).run Tryd.prog wx = .ok (.slice lb k ld) wx) ∧ Hid (∀ wx, OwnE wx (q + 1) (.slice la l.length lc) l → OwnE wx (q + 1) (.slice lb k ld) (l.take k)) := by
      have hkc : k ≤ lc := by
        rcases HOW.out.2.2 with ⟨h0, h1⟩ | ⟨g, cap, cur, hv, _, _, h1, _⟩
        · omega
        · injection hv with _ h2 h3
          omega
      rcases HOW.out.2.2 with ⟨h0, h1⟩ | ⟨g, cap, cur, hv, _⟩
      · injection h0 with h2 h3 h4
        subst h2 h4
        have hk0 : k = 0 := by omega
        subst hk0
        exact ⟨none, 0, fun wx => slice_he none l.length 0 0 (by omega) wx, fun wx ho => OwnE.nil _ _⟩
      · injection hv with h2 h3 h4
        subst h2 h4
        have es : sliced (some ⟨g, 0, none⟩) 0 k lc 7 = .slice (some ⟨g, 0, none⟩) k lc := by simp [sliced, Addr.add]
        exact ⟨some ⟨g, 0, none⟩, lc, fun wx => by rw [← es]; exact slice_he _ l.length lc k hkc wx, fun wx ho => ho.take k hkl⟩
    go_enter Tryd.func163, Tryd.ntmps163
    go_wp2_with (fail)
    go_quiet (fail)
    go_wp2_with (fail)
    go_region
    all_goals go_wp2
    all_goals go_ret
    all_goals refine ⟨rfl, ⟨.slice lb k ld, BQ.set 5 _, ?_⟩, ?_⟩
    all_goals first
      | exact hlo.out _ ((HOW.out.below hB0.out).block fun k hk => heap_oneN _ (by have hk1 := (HOW.out.2.lt k hk).1; omega))
      | exact below_oneN _ (hB0.out.mono (Nat.le_of_lt hq)) (Nat.le_refl _)
  · rw [decide_eq_false hF]
    have g9 := (hs.below hB0.out).g9
    have hnn : (l.length : Int) < ix := by omega
    go_enter Tryd.func163, Tryd.ntmps163
    go_wp2_with (fail)
    go_quiet (fail)
    go_wp2
    go_ret
    have hBN : ∀ n, Below w.heap.size w (World.drewN (w.alloc (.cells #[.int .i64 ix] 136)) n) := fun n => ⟨hB0.out.os, hB0.out.tape, hB0.out.output, hB0.out.size, hB0.out.block⟩
    exact ⟨rfl, ⟨_, BQ, HOW.out.below (hBN _)⟩, (hBN _).mono (Nat.le_of_lt hq)⟩
set_option maxHeartbeats 8000000 in
set_option maxRecDepth 100000 in
theorem addApply (q : Nat) (cd gd rn : Int) (s : Stt) (ix : Int) (r : Ent) (w : World) (A : Nat → Addr) (B : Nat) (hs : Sents w A B) (h : Rc w q cd gd rn s) (hll : s.log.length ≤ 1048576) (hrf : r.fits) :
    Calls Tryd.prog 166 #[.agg #[.int .i64 ix, .int .i64 r.t, .int .i64 r.cl, .int .i64 r.sq, .int .i64 r.op, .string r.k, .string r.v, .string r.o], .pointer (some ⟨q, 3, none⟩)] w fun e w' => e = .returned (if addB s.t s.log ix r = true then .nilIface else refV (A 9) 0) ∧ Rc w' q cd gd rn (if addB s.t s.log ix r = true then ⟨s.t, s.v, s.log ++ [r]⟩ else s) ∧ Below q w w' := by
  obtain ⟨lg, BQ0, HO⟩ := h
  obtain ⟨t, v, l⟩ := s
  dsimp only at BQ0 HO hll ⊢
  obtain ⟨la, lc, rfl⟩ := HO.shape
  have hq := BQ0.lt
  have HES : Hid (Es w (.slice la l.length lc) l) := HO.es (by unfold maxLen; omega)
  have HOW : Hid (OwnE w (q + 1) (.slice la l.length lc) l) := HO
  clear HO
  have BQ : Blk (w.alloc (.cells #[.int .i64 ix, .int .i64 r.t, .int .i64 r.cl, .int .i64 r.sq, .int .i64 r.op, .string r.k, .string r.v, .string r.o] 138)) q #[.int .i64 cd, .int .i64 gd, .int .i64 rn, .int .i64 t, .int .i64 v, .slice la l.length lc] 100 := BQ0.alloc _
  have BX : Blk (w.alloc (.cells #[.int .i64 ix, .int .i64 r.t, .int .i64 r.cl, .int .i64 r.sq, .int .i64 r.op, .string r.k, .string r.v, .string r.o] 138)) w.heap.size #[.int .i64 ix, .int .i64 r.t, .int .i64 r.cl, .int .i64 r.sq, .int .i64 r.op, .string r.k, .string r.v, .string r.o] 138 := Blk.new _ _ _
  have hB1 : Hid (Below w.heap.size w (w.alloc (.cells #[.int .i64 ix, .int .i64 r.t, .int .i64 r.cl, .int .i64 r.sq, .int .i64 r.op, .string r.k, .string r.v, .string r.o] 138))) := (Below.refl _ _).alloc (Nat.le_refl _) _
  have HF : ∀ u : World, Below w.heap.size w u → Hid (Calls Tryd.prog 169 #[.agg #[.int .i64 ix, .int .i64 r.t, .int .i64 r.cl, .int .i64 r.sq, .int .i64 r.op, .string r.k, .string r.v, .string r.o], .agg #[.int .i64 t, .int .i64 v, .slice la l.length lc]] u fun e w' => e = .returned (.bool (addB t l ix r)) ∧ Below u.heap.size u w') := fun u hb => addFollows_any _ _ _ _ _ _ u (HES.out.below hb) hll
  cases hF : addB t l ix r
  · rw [hF] at HF
    go_enter Tryd.func166, Tryd.ntmps166
    go_wp2_with (fail)
    refine wp_named ?_
    intro a0 ha0
    have hsz0 : a0.tmps.size = 25 := by rw [ha0]; rfl
    have e1 : a0.eval (.tmp 1) = .pointer (some ⟨q, 3, none⟩) := by rw [ha0]; rfl
    have e2 : a0.eval (.tmp 2) = .pointer (some ⟨w.heap.size, 0, none⟩) := by rw [ha0]; rfl
    have HA0 : Hid (a0 = _) := ha0
    clear ha0
    refine wp_region_inv (by kernel_rfl) (fun L aF w' => ∃ x : Nat → Value, aF = frame a0 [5, 6, 7, 8, 9, 10] x ∧ Below (w.alloc (.cells #[.int .i64 ix, .int .i64 r.t, .int .i64 r.cl, .int .i64 r.sq, .int .i64 r.op, .string r.k, .string r.v, .string r.o] 138)).heap.size (w.alloc (.cells #[.int .i64 ix, .int .i64 r.t, .int .i64 r.cl, .int .i64 r.sq, .int .i64 r.op, .string r.k, .string r.v, .string r.o] 138)) w' ∧ (L.getD 0 false = true → x 5 = .agg #[.int .i64 ix, .int .i64 r.t, .int .i64 r.cl, .int .i64 r.sq, .int .i64 r.op, .string r.k, .string r.v, .string r.o]) ∧ (L.getD 1 false = true → x 6 = .pointer (some ⟨q, 3, none⟩)) ∧ (L.getD 2 false = true → x 7 = .pointer (some ⟨q, 3, none⟩)) ∧ (L.getD 3 false = true → x 8 = .agg #[.int .i64 t, .int .i64 v, .slice la l.length lc]) ∧ (L.getD 4 false = true → x 9 = .bool false) ∧ (L.getD 5 false = true → x 10 = .bool (!false))) ?_ ?_ ?_
    · exact ⟨_, frame_self a0 [5, 6, 7, 8, 9, 10], (Below.refl _ _).drew, fun h => (noBit h).elim, fun h => (noBit h).elim, fun h => (noBit h).elim, fun h => (noBit h).elim, fun h => (noBit h).elim, fun h => (noBit h).elim⟩
    · rintro L a w' i hsL hi ⟨x, rfl, hB, h0, h1, h2, h3, h4, h5⟩
      have hiL : i < 6 := (ready_mem hsL hi).1
      have hL : L.size = 6 := hsL
      have hw' : (w.alloc (.cells #[.int .i64 ix, .int .i64 r.t, .int .i64 r.cl, .int .i64 r.sq, .int .i64 r.op, .string r.k, .string r.v, .string r.o] 138)).heap.size ≤ w'.heap.size := hB.size
      rcases (show i = 0 ∨ i = 1 ∨ i = 2 ∨ i = 3 ∨ i = 4 ∨ i = 5 by omega) with rfl | rfl | rfl | rfl | rfl | rfl
      · skip
        refine wpOp_plain rfl rfl (wp_load_blk 138 (.tmp 2) rfl (w.heap.size) ((frame_eval _ _ _ 2 rfl).trans e2) (BX.below hB BX.lt) Tryd.underlying138 rfl infoAdd rfl ?_)
        exact ⟨_, frame_put _ _ _ 5 _ rfl, hB, fun h => upd_same _ _ _, fun h => by rw [upd_ne _ _ _ _ (by decide)]; exact (h1 (keepBit h (by omega) (by decide))), fun h => by rw [upd_ne _ _ _ _ (by decide)]; exact (h2 (keepBit h (by omega) (by decide))), fun h => by rw [upd_ne _ _ _ _ (by decide)]; exact (h3 (keepBit h (by omega) (by decide))), fun h => by rw [upd_ne _ _ _ _ (by decide)]; exact (h4 (keepBit h (by omega) (by decide))), fun h => by rw [upd_ne _ _ _ _ (by decide)]; exact (h5 (keepBit h (by omega) (by decide)))⟩
      · skip
        refine wpOp_plain rfl rfl (wp_move_go (.tmp 1) (Or.inl rfl) ?_)
        rw [frame_eval _ _ _ 1 rfl, e1]
        exact ⟨_, frame_put _ _ _ 6 _ rfl, hB, fun h => by rw [upd_ne _ _ _ _ (by decide)]; exact (h0 (keepBit h (by omega) (by decide))), fun h => upd_same _ _ _, fun h => by rw [upd_ne _ _ _ _ (by decide)]; exact (h2 (keepBit h (by omega) (by decide))), fun h => by rw [upd_ne _ _ _ _ (by decide)]; exact (h3 (keepBit h (by omega) (by decide))), fun h => by rw [upd_ne _ _ _ _ (by decide)]; exact (h4 (keepBit h (by omega) (by decide))), fun h => by rw [upd_ne _ _ _ _ (by decide)]; exact (h5 (keepBit h (by omega) (by decide)))⟩
      · have d1 := h1 (ready_needs hi (by decide))
        have ev6 : (frame a0 [5, 6, 7, 8, 9, 10] x).tmps[6]?.getD undef = .pointer (some ⟨q, 3, none⟩) := by have h := (frame_eval_in a0 [5, 6, 7, 8, 9, 10] x 6 rfl (by omega)).trans d1; simpa [Act.eval] using h
        refine wpOp_plain rfl rfl (wp_value_go (v := .pointer (some ⟨q, 3, none⟩)) ?_ ?_)
        · obtain ⟨aa, haa⟩ : ∃ aa, aa = frame a0 [5, 6, 7, 8, 9, 10] x := ⟨_, rfl⟩
          rw [← haa] at ev6 ⊢
          clear haa HA0
          go_simp
        exact ⟨_, frame_put _ _ _ 7 _ rfl, hB, fun h => by rw [upd_ne _ _ _ _ (by decide)]; exact (h0 (keepBit h (by omega) (by decide))), fun h => by rw [upd_ne _ _ _ _ (by decide)]; exact (h1 (keepBit h (by omega) (by decide))), fun h => upd_same _ _ _, fun h => by rw [upd_ne _ _ _ _ (by decide)]; exact (h3 (keepBit h (by omega) (by decide))), fun h => by rw [upd_ne _ _ _ _ (by decide)]; exact (h4 (keepBit h (by omega) (by decide))), fun h => by rw [upd_ne _ _ _ _ (by decide)]; exact (h5 (keepBit h (by omega) (by decide)))⟩
      · have d2 := h2 (ready_needs hi (by decide))
        have evp := (frame_eval_in a0 [5, 6, 7, 8, 9, 10] x 7 rfl (by omega)).trans d2
        refine wpOp_plain rfl rfl (wp_load_mid 39 (.tmp 7) rfl (q) (3) evp [.int .i64 t, .int .i64 v, .slice la l.length lc] _ ((BQ.below hB BQ.lt).part 3 _ rfl) Tryd.underlying39 rfl infoStab ?_)
        exact ⟨_, frame_put _ _ _ 8 _ rfl, hB, fun h => by rw [upd_ne _ _ _ _ (by decide)]; exact (h0 (keepBit h (by omega) (by decide))), fun h => by rw [upd_ne _ _ _ _ (by decide)]; exact (h1 (keepBit h (by omega) (by decide))), fun h => by rw [upd_ne _ _ _ _ (by decide)]; exact (h2 (keepBit h (by omega) (by decide))), fun h => upd_same _ _ _, fun h => by rw [upd_ne _ _ _ _ (by decide)]; exact (h4 (keepBit h (by omega) (by decide))), fun h => by rw [upd_ne _ _ _ _ (by decide)]; exact (h5 (keepBit h (by omega) (by decide)))⟩
      · have d0 := h0 (ready_needs hi (by decide))
        have d3 := h3 (ready_needs hi (by decide))
        have ev5 := (frame_eval_in a0 [5, 6, 7, 8, 9, 10] x 5 rfl (by omega)).trans d0
        have ev8 := (frame_eval_in a0 [5, 6, 7, 8, 9, 10] x 8 rfl (by omega)).trans d3
        refine wpOp_plain rfl rfl (wp_call_go (N := 169) rfl (fun _ _ => by go_simp) #[.agg #[.int .i64 ix, .int .i64 r.t, .int .i64 r.cl, .int .i64 r.sq, .int .i64 r.op, .string r.k, .string r.v, .string r.o], .agg #[.int .i64 t, .int .i64 v, .slice la l.length lc]] (by simp only [List.map_toArray, List.map_cons, List.map_nil, ev5, ev8]) ?_)
        refine Calls.mono ((HF _ (hB1.out.trans (hB.mono (by simp)))).out) ?_
        rintro e w2 ⟨rfl, hb⟩
        refine ⟨_, rfl, ?_⟩
        exact ⟨_, frame_put _ _ _ 9 _ rfl, hB.trans (hb.mono hw'), fun h => by rw [upd_ne _ _ _ _ (by decide)]; exact (h0 (keepBit h (by omega) (by decide))), fun h => by rw [upd_ne _ _ _ _ (by decide)]; exact (h1 (keepBit h (by omega) (by decide))), fun h => by rw [upd_ne _ _ _ _ (by decide)]; exact (h2 (keepBit h (by omega) (by decide))), fun h => by rw [upd_ne _ _ _ _ (by decide)]; exact (h3 (keepBit h (by omega) (by decide))), fun h => upd_same _ _ _, fun h => by rw [upd_ne _ _ _ _ (by decide)]; exact (h5 (keepBit h (by omega) (by decide)))⟩
      · have d4 := h4 (ready_needs hi (by decide))
        have evn := (frame_eval_in a0 [5, 6, 7, 8, 9, 10] x 9 rfl (by omega)).trans d4
        refine wpOp_plain rfl rfl (wp_not_go (.tmp 9) rfl evn ?_)
        exact ⟨_, frame_put _ _ _ 10 _ rfl, hB, fun h => by rw [upd_ne _ _ _ _ (by decide)]; exact (h0 (keepBit h (by omega) (by decide))), fun h => by rw [upd_ne _ _ _ _ (by decide)]; exact (h1 (keepBit h (by omega) (by decide))), fun h => by rw [upd_ne _ _ _ _ (by decide)]; exact (h2 (keepBit h (by omega) (by decide))), fun h => by rw [upd_ne _ _ _ _ (by decide)]; exact (h3 (keepBit h (by omega) (by decide))), fun h => by rw [upd_ne _ _ _ _ (by decide)]; exact (h4 (keepBit h (by omega) (by decide))), fun h => upd_same _ _ _⟩
    · rintro L a w' hsL hr ⟨x, rfl, hB, h0, h1, h2, h3, h4, h5⟩
      have hall := ready_nil hsL hr (by decide)
      replace h0 := h0 (hall 0 (by decide))
      replace h1 := h1 (hall 1 (by decide))
      replace h2 := h2 (hall 2 (by decide))
      replace h3 := h3 (hall 3 (by decide))
      replace h4 := h4 (hall 4 (by decide))
      replace h5 := h5 (hall 5 (by decide))
      rw [HA0.out]
      simp only [frame, List.zipIdx_cons, List.zipIdx_nil, List.map_cons, List.map_nil, List.contains_cons, List.contains_nil, Nat.reduceBEq, Nat.reduceAdd, Bool.or_false, Bool.false_or, Bool.or_true, Bool.true_or, Bool.false_eq_true, if_false, if_true, h0, h1, h2, h3, h4, h5]
      have hB0 : Below w.heap.size w w' := hB1.out.trans (hB.mono (by simp))
      replace BQ := BQ.below hB BQ.lt
      replace BX := BX.below hB BX.lt
      clear HES HF h0 h1 h2 h3 h4 h5 hall hr hsL HA0 hsz0 e1 e2
      have g9 := (hs.below hB0).g9
      go_wp2
      go_ret
      exact ⟨rfl, ⟨_, BQ, HOW.out.below hB0⟩, hB0.mono (by omega)⟩
  · rw [hF] at HF
    go_enter Tryd.func166, Tryd.ntmps166
    go_wp2_with (fail)
    refine wp_named ?_
    intro a0 ha0
    have hsz0 : a0.tmps.size = 25 := by rw [ha0]; rfl
    have e1 : a0.eval (.tmp 1) = .pointer (some ⟨q, 3, none⟩) := by rw [ha0]; rfl
    have e2 : a0.eval (.tmp 2) = .pointer (some ⟨w.heap.size, 0, none⟩) := by rw [ha0]; rfl
    have HA0 : Hid (a0 = _) := ha0
    clear ha0
    refine wp_region_inv (by kernel_rfl) (fun L aF w' => ∃ x : Nat → Value, aF = frame a0 [5, 6, 7, 8, 9, 10] x ∧ Below (w.alloc (.cells #[.int .i64 ix, .int .i64 r.t, .int .i64 r.cl, .int .i64 r.sq, .int .i64 r.op, .string r.k, .string r.v, .string r.o] 138)).heap.size (w.alloc (.cells #[.int .i64 ix, .int .i64 r.t, .int .i64 r.cl, .int .i64 r.sq, .int .i64 r.op, .string r.k, .string r.v, .string r.o] 138)) w' ∧ (L.getD 0 false = true → x 5 = .agg #[.int .i64 ix, .int .i64 r.t, .int .i64 r.cl, .int .i64 r.sq, .int .i64 r.op, .string r.k, .string r.v, .string r.o]) ∧ (L.getD 1 false = true → x 6 = .pointer (some ⟨q, 3, none⟩)) ∧ (L.getD 2 false = true → x 7 = .pointer (some ⟨q, 3, none⟩)) ∧ (L.getD 3 false = true → x 8 = .agg #[.int .i64 t, .int .i64 v, .slice la l.length lc]) ∧ (L.getD 4 false = true → x 9 = .bool true) ∧ (L.getD 5 false = true → x 10 = .bool (!true))) ?_ ?_ ?_
    · exact ⟨_, frame_self a0 [5, 6, 7, 8, 9, 10], (Below.refl _ _).drew, fun h => (noBit h).elim, fun h => (noBit h).elim, fun h => (noBit h).elim, fun h => (noBit h).elim, fun h => (noBit h).elim, fun h => (noBit h).elim⟩
    · rintro L a w' i hsL hi ⟨x, rfl, hB, h0, h1, h2, h3, h4, h5⟩
      have hiL : i < 6 := (ready_mem hsL hi).1
      have hL : L.size = 6 := hsL
      have hw' : (w.alloc (.cells #[.int .i64 ix, .int .i64 r.t, .int .i64 r.cl, .int .i64 r.sq, .int .i64 r.op, .string r.k, .string r.v, .string r.o] 138)).heap.size ≤ w'.heap.size := hB.size
      rcases (show i = 0 ∨ i = 1 ∨ i = 2 ∨ i = 3 ∨ i = 4 ∨ i = 5 by omega) with rfl | rfl | rfl | rfl | rfl | rfl
      · skip
        refine wpOp_plain rfl rfl (wp_load_blk 138 (.tmp 2) rfl (w.heap.size) ((frame_eval _ _ _ 2 rfl).trans e2) (BX.below hB BX.lt) Tryd.underlying138 rfl infoAdd rfl ?_)
        exact ⟨_, frame_put _ _ _ 5 _ rfl, hB, fun h => upd_same _ _ _, fun h => by rw [upd_ne _ _ _ _ (by decide)]; exact (h1 (keepBit h (by omega) (by decide))), fun h => by rw [upd_ne _ _ _ _ (by decide)]; exact (h2 (keepBit h (by omega) (by decide))), fun h => by rw [upd_ne _ _ _ _ (by decide)]; exact (h3 (keepBit h (by omega) (by decide))), fun h => by rw [upd_ne _ _ _ _ (by decide)]; exact (h4 (keepBit h (by omega) (by decide))), fun h => by rw [upd_ne _ _ _ _ (by decide)]; exact (h5 (keepBit h (by omega) (by decide)))⟩
      · skip
        refine wpOp_plain rfl rfl (wp_move_go (.tmp 1) (Or.inl rfl) ?_)
        rw [frame_eval _ _ _ 1 rfl, e1]
        exact ⟨_, frame_put _ _ _ 6 _ rfl, hB, fun h => by rw [upd_ne _ _ _ _ (by decide)]; exact (h0 (keepBit h (by omega) (by decide))), fun h => upd_same _ _ _, fun h => by rw [upd_ne _ _ _ _ (by decide)]; exact (h2 (keepBit h (by omega) (by decide))), fun h => by rw [upd_ne _ _ _ _ (by decide)]; exact (h3 (keepBit h (by omega) (by decide))), fun h => by rw [upd_ne _ _ _ _ (by decide)]; exact (h4 (keepBit h (by omega) (by decide))), fun h => by rw [upd_ne _ _ _ _ (by decide)]; exact (h5 (keepBit h (by omega) (by decide)))⟩
      · have d1 := h1 (ready_needs hi (by decide))
        have ev6 : (frame a0 [5, 6, 7, 8, 9, 10] x).tmps[6]?.getD undef = .pointer (some ⟨q, 3, none⟩) := by have h := (frame_eval_in a0 [5, 6, 7, 8, 9, 10] x 6 rfl (by omega)).trans d1; simpa [Act.eval] using h
        refine wpOp_plain rfl rfl (wp_value_go (v := .pointer (some ⟨q, 3, none⟩)) ?_ ?_)
        · obtain ⟨aa, haa⟩ : ∃ aa, aa = frame a0 [5, 6, 7, 8, 9, 10] x := ⟨_, rfl⟩
          rw [← haa] at ev6 ⊢
          clear haa HA0
          go_simp
        exact ⟨_, frame_put _ _ _ 7 _ rfl, hB, fun h => by rw [upd_ne _ _ _ _ (by decide)]; exact (h0 (keepBit h (by omega) (by decide))), fun h => by rw [upd_ne _ _ _ _ (by decide)]; exact (h1 (keepBit h (by omega) (by decide))), fun h => upd_same _ _ _, fun h => by rw [upd_ne _ _ _ _ (by decide)]; exact (h3 (keepBit h (by omega) (by decide))), fun h => by rw [upd_ne _ _ _ _ (by decide)]; exact (h4 (keepBit h (by omega) (by decide))), fun h => by rw [upd_ne _ _ _ _ (by decide)]; exact (h5 (keepBit h (by omega) (by decide)))⟩
      · have d2 := h2 (ready_needs hi (by decide))
        have evp := (frame_eval_in a0 [5, 6, 7, 8, 9, 10] x 7 rfl (by omega)).trans d2
        refine wpOp_plain rfl rfl (wp_load_mid 39 (.tmp 7) rfl (q) (3) evp [.int .i64 t, .int .i64 v, .slice la l.length lc] _ ((BQ.below hB BQ.lt).part 3 _ rfl) Tryd.underlying39 rfl infoStab ?_)
        exact ⟨_, frame_put _ _ _ 8 _ rfl, hB, fun h => by rw [upd_ne _ _ _ _ (by decide)]; exact (h0 (keepBit h (by omega) (by decide))), fun h => by rw [upd_ne _ _ _ _ (by decide)]; exact (h1 (keepBit h (by omega) (by decide))), fun h => by rw [upd_ne _ _ _ _ (by decide)]; exact (h2 (keepBit h (by omega) (by decide))), fun h => upd_same _ _ _, fun h => by rw [upd_ne _ _ _ _ (by decide)]; exact (h4 (keepBit h (by omega) (by decide))), fun h => by rw [upd_ne _ _ _ _ (by decide)]; exact (h5 (keepBit h (by omega) (by decide)))⟩
      · have d0 := h0 (ready_needs hi (by decide))
        have d3 := h3 (ready_needs hi (by decide))
        have ev5 := (frame_eval_in a0 [5, 6, 7, 8, 9, 10] x 5 rfl (by omega)).trans d0
        have ev8 := (frame_eval_in a0 [5, 6, 7, 8, 9, 10] x 8 rfl (by omega)).trans d3
        refine wpOp_plain rfl rfl (wp_call_go (N := 169) rfl (fun _ _ => by go_simp) #[.agg #[.int .i64 ix, .int .i64 r.t, .int .i64 r.cl, .int .i64 r.sq, .int .i64 r.op, .string r.k, .string r.v, .string r.o], .agg #[.int .i64 t, .int .i64 v, .slice la l.length lc]] (by simp only [List.map_toArray, List.map_cons, List.map_nil, ev5, ev8]) ?_)
        refine Calls.mono ((HF _ (hB1.out.trans (hB.mono (by simp)))).out) ?_
        rintro e w2 ⟨rfl, hb⟩
        refine ⟨_, rfl, ?_⟩
        exact ⟨_, frame_put _ _ _ 9 _ rfl, hB.trans (hb.mono hw'), fun h => by rw [upd_ne _ _ _ _ (by decide)]; exact (h0 (keepBit h (by omega) (by decide))), fun h => by rw [upd_ne _ _ _ _ (by decide)]; exact (h1 (keepBit h (by omega) (by decide))), fun h => by rw [upd_ne _ _ _ _ (by decide)]; exact (h2 (keepBit h (by omega) (by decide))), fun h => by rw [upd_ne _ _ _ _ (by decide)]; exact (h3 (keepBit h (by omega) (by decide))), fun h => upd_same _ _ _, fun h => by rw [upd_ne _ _ _ _ (by decide)]; exact (h5 (keepBit h (by omega) (by decide)))⟩
      · have d4 := h4 (ready_needs hi (by decide))
        have evn := (frame_eval_in a0 [5, 6, 7, 8, 9, 10] x 9 rfl (by omega)).trans d4
        refine wpOp_plain rfl rfl (wp_not_go (.tmp 9) rfl evn ?_)
        exact ⟨_, frame_put _ _ _ 10 _ rfl, hB, fun h => by rw [upd_ne _ _ _ _ (by decide)]; exact (h0 (keepBit h (by omega) (by decide))), fun h => by rw [upd_ne _ _ _ _ (by decide)]; exact (h1 (keepBit h (by omega) (by decide))), fun h => by rw [upd_ne _ _ _ _ (by decide)]; exact (h2 (keepBit h (by omega) (by decide))), fun h => by rw [upd_ne _ _ _ _ (by decide)]; exact (h3 (keepBit h (by omega) (by decide))), fun h => by rw [upd_ne _ _ _ _ (by decide)]; exact (h4 (keepBit h (by omega) (by decide))), fun h => upd_same _ _ _⟩
    · rintro L a w' hsL hr ⟨x, rfl, hB, h0, h1, h2, h3, h4, h5⟩
      have hall := ready_nil hsL hr (by decide)
      replace h0 := h0 (hall 0 (by decide))
      replace h1 := h1 (hall 1 (by decide))
      replace h2 := h2 (hall 2 (by decide))
      replace h3 := h3 (hall 3 (by decide))
      replace h4 := h4 (hall 4 (by decide))
      replace h5 := h5 (hall 5 (by decide))
      rw [HA0.out]
      simp only [frame, List.zipIdx_cons, List.zipIdx_nil, List.map_cons, List.map_nil, List.contains_cons, List.contains_nil, Nat.reduceBEq, Nat.reduceAdd, Bool.or_false, Bool.false_or, Bool.or_true, Bool.true_or, Bool.false_eq_true, if_false, if_true, h0, h1, h2, h3, h4, h5]
      have hB0 : Below w.heap.size w w' := hB1.out.trans (hB.mono (by simp))
      replace BQ := BQ.below hB BQ.lt
      replace BX := BX.below hB BX.lt
      clear HES HF h0 h1 h2 h3 h4 h5 hall hr hsL HA0 hsz0 e1 e2
      have cq := BQ.cell
      have fq := BQ.free
      have cx := BX.cell
      have hqx : q ≠ w.heap.size := by omega
      have hqw : q < w'.heap.size := BQ.lt
      have HO1 : Hid (OwnE w' (q + 1) (.slice la l.length lc) l) := HOW.out.below hB0
      have hBQ : Hid (Blk w' q #[.int .i64 cd, .int .i64 gd, .int .i64 rn, .int .i64 t, .int .i64 v, .slice la l.length lc] 100) := BQ
      go_wp2_with (fail)
      go_region_law (refine stp_appendE rfl (.tmp 18) (.tmp 21) rfl r hrf (OwnE.below HO1.out (Below.alloc (Below.drew (Below.refl _ _)) (Nat.le_refl _) _)) rfl w'.heap.size 1 (entAt_new' _ r) rfl hll (by simp; omega) ?_; intro v1 w1 ho1 hg1; obtain ⟨la1, lc1, ev1⟩ := ho1.shape; subst ev1; have ho2 : OwnE w1 (q + 1) (.slice la1 (l.length + 1) lc1) (l ++ [r]) := (by simpa using ho1); have BQ1 := ((hBQ.out.drew).alloc (.cells #[.int .i64 r.t, .int .i64 r.cl, .int .i64 r.sq, .int .i64 r.op, .string r.k, .string r.v, .string r.o] 92)).grownR hg1 (show q < q + 1 by omega) HO1.out; have cq1 := BQ1.cell; have fq1 := BQ1.free)
      all_goals go_wp2
      all_goals go_ret
      all_goals refine ⟨rfl, ⟨_, BQ1.set 5 _, ?_⟩, ?_⟩
      all_goals first
        | exact ho2.block fun k hk => Below.heap_setCell w1 ⟨q, 5, none⟩ _ k (by have hk1 := (ho2.2.lt k hk).1; show k ≠ q; omega)
        | exact below_one _ ((hB0.mono (Nat.le_of_lt hq)).trans ((((Below.refl _ _).drew).alloc (show q ≤ w'.drew.heap.size from Nat.le_of_lt hqw) _).trans (grewQ hg1 HO1.out (by simp; omega)))) (Nat.le_refl _)
end Go.Proofs.YtjoflnnomebkpaaDoor
