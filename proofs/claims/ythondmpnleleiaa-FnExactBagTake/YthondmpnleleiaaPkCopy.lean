/-
  slices.Clone of ints and of bytes; impl.copyPacket; append of a packet in a region that draws.
-/
import Derived.Test.YthondmpnleleiaaPkSz
import Derived.Test.YthondmpnleleiaaOwnInts
import Derived.Test.YthondmpnleleiaaOwnLit
import Derived.Test.YthondmpnleleiaaRegInv
import Derived.Laws.Cover3
namespace Go.Proofs.Ythondmpnleleiaa
open Go.RowKit
set_option linter.unusedVariables false
set_option linter.unusedSimpArgs false

theorem OwnI.nil (w : World) (B : Nat) : OwnI w B (.slice none 0 0) [] := World.ownsRow_nil w B 3 1
theorem OwnI.le {w : World} {B B' : Nat} {v : Value} {l : List Int} (h : OwnI w B v l) (hb : B' ≤ B) : OwnI w B' v l := by
  refine ⟨h.1, ?_⟩
  rcases h.2 with h | ⟨g, cap, cur, hv, hg, r⟩
  · exact .inl h
  · exact .inr ⟨g, cap, cur, hv, Nat.le_trans hb hg, r⟩
set_option maxRecDepth 100000 in
theorem wpl_appendIs {w : World} {ops : Array Oper} {rest : List Oper} {o : Oper} {a : Act} {Q : Exit → Act → World → Prop} (hgd : o.guard = none) (s x : Operand)
    (ho : o.op = .call { callee := .builtin .append, args := #[s, x], argTypes := #[23, 23] })
    {B : Nat} {v : Value} {l : List Int} (es : List Int) (hown : OwnI w B v l) (hs : a.eval s = v) (A : Addr) (c : Nat) (hu : ∀ j u, (es.map (Value.int .i64))[j]? = some u → w.cell? (A.add j) = some u) (hx : a.eval x = .slice (some A) es.length c) (hlen : l.length + es.length ≤ 2000000) (hB : B ≤ w.heap.size)
    (h : ∀ v' w', OwnI w' B v' (l ++ es) → Grew w v w' v' → wpList Try.prog ops Q rest (a.put o.dst v') w') : wpList Try.prog ops Q (o :: rest) a w := by
  obtain ⟨i0, hi, hz0, hz1, hz2⟩ := info_parts infoI64
  refine wpList_append_own_at w hgd s x 23 ho B 3 i0 _ 1 8 Try.underlying23 hi hz0 hz1 hz2 rfl (by decide) v l.length _ hs hown A es.length c (es.map (Value.int .i64)) hx (by simp) hu ?_ (by unfold maxLen; omega) (by omega) hB ?_
  · intro u hu
    obtain ⟨y, _, rfl⟩ := List.mem_map.1 hu
    rfl
  · intro v' w' h2 h3 _ h5
    exact h v' w' (by simpa [OwnI] using h2) ⟨h3, h5.imp id fun e => ⟨_, e, Nat.le_refl _⟩⟩
set_option maxRecDepth 100000 in
theorem wpl_appendBs {w : World} {ops : Array Oper} {rest : List Oper} {o : Oper} {a : Act} {Q : Exit → Act → World → Prop} (hgd : o.guard = none) (s x : Operand)
    (ho : o.op = .call { callee := .builtin .append, args := #[s, x], argTypes := #[35, 35] })
    {B : Nat} {v : Value} {l : List Int} (es : List Int) (h8 : ∀ x ∈ es, 0 ≤ x ∧ x ≤ 255) (hown : Own w B v l) (hs : a.eval s = v) (A : Addr) (c : Nat) (hu : ∀ j u, (es.map (Value.int .u8))[j]? = some u → w.cell? (A.add j) = some u) (hx : a.eval x = .slice (some A) es.length c) (hlen : l.length + es.length ≤ 2000000) (hB : B ≤ w.heap.size)
    (h : ∀ v' w', Own w' B v' (l ++ es) → Grew w v w' v' → wpList Try.prog ops Q rest (a.put o.dst v') w') : wpList Try.prog ops Q (o :: rest) a w := by
  obtain ⟨i0, hi, hz0, hz1, hz2⟩ := info_parts infoU8
  refine wpList_append_own_at w hgd s x 35 ho B 5 i0 _ 1 1 Try.underlying35 hi hz0 hz1 hz2 rfl (by decide) v l.length _ hs hown.2 A es.length c (es.map (Value.int .u8)) hx (by simp) hu ?_ (by unfold maxLen; omega) (by omega) hB ?_
  · intro u hu
    obtain ⟨y, _, rfl⟩ := List.mem_map.1 hu
    rfl
  · intro v' w' h2 h3 _ h5
    refine h v' w' ⟨fun y hy => ?_, by simpa using h2⟩ ⟨h3, h5.imp id fun e => ⟨_, e, Nat.le_refl _⟩⟩
    rcases List.mem_append.1 hy with hy | hy
    · exact hown.1 y hy
    · exact h8 y hy
theorem eql_nilP (t e : TypeId) (a : Option Addr) (l c : Nat) (h : Try.prog.underlying t = some (.slice e)) (w : World) : (binOp .eql t (.slice a l c) (.slice none 0 0)).run Try.prog w = .ok (.bool a.isNone) w := by
  simp only [binOp]
  simp [run_equal_slice_nil w t e a l c h]

set_option maxHeartbeats 2000000 in
set_option maxRecDepth 100000 in
theorem cloneI_any (v : Value) (l : List Int) (w : World) (hv : Ix w v l) (hll : l.length ≤ 1048576) :
    Calls Try.prog 70 #[v] w fun e w' => ∃ v', e = .returned v' ∧ OwnI w' w.heap.size v' l ∧ Below w.heap.size w w' := by
  obtain ⟨hm, a, cap, rfl, hc⟩ := hv
  have hq := fun u => eql_nilP 23 3 a l.length cap Try.underlying23 u
  cases a with
  | none =>
    have h0 : l = [] := by
      cases l with
      | nil => rfl
      | cons e l =>
        obtain ⟨b, off, h, _⟩ := hc 0 (by simp)
        cases h
    subst h0
    simp only [Option.isNone_none, List.length_nil] at hq
    go_enter Try.func70, Try.ntmps70
    go_wp2
    go_ret
    exact ⟨_, rfl, OwnI.nil _ _, Below.refl _ _⟩
  | some A =>
    have HU : Hid (∀ j u, (l.map (Value.int .i64))[j]? = some u → w.cell? (A.add j) = some u) := by
      intro j u hj
      rw [List.getElem?_map] at hj
      have hjl : j < l.length := by
        rcases Nat.lt_or_ge j l.length with h' | h'
        · exact h'
        · rw [List.getElem?_eq_none h'] at hj; cases hj
      obtain ⟨b, off, h, hjs⟩ := hc j hjl
      injection h with h
      subst h
      rw [cell_add, hjs j hjl]
      rw [List.getElem?_eq_getElem hjl] at hj
      exact hj
    clear hc
    simp only [Option.isNone_some] at hq
    go_enter Try.func70, Try.ntmps70
    go_wp2_with (at_builtin; refine wpl_appendIs rfl (.tmp 5) (.tmp 6) rfl l (OwnI.made w w.heap.size (Nat.le_refl _)) rfl A cap (fun j u hj => (by have h1 := HU.out j u hj; rw [World.cell?_alloc_lt _ _ _ (World.block_lt_of_cell? w _ h1)]; exact h1)) rfl (by simp; omega) (by simp) ?_; intro v' w' ho hg; have hb := growI hg (OwnI.made w w.heap.size (Nat.le_refl _)) (by simp))
    go_ret
    exact ⟨_, rfl, by simpa using ho, ((Below.refl _ _).alloc (Nat.le_refl _) _).trans hb⟩
set_option maxHeartbeats 2000000 in
set_option maxRecDepth 100000 in
theorem cloneB_any (v : Value) (l : List Int) (w : World) (hv : Bs w v l) (hll : l.length ≤ 1048576) :
    Calls Try.prog 75 #[v] w fun e w' => ∃ v', e = .returned v' ∧ Own w' w.heap.size v' l ∧ Below w.heap.size w w' := by
  obtain ⟨hm, h8, a, cap, rfl, hc⟩ := hv
  have hq := fun u => eql_nilP 35 5 a l.length cap Try.underlying35 u
  cases a with
  | none =>
    have h0 : l = [] := by
      cases l with
      | nil => rfl
      | cons e l =>
        obtain ⟨b, off, h, _⟩ := hc 0 (by simp)
        cases h
    subst h0
    simp only [Option.isNone_none, List.length_nil] at hq
    go_enter Try.func75, Try.ntmps75
    go_wp2
    go_ret
    exact ⟨_, rfl, Own.nil _ _, Below.refl _ _⟩
  | some A =>
    have H8 : Hid (∀ x ∈ l, 0 ≤ x ∧ x ≤ 255) := h8
    have HU : Hid (∀ j u, (l.map (Value.int .u8))[j]? = some u → w.cell? (A.add j) = some u) := by
      intro j u hj
      rw [List.getElem?_map] at hj
      have hjl : j < l.length := by
        rcases Nat.lt_or_ge j l.length with h' | h'
        · exact h'
        · rw [List.getElem?_eq_none h'] at hj; cases hj
      obtain ⟨b, off, h, hjs⟩ := hc j hjl
      injection h with h
      subst h
      rw [cell_add, hjs j hjl]
      rw [List.getElem?_eq_getElem hjl] at hj ⊢
      exact hj
    clear hc h8
    simp only [Option.isNone_some] at hq
    go_enter Try.func75, Try.ntmps75
    go_wp2_with (at_builtin; refine wpl_appendBs rfl (.tmp 5) (.tmp 6) rfl l H8.out (Own.lit0 w) rfl A cap (fun j u hj => (by have h1 := HU.out j u hj; rw [World.cell?_alloc_lt _ _ _ (World.block_lt_of_cell? w _ h1)]; exact h1)) rfl (by simp; omega) (by simp) ?_; intro v' w' ho hg; have hb := hg.below (Own.lit0 w) (by simp))
    go_ret
    exact ⟨_, rfl, by simpa using ho, ((Below.refl _ _).alloc (Nat.le_refl _) _).trans hb⟩

theorem Own.setLowP {w : World} {B : Nat} {v : Value} {l : List Int} (h : Own w B v l) {b i : Nat} (hb : b < B) (x : Value) : Own (w.setCell ⟨b, i, none⟩ x) B v l :=
  h.block fun k e => Below.heap_setCell _ _ _ _ (by have := (h.2.lt k e).1; simp only []; omega)

set_option maxHeartbeats 2000000 in
set_option maxRecDepth 100000 in
theorem copyPacket_any (i f t : Int) (v : Value) (l : List Int) (w : World) (hv : Bs w v l) (hl : l.length ≤ 1048576) :
    Calls Try.prog 51 #[.agg #[.int .i64 i, .int .i64 f, .int .i64 t, v]] w fun e w' => ∃ a cap, e = .returned (.agg #[.int .i64 i, .int .i64 f, .int .i64 t, .slice a l.length cap]) ∧ Own w' w.heap.size (.slice a l.length cap) l ∧ Below w.heap.size w w' := by
  have HT : Hid (∀ w', Below w.heap.size w w' → Calls Try.prog 75 #[v] w' fun e w'' => ∃ v', e = .returned v' ∧ Own w'' w'.heap.size v' l ∧ Below w'.heap.size w' w'') := fun w' hb => cloneB_any _ l w' (hv.below hb) hl
  obtain ⟨a, cap, rfl⟩ := hv.sh
  clear hv
  have hb0 : Hid (Below w.heap.size w ((w.alloc (.cells #[.int .i64 i, .int .i64 f, .int .i64 t, .slice a l.length cap] 48)).alloc (.cells #[.int .i64 0, .int .i64 0, .int .i64 0, .slice none 0 0] 48))) := ((Below.refl _ _).alloc (Nat.le_refl _) _).alloc (by simp) _
  go_enter Try.func51, Try.ntmps51
  go_wp2_with (go_at_call 75; refine (HT.out _ hb0.out).mono ?_; rintro e w1 ⟨v', rfl, ho1, hb1⟩; obtain ⟨a', cap', rfl⟩ := ho1.shape; obtain ⟨hcc, hff⟩ := bcell hb1; have hz1 := hb1.size; simp at hz1; have z1 : ∀ o, w1.frozen? ⟨w.heap.size, o, none⟩ = false := fun o => (hff _ o (by simp; omega)).trans (by simp [go_sem]); have z2 : ∀ o, w1.frozen? ⟨w.heap.size + 1, o, none⟩ = false := fun o => (hff _ o (by simp)).trans (by simp [go_sem]); have r0 : w1.cell? ⟨w.heap.size + 1, 0, none⟩ = some (.int .i64 0) := (hcc _ 0 (by simp)).trans (by simp [go_sem]); have r1 : w1.cell? ⟨w.heap.size + 1, 1, none⟩ = some (.int .i64 0) := (hcc _ 1 (by simp)).trans (by simp [go_sem]); have r2 : w1.cell? ⟨w.heap.size + 1, 2, none⟩ = some (.int .i64 0) := (hcc _ 2 (by simp)).trans (by simp [go_sem]); have r3 : w1.cell? ⟨w.heap.size + 1, 3, none⟩ = some (.slice none 0 0) := (hcc _ 3 (by simp)).trans (by simp [go_sem]); have q0 : w1.cell? ⟨w.heap.size, 0, none⟩ = some (.int .i64 i) := (hcc _ 0 (by simp; omega)).trans (by simp [go_sem]); have q1 : w1.cell? ⟨w.heap.size, 1, none⟩ = some (.int .i64 f) := (hcc _ 1 (by simp; omega)).trans (by simp [go_sem]); have q2 : w1.cell? ⟨w.heap.size, 2, none⟩ = some (.int .i64 t) := (hcc _ 2 (by simp; omega)).trans (by simp [go_sem]); have q3 : w1.cell? ⟨w.heap.size, 3, none⟩ = some (.slice a l.length cap) := (hcc _ 3 (by simp; omega)).trans (by simp [go_sem]); clear hcc hff)
  refine bodyPost_ret (v := .agg #[.int .i64 i, .int .i64 f, .int .i64 t, .slice a' l.length cap']) (by simp [results, Try.results51, go_sem, r0, r1, r2, r3]) rfl ⟨a', cap', rfl, ?_, ?_⟩
  · exact (((((ho1.setLowP (b := w.heap.size) (by simp; omega) _).setLowP (b := w.heap.size + 1) (by simp) _).setLowP (b := w.heap.size + 1) (by simp) _).setLowP (b := w.heap.size + 1) (by simp) _).setLowP (b := w.heap.size + 1) (by simp) _).le (by simp; omega)
  · exact (((((hb0.out.trans (hb1.mono (by simp; omega))).setCell (Nat.le_refl _) _).setCell (Nat.le_succ _) _).setCell (Nat.le_succ _) _).setCell (Nat.le_succ _) _).setCell (Nat.le_succ _) _

theorem stp_call {w : World} {ops : Array Oper} {o : Oper} {a : Act} {K : Act → World → Prop} {Q : Exit → Act → World → Prop} {E : Prop} (hgd : o.guard = none) {N : FuncId} {ags : Array Operand} {ts : Array TypeId} (ho : o.op = .call ⟨.value (.func N), ags, ts⟩)
    (hN : ∀ args w, (callFunc N args).run Try.prog w = .ok (.enter N args) w) (args : Array Value) (hA : ags.map a.eval = args)
    (hc : Calls Try.prog N args w fun e w' => ∃ v, e = .returned v ∧ K (a.put o.dst v) w') : if Region.wanted o (yielded ops a.tmps) = true then Oper.wp Try.prog o a w K Q else E := by
  have hw : Region.wanted o (yielded ops a.tmps) = true := by simp [Region.wanted, hgd]
  rw [if_pos hw]
  exact wp_call_go ho hN args hA hc
theorem OwnP.appended {w w' : World} {B N : Nat} {v v' : Value} {l : List Pk} (p : Pk) (hown : OwnP w B v l) (hp : Own w N p.2 p.1.bs) (hpl : p.1.bs.length ≤ maxLen) (hBN : B ≤ N) (hN : (∀ k, v.ownBlock = some k → k < N) ∧ ∀ p' ∈ l, ∀ k, p'.2.ownBlock = some k → k < N)
    (h2 : w'.ownsRow B 48 4 v' (l.length + 1) (pksC l ++ pkC p)) (hg : Grew w v w' v') : OwnP w' B v' (l ++ [p]) := by
  have hpv : Far p.2 v := fun k e1 e2 => by
    have h1 := (hp.2.lt k e1).1
    have h2 := hN.1 k e2
    omega
  have keepB : ∀ (u : Value) (bs : List Int), Own w B u bs → Far u v → Own w' B u bs ∧ Far u v' := fun u bs hb hf => by
    refine ⟨hb.block fun k e => hg.block (hb.2.lt k e).2 (hf k e), fun k e => hg.far (hb.2.lt k e).2 (hf k e)⟩
  refine ⟨by rw [pksC_app]; simpa [pksC] using h2, fun y hy => ?_, fun y hy => ?_, ?_⟩
  · rcases List.mem_append.1 hy with hy | hy
    · exact ⟨(keepB _ _ (hown.bytes y hy).1 (hown.off y hy)).1, (hown.bytes y hy).2⟩
    · rw [List.mem_singleton.1 hy]; exact ⟨(keepB _ _ (hp.le hBN) hpv).1, hpl⟩
  · rcases List.mem_append.1 hy with hy | hy
    · exact (keepB _ _ (hown.bytes y hy).1 (hown.off y hy)).2
    · rw [List.mem_singleton.1 hy]; exact (keepB _ _ (hp.le hBN) hpv).2
  · refine List.pairwise_append.2 ⟨hown.apart, List.pairwise_singleton _ _, fun x hx y hy k e1 e2 => ?_⟩
    rw [List.mem_singleton.1 hy] at e2
    have h1 := hN.2 x hx k e1
    have h2 := (hp.2.lt k e2).1
    omega
set_option maxRecDepth 100000 in
theorem stp_appendP {w : World} {ops : Array Oper} {o : Oper} {a : Act} {K : Act → World → Prop} {Q : Exit → Act → World → Prop} {E : Prop} (hgd : o.guard = none) (s x : Operand)
    (ho : o.op = .call { callee := .builtin .append, args := #[s, x], argTypes := #[27, 27] })
    {B N : Nat} {v : Value} {l : List Pk} (p : Pk) (hown : OwnP w B v l) (hs : a.eval s = v) (b c : Nat) (hu : PkAt w b 0 p) (hx : a.eval x = .slice (some ⟨b, 0, none⟩) 1 c)
    (hp : Own w N p.2 p.1.bs) (hpl : p.1.bs.length ≤ maxLen) (hBN : B ≤ N) (hN : (∀ k, v.ownBlock = some k → k < N) ∧ ∀ p' ∈ l, ∀ k, p'.2.ownBlock = some k → k < N) (hone : p.2.oneCell' = true)
    (hlen : l.length ≤ 1100000) (hB : B ≤ w.heap.size)
    (h : ∀ v' w', OwnP w' B v' (l ++ [p]) → Grew w v w' v' → K (a.put o.dst v') w') : if Region.wanted o (yielded ops a.tmps) = true then Oper.wp Try.prog o a w K Q else E := by
  have hw : Region.wanted o (yielded ops a.tmps) = true := by simp [Region.wanted, hgd]
  rw [if_pos hw]
  obtain ⟨i0, hi, hz0, hz1, hz2⟩ := info_parts infoPk
  obtain ⟨u0, u1, u2, u3⟩ := hu
  obtain ⟨v', w', hr, h2, h3, h4, h5⟩ := run_append_own_at (P := Try.prog) w B 27 o.type 48 i0 _ 4 48 Try.underlying27 hi hz0 hz1 hz2 rfl (by decide) v l.length _ hown.row ⟨b, 0, none⟩ 1 c (pkC p) rfl
    (by
      intro j u hj
      rw [cell_add, Nat.zero_add]
      have hj7 : j < 4 := (List.getElem?_eq_some_iff.1 hj).1
      rcases (show j = 0 ∨ j = 1 ∨ j = 2 ∨ j = 3 by omega) with rfl | rfl | rfl | rfl
      · exact u0.trans hj
      · exact u1.trans hj
      · exact u2.trans hj
      · exact u3.trans hj)
    (by
      intro u hu
      simp only [pkC, List.mem_cons, List.not_mem_nil, or_false] at hu
      rcases hu with rfl | rfl | rfl | rfl
      · rfl
      · rfl
      · rfl
      · exact hone)
    (by unfold maxLen; omega) (by omega) hB
  have hg : Grew w v w' v' := ⟨h3, h5.imp id fun e => ⟨_, e, Nat.le_refl _⟩⟩
  unfold Oper.wp execOp
  simp only [ho, resolve, invoke, builtin, Sem.run_bind, Sem.run_pure, Result.andThen_ok, List.map_toArray, List.map_cons, List.map_nil, hs, hx, hr]
  exact h v' w' (hown.appended p hp hpl hBN hN h2 hg) hg
set_option maxRecDepth 100000 in
theorem stp_appendI {w : World} {ops : Array Oper} {o : Oper} {a : Act} {K : Act → World → Prop} {Q : Exit → Act → World → Prop} {E : Prop} (hgd : o.guard = none) (s x : Operand)
    (ho : o.op = .call { callee := .builtin .append, args := #[s, x], argTypes := #[23, 23] })
    {B : Nat} {v : Value} {l : List Int} (e : Int) (hown : OwnI w B v l) (hs : a.eval s = v) (b c : Nat) (hu : w.cell? ⟨b, 0, none⟩ = some (.int .i64 e)) (hx : a.eval x = .slice (some ⟨b, 0, none⟩) 1 c)
    (hlen : l.length ≤ 1100000) (hB : B ≤ w.heap.size)
    (h : ∀ v' w', OwnI w' B v' (l ++ [e]) → Grew w v w' v' → K (a.put o.dst v') w') : if Region.wanted o (yielded ops a.tmps) = true then Oper.wp Try.prog o a w K Q else E := by
  have hw : Region.wanted o (yielded ops a.tmps) = true := by simp [Region.wanted, hgd]
  rw [if_pos hw]
  obtain ⟨i0, hi, hz0, hz1, hz2⟩ := info_parts infoI64
  obtain ⟨v', w', hr, h2, h3, h4, h5⟩ := run_append_own_at (P := Try.prog) w B 23 o.type 3 i0 _ 1 8 Try.underlying23 hi hz0 hz1 hz2 rfl (by decide) v l.length _ hown ⟨b, 0, none⟩ 1 c [.int .i64 e] rfl
    (by
      intro j u hj
      rw [cell_add, Nat.zero_add]
      have hj1 : j < 1 := (List.getElem?_eq_some_iff.1 hj).1
      obtain rfl : j = 0 := by omega
      exact hu.trans hj)
    (by
      intro u hu
      rw [List.mem_singleton.1 hu]
      rfl)
    (by unfold maxLen; omega) (by omega) hB
  have hg : Grew w v w' v' := ⟨h3, h5.imp id fun e => ⟨_, e, Nat.le_refl _⟩⟩
  unfold Oper.wp execOp
  simp only [ho, resolve, invoke, builtin, Sem.run_bind, Sem.run_pure, Result.andThen_ok, List.map_toArray, List.map_cons, List.map_nil, hs, hx, hr]
  exact h v' w' (by simpa [OwnI] using h2) hg
end Go.Proofs.Ythondmpnleleiaa
