/-
  A region that draws its order, by an invariant: each operation is looked at once, whatever order is drawn.
-/
import Derived.Test.YtanpindbhdeomaaGreatDoorBlk
import Derived.Orders
import Derived.WalkKit
namespace Go.Proofs.YtanpindbhdeomaaGreatDoor
open Go.RowKit
set_option linter.unusedVariables false

theorem count_set : ∀ (l : List Bool) (i : Nat), l[i]? = some false → (l.set i true).count false + 1 = l.count false
  | [], i, h => by simp at h
  | b :: l, 0, h => by
    simp at h
    subst h
    simp
  | b :: l, i + 1, h => by
    have := count_set l i (by simpa using h)
    simp only [List.set_cons_succ, List.count_cons]
    omega

theorem ready_mem {md : Region.Mode} {ops : Array Oper} {L : Array Bool} {i : Nat} (hs : L.size = ops.size) (h : i ∈ Region.ready md ops L) : i < ops.size ∧ L[i]? = some false := by
  have h1 := List.mem_filter.1 h
  have hi : i < ops.size := List.mem_range.1 h1.1
  refine ⟨hi, ?_⟩
  have h2 := h1.2
  simp only [Bool.and_eq_true] at h2
  have h3 := h2.1
  rw [Array.getElem?_eq_getElem (by omega)]
  simp [Array.getD, show i < L.size by omega] at h3
  simp [h3]

/-- which operations must have been done ahead of operation i -/
def needs (md : Region.Mode) (ops : Array Oper) (i : Nat) : List Nat := ((ops[i]?).map fun o => (o.after.toList.filter (Region.binds md)).map (·.on)).getD []
theorem ready_needs {md : Region.Mode} {ops : Array Oper} {L : Array Bool} {i j : Nat} (h : i ∈ Region.ready md ops L) (hj : j ∈ needs md ops i) : L.getD j false = true := by
  have h1 := List.mem_filter.1 h
  have hi : i < ops.size := List.mem_range.1 h1.1
  have h2 := h1.2
  simp only [Bool.and_eq_true] at h2
  have h3 := h2.2
  unfold needs at hj
  rw [Array.getElem?_eq_getElem hi] at h3 hj
  simp only [Option.map_some, Option.getD_some] at h3 hj
  obtain ⟨e, he, rfl⟩ := List.mem_map.1 hj
  obtain ⟨he1, he2⟩ := List.mem_filter.1 he
  have h4 := (Array.all_eq_true_iff_forall_mem.1 h3) e (by simpa using he1)
  simpa [he2] using h4

theorem wpAny_inv {P : Program} {ops : Array Oper} {Q : Exit → Act → World → Prop} {md : Region.Mode} (J : Array Bool → Act → World → Prop)
    (hstep : ∀ L a w i, L.size = ops.size → i ∈ Region.ready md ops L → J L a w → wpOp P ops Q i (J (L.setIfInBounds i true)) a w)
    (hend : ∀ L a w, L.size = ops.size → Region.ready md ops L = [] → J L a w → Q .normal a w) :
    ∀ (fuel : Nat) (L : Array Bool) (a : Act) (w : World), L.size = ops.size → L.toList.count false ≤ fuel → J L a w → wpAny P md ops Q fuel L a w
  | 0, L, a, w, hs, hc, hJ => by
    have hr : Region.ready md ops L = [] := by
      cases h : Region.ready md ops L with
      | nil => rfl
      | cons x xs =>
        obtain ⟨h1, h2⟩ := ready_mem (md := md) hs (show x ∈ Region.ready md ops L by rw [h]; simp)
        have : false ∈ L.toList := List.mem_iff_getElem?.2 ⟨x, by simpa using h2⟩
        have := List.count_pos_iff.2 this
        omega
    exact ⟨hr, hend L a w hs hr hJ⟩
  | fuel + 1, L, a, w, hs, hc, hJ => by
    refine ⟨fun h => hend L a w hs h hJ, fun i hi => ?_⟩
    obtain ⟨h1, h2⟩ := ready_mem hs hi
    refine wpOp_mono (fun a' w' hJ' => wpAny_inv J hstep hend fuel _ a' w' (by simpa using hs) ?_ hJ') (hstep L a w i hs hi hJ)
    have := count_set L.toList i (by simpa using h2)
    simp only [Array.toList_setIfInBounds]
    omega

theorem wp_region_inv {P : Program} {id : Nat} {ops : Array Oper} {Q : Exit → Act → World → Prop} {a : Act} {w : World} (hm : P.follows .mixedOrders = true) (J : Array Bool → Act → World → Prop)
    (h0 : J (Array.replicate ops.size false) a w.drew)
    (hstep : ∀ L a w i, L.size = ops.size → i ∈ Region.ready .any ops L → J L a w → wpOp P ops Q i (J (L.setIfInBounds i true)) a w)
    (hend : ∀ L a w, L.size = ops.size → Region.ready .any ops L = [] → J L a w → Q .normal a w) : (Code.region id ops true).wp P Q a w :=
  wp_region_any hm (wpAny_inv J hstep hend ops.size _ a _ (by simp) (by simp) h0)

theorem wp_named {P : Program} {c : Code} {Q : Exit → Act → World → Prop} {a : Act} {w : World} (h : ∀ a0, a0 = a → c.wp P Q a0 w) : c.wp P Q a w := h a rfl

theorem wpOp_plain {P : Program} {ops : Array Oper} {Q : Exit → Act → World → Prop} {i : Nat} {K : Act → World → Prop} {a : Act} {w : World} {o : Oper} (hi : ops[i]? = some o) (hg : o.guard = none) (h : o.wp P a w K Q) : wpOp P ops Q i K a w := by
  unfold wpOp
  rw [hi]
  simp only [Region.wanted, hg, if_true]
  exact .inl h

theorem getD_set (L : Array Bool) (i j : Nat) (hi : i < L.size) : (L.setIfInBounds i true).getD j false = (decide (j = i) || L.getD j false) := by
  simp only [Array.getD_eq_getD_getElem?, Array.getElem?_setIfInBounds]
  by_cases h : i = j
  · subst h; simp [hi]
  · have h' : ¬ j = i := fun e => h e.symm
    simp [h, h']

theorem keepBit {L : Array Bool} {i j : Nat} (h : (L.setIfInBounds i true).getD j false = true) (hi : i < L.size) (hne : j ≠ i) : L.getD j false = true := by
  rw [getD_set L i j hi] at h
  simpa [hne] using h
theorem setBit {L : Array Bool} {i j : Nat} (h : L.getD j false = true) (hi : i < L.size) : (L.setIfInBounds i true).getD j false = true := by
  rw [getD_set L i j hi, h]; simp
theorem setSelf {L : Array Bool} {i : Nat} (hi : i < L.size) : (L.setIfInBounds i true).getD i false = true := by
  rw [getD_set L i i hi]; simp
theorem readyBit {md : Region.Mode} {ops : Array Oper} {L : Array Bool} {i : Nat} (hs : L.size = ops.size) (h : i ∈ Region.ready md ops L) (hd : L.getD i false = true) : False := by
  have hn := (ready_mem hs h).2
  rw [Array.getD_eq_getD_getElem?, hn] at hd
  simp at hd
theorem noBit {n j : Nat} (h : (Array.replicate n false).getD j false = true) : False := by
  simp only [Array.getD_eq_getD_getElem?, Array.getElem?_replicate] at h
  split at h <;> simp at h
/-- nothing is left tq be done: all is done, where an operation waits only for ones ahead of it -/
theorem ready_nil {md : Region.Mode} {ops : Array Oper} {L : Array Bool} (hs : L.size = ops.size) (h : Region.ready md ops L = []) (hord : (List.range ops.size).all (fun i => (needs md ops i).all (· < i)) = true) : ∀ j, j < ops.size → L.getD j false = true := by
  intro j
  induction j using Nat.strongRecOn with
  | _ j ih =>
    intro hj
    cases hb : L.getD j false with
    | true => rfl
    | false =>
      exfalso
      have hm : j ∈ Region.ready md ops L := by
        refine List.mem_filter.2 ⟨List.mem_range.2 hj, ?_⟩
        have hjL : j < L.size := by omega
        rw [Array.getElem?_eq_getElem hj]
        simp only [Option.map_some, Option.getD_some, Bool.and_eq_true]
        refine ⟨?_, Array.all_eq_true_iff_forall_mem.2 fun e he => ?_⟩
        · simp only [Array.getD, hjL, dif_pos] at hb ⊢
          simpa using hb
        · cases hbd : Region.binds md e with
          | false => rfl
          | true =>
            have hn : e.on ∈ needs md ops j := by
              unfold needs
              rw [Array.getElem?_eq_getElem hj]
              simp only [Option.map_some, Option.getD_some]
              exact List.mem_map.2 ⟨e, List.mem_filter.2 ⟨by simpa using he, hbd⟩, rfl⟩
            have hl : e.on < j := by
              have h1 := List.all_eq_true.1 hord j (List.mem_range.2 hj)
              simpa using List.all_eq_true.1 h1 e.on hn
            simp [ih e.on hl (by omega)]
      rw [h] at hm
      cases hm

theorem wp_call_go {a : Act} {w : World} {K : Act → World → Prop} {Q : Exit → Act → World → Prop} {o : Oper} {N : FuncId} {ags : Array Operand} {ts : Array TypeId} (ho : o.op = .call ⟨.value (.func N), ags, ts⟩)
    (hN : ∀ args w, (callFunc N args).run Tryz.prog w = .ok (.enter N args) w) (args : Array Value) (hA : ags.map a.eval = args)
    (hc : Calls Tryz.prog N args w fun e w' => ∃ v, e = .returned v ∧ K (a.put o.dst v) w') : o.wp Tryz.prog a w K Q := by
  subst hA
  unfold Oper.wp execOp
  simp only [ho, resolve, Act.eval, Deferred.ofValue, invoke]
  go_simp
  exact hc.mono fun e w' ⟨v, hv, hk⟩ => by subst hv; exact hk

theorem wp_value_go {a : Act} {w : World} {K : Act → World → Prop} {Q : Exit → Act → World → Prop} {o : Oper} {v : Value} (he : (execOp a.eval o).run Tryz.prog w = .ok (.value v) w) (h : K (a.put o.dst v) w) : o.wp Tryz.prog a w K Q := by
  unfold Oper.wp
  rw [he]
  exact h

theorem wp_not_go {a : Act} {w : World} {K : Act → World → Prop} {Q : Exit → Act → World → Prop} {o : Oper} (x : Operand) (ho : o.op = .unOp .not 4 x) {b : Bool} (hx : a.eval x = .bool b) (h : K (a.put o.dst (.bool !b)) w) : o.wp Tryz.prog a w K Q := by
  unfold Oper.wp execOp
  simp only [ho, hx]
  go_simp
  exact h

theorem wp_move_go {a : Act} {w : World} {K : Act → World → Prop} {Q : Exit → Act → World → Prop} {o : Oper} (x : Operand) (ho : o.op = .move x ∨ o.op = .assign x) (h : K (a.put o.dst (a.eval x)) w) : o.wp Tryz.prog a w K Q := by
  unfold Oper.wp execOp
  rcases ho with ho | ho <;> simp only [ho, Sem.run_pure] <;> exact h

theorem wp_alloc_go {a : Act} {w : World} {K : Act → World → Prop} {Q : Exit → Act → World → Prop} {o : Oper} (T : TypeId) (Z : Array Value) (ho : o.op = .alloc T)
    (hz : ∀ u : World, (Instr.alloc T true (.tuple #[])).run Tryz.prog u = .ok (.pointer (some ⟨u.heap.size, 0, none⟩)) (u.alloc (.cells Z T)))
    (h : K (a.put o.dst (.pointer (some ⟨w.heap.size, 0, none⟩))) (w.alloc (.cells Z T))) : o.wp Tryz.prog a w K Q := by
  unfold Oper.wp execOp
  simp only [ho, Sem.run_bind, hz, Result.andThen_ok, Sem.run_pure]
  exact h

/-- the frame a0, but for the slots ds, which hold x -/
def frame (a0 : Act) (ds : List Nat) (x : Nat → Value) : Act := { a0 with tmps := (a0.tmps.toList.zipIdx.map fun p => if ds.contains p.2 then x p.2 else p.1).toArray }
theorem frame_get (a0 : Act) (ds : List Nat) (x : Nat → Value) (t : Nat) : (frame a0 ds x).tmps[t]? = a0.tmps[t]?.map fun v => if ds.contains t then x t else v := by
  simp only [frame, List.getElem?_toArray, List.getElem?_map, List.getElem?_zipIdx, Array.getElem?_toList, Option.map_map]
  cases a0.tmps[t]? <;> simp
theorem frame_size (a0 : Act) (ds : List Nat) (x : Nat → Value) : (frame a0 ds x).tmps.size = a0.tmps.size := by simp [frame]
theorem frame_eval (a0 : Act) (ds : List Nat) (x : Nat → Value) (t : Nat) (h : ds.contains t = false) : (frame a0 ds x).eval (.tmp t) = a0.eval (.tmp t) := by
  have := frame_get a0 ds x t
  simp only [Act.eval, Array.getD_eq_getD_getElem?, this, h]
  cases a0.tmps[t]? <;> simp
theorem frame_eval_in (a0 : Act) (ds : List Nat) (x : Nat → Value) (t : Nat) (h : ds.contains t = true) (hlt : t < a0.tmps.size) : (frame a0 ds x).eval (.tmp t) = x t := by
  have := frame_get a0 ds x t
  rw [Array.getElem?_eq_getElem hlt] at this
  simp only [Act.eval, Array.getD_eq_getD_getElem?, this, h]
  simp
def upd (x : Nat → Value) (k : Nat) (v : Value) : Nat → Value := fun t => if t = k then v else x t
theorem upd_same (x : Nat → Value) (k : Nat) (v : Value) : upd x k v k = v := by simp [upd]
theorem upd_ne (x : Nat → Value) (k t : Nat) (v : Value) (h : t ≠ k) : upd x k v t = x t := by simp [upd, h]
theorem act_ext {a b : Act} (h1 : ∀ t : Nat, a.tmps[t]? = b.tmps[t]?) (h2 : a.defers = b.defers) : a = b := by
  obtain ⟨t1, d1⟩ := a
  obtain ⟨t2, d2⟩ := b
  have : t1 = t2 := Array.ext_getElem? h1
  subst this
  subst h2
  rfl
theorem frame_put (a0 : Act) (ds : List Nat) (x : Nat → Value) (k : Nat) (v : Value) (h : ds.contains k = true) : (frame a0 ds x).put (some k) v = frame a0 ds (upd x k v) := by
  refine act_ext (fun t => ?_) rfl
  rw [frame_get]
  show ((frame a0 ds x).tmps.setIfInBounds k v)[t]? = _
  rw [Array.getElem?_setIfInBounds]
  by_cases e : k = t
  · subst e
    rw [frame_size]
    by_cases hl : k < a0.tmps.size
    · rw [if_pos rfl, if_pos hl, Array.getElem?_eq_getElem hl]
      simp only [Option.map_some, h, if_true, upd]
    · rw [if_pos rfl, if_neg hl, Array.getElem?_eq_none (by omega)]
      rfl
  · rw [if_neg e, frame_get]
    have e' : ¬ t = k := fun h => e h.symm
    simp [upd, e']
theorem frame_put_none (a0 : Act) (ds : List Nat) (x : Nat → Value) (v : Value) : (frame a0 ds x).put none v = frame a0 ds x := rfl
theorem frame_self (a0 : Act) (ds : List Nat) : a0 = frame a0 ds (fun t => a0.tmps.getD t undef) := by
  refine act_ext (fun t => ?_) rfl
  rw [frame_get]
  cases h : a0.tmps[t]? with
  | none => rfl
  | some v => simp [Array.getD_eq_getD_getElem?, h]
end Go.Proofs.YtanpindbhdeomaaGreatDoor
