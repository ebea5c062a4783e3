/-
  laws.eqRestartAnswer, markRestartAnswer, heldRestartAnswer.
-/
import Derived.Test.YtlfnlhbkagjheaaDoorHeldK
import Derived.Test.YtlfnlhbkagjheaaDoorDiskU
import Derived.Test.YtlfnlhbkagjheaaDoorEqEnts
namespace Go.Proofs.YtlfnlhbkagjheaaDoor
open Go.RowKit
set_option linter.unusedVariables false
set_option linter.unusedSimpArgs false

/-- an answer of Restart in the span [lo, hi) -/
structure RstN (lo hi : Nat) (w : World) (a1 : Option Addr) (c1 : Nat) (L : List Int) (a2 : Option Addr) (c2 : Nat) (n : Nat) (E : List Ent) : Prop where
  b : BytesN lo hi w (.slice a1 L.length c1) L
  e : EntsR lo hi w (.slice a2 n c2) E
  ln : E.length = n
  ne : ∀ k, (Value.slice a1 L.length c1).ownBlock = some k → (Value.slice a2 n c2).ownBlock ≠ some k
theorem RstN.keep {w w' : World} {lo hi : Nat} {a1 : Option Addr} {c1 : Nat} {L : List Int} {a2 : Option Addr} {c2 n : Nat} {E : List Ent} (h : RstN lo hi w a1 c1 L a2 c2 n E) (hk : ∀ k, lo ≤ k → k < hi → w'.heap[k]? = w.heap[k]?) : RstN lo hi w' a1 c1 L a2 c2 n E :=
  ⟨h.b.keep hk, h.e.keep hk, h.ln, h.ne⟩
structure RstM (lo hi : Nat) (w : World) (a1 : Option Addr) (m c1 : Nat) (a2 : Option Addr) (n : Nat) : Prop where
  b : BytesN lo hi w (.slice a1 m c1) (marksL 1 m)
  e : EntsK lo hi w a2 n (1 + m)
theorem RstM.keep {w w' : World} {lo hi : Nat} {a1 : Option Addr} {m c1 : Nat} {a2 : Option Addr} {n : Nat} (h : RstM lo hi w a1 m c1 a2 n) (hk : ∀ k, lo ≤ k → k < hi → w'.heap[k]? = w.heap[k]?) : RstM lo hi w' a1 m c1 a2 n :=
  ⟨h.b.keep hk, h.e.keep hk⟩
theorem bel_keep {w w' : World} {lo hi : Nat} (hb : Below w.heap.size w w') (hh : hi ≤ w.heap.size) : ∀ k, lo ≤ k → k < hi → w'.heap[k]? = w.heap[k]? := fun k _ h => hb.block k (by omega)

set_option maxHeartbeats 4000000 in
set_option maxRecDepth 100000 in
theorem eqStable_2 (t v : Int) (a2 a2' : Option Addr) (n c2 c2' : Nat) (E : List Ent) (w : World) (h1 : Es w (.slice a2 n c2) E) (h2 : Es w (.slice a2' n c2') E) :
    Calls Tryd.prog 28 #[.agg #[.int .i64 t, .int .i64 v, .slice a2 n c2], .agg #[.int .i64 t, .int .i64 v, .slice a2' n c2']] w fun r w' => r = .returned (.bool true) ∧ Below w.heap.size w w' := by
  have hB : ∀ (u : World) (o1 o2 : Obj), Below u.heap.size u ((u.alloc o1).alloc o2) := fun u o1 o2 => ((Below.refl _ _).alloc (Nat.le_refl _) _).alloc (by simp) _
  have HE : Hid (∀ o1 o2, Calls Tryd.prog 46 #[.slice a2 n c2, .slice a2' n c2'] ((w.alloc o1).alloc o2) fun r w' => r = .returned (.bool true) ∧ Below ((w.alloc o1).alloc o2).heap.size ((w.alloc o1).alloc o2) w') := fun o1 o2 => eqEntryS_same _ _ E _ (h1.below (hB w o1 o2)) (h2.below (hB w o1 o2))
  clear h1 h2
  go_enter Tryd.func28, Tryd.ntmps28
  go_wp2_with (go_at_call 46; refine Calls.mono (HE.out _ _) ?_; rintro e w1 ⟨rfl, hb⟩)
  go_ret
  exact ⟨rfl, (hB w _ _).trans (hb.mono (by simp; omega))⟩

set_option maxHeartbeats 4000000 in
set_option maxRecDepth 100000 in
theorem eqRestartAnswer_u (K C Y t v : Int) (a1 a1' a2 a2' : Option Addr) (n c1 c1' c2 c2' : Nat) (L : List Int) (E : List Ent) (w : World) {lo hi lo' hi' : Nat} (h1 : RstN lo hi w a1 c1 L a2 c2 n E) (h2 : RstN lo' hi' w a1' c1' L a2' c2' n E) (hLm : L.length ≤ maxLen) (hn : n ≤ 1048576) :
    Calls Tryd.prog 17 #[.agg #[.int .i64 K, .int .i64 C, .int .i64 Y, .slice a1 L.length c1, .int .i64 t, .int .i64 v, .slice a2 n c2], .agg #[.int .i64 K, .int .i64 C, .int .i64 Y, .slice a1' L.length c1', .int .i64 t, .int .i64 v, .slice a2' n c2']] w fun r w' => r = .returned (.bool true) ∧ Below w.heap.size w w' := by
  have hEm : E.length ≤ maxLen := by rw [h1.ln]; unfold maxLen; omega
  have hB : Hid (Below w.heap.size w ((w.alloc (.cells #[.int .i64 K, .int .i64 C, .int .i64 Y, .slice a1 L.length c1, .int .i64 t, .int .i64 v, .slice a2 n c2] 40)).alloc (.cells #[.int .i64 K, .int .i64 C, .int .i64 Y, .slice a1' L.length c1', .int .i64 t, .int .i64 v, .slice a2' n c2'] 40))) := ((Below.refl _ _).alloc (Nat.le_refl _) _).alloc (by simp) _
  have HD : ∀ u : World, Below w.heap.size w u → Hid (Calls Tryd.prog 18 #[.agg #[.int .i64 C, .int .i64 Y, .slice a1 L.length c1], .agg #[.int .i64 C, .int .i64 Y, .slice a1' L.length c1']] u fun e w' => e = .returned (.bool true) ∧ Below u.heap.size u w') := fun u hb => eqDisk_same C Y a1 a1' _ _ c1 c1' L u ((h1.b.bs hLm).below hb) ((h2.b.bs hLm).below hb)
  have HS : ∀ u : World, Below w.heap.size w u → Hid (Calls Tryd.prog 28 #[.agg #[.int .i64 t, .int .i64 v, .slice a2 n c2], .agg #[.int .i64 t, .int .i64 v, .slice a2' n c2']] u fun r w' => r = .returned (.bool true) ∧ Below u.heap.size u w') := fun u hb => eqStable_2 t v a2 a2' n c2 c2' E u ((h1.e.own.es hEm).below hb) ((h2.e.own.es hEm).below hb)
  clear h1 h2
  go_enter Tryd.func17, Tryd.ntmps17
  go_wp2_with (first
    | (go_at_call 18; refine Calls.mono (HD _ hB.out).out ?_; rintro e w1 ⟨rfl, hb1⟩; have HB1 : Hid (Below w.heap.size w w1) := hB.out.trans (hb1.mono (by simp; omega)); have g1 := ((Blk.new w #[.int .i64 K, .int .i64 C, .int .i64 Y, .slice a1 L.length c1, .int .i64 t, .int .i64 v, .slice a2 n c2] 40).alloc (.cells #[.int .i64 K, .int .i64 C, .int .i64 Y, .slice a1' L.length c1', .int .i64 t, .int .i64 v, .slice a2' n c2'] 40)).below hb1 (by simp; omega); have g2 := (Blk.new' (w.alloc (.cells #[.int .i64 K, .int .i64 C, .int .i64 Y, .slice a1 L.length c1, .int .i64 t, .int .i64 v, .slice a2 n c2] 40)) #[.int .i64 K, .int .i64 C, .int .i64 Y, .slice a1' L.length c1', .int .i64 t, .int .i64 v, .slice a2' n c2'] 40 (k := w.heap.size + 1) (by simp)).below hb1 (by simp); have k1 := g1.cell; have k2 := g2.cell; clear hb1 g1 g2)
    | (go_at_call 28; refine Calls.mono (HS _ HB1.out).out ?_; rintro e w2 ⟨rfl, hb2⟩; have HB2 := HB1.out.trans (hb2.mono HB1.out.size)))
  go_ret
  exact ⟨rfl, HB2⟩

set_option maxHeartbeats 4000000 in
set_option maxRecDepth 100000 in
theorem markRestartAnswer_u (K C Y t v : Int) (a1 a2 : Option Addr) (n c1 c2 : Nat) (L : List Int) (E : List Ent) (w : World) {lo hi : Nat} (h : RstN lo hi w a1 c1 L a2 c2 n E) (hlo : lo ≤ w.heap.size) (hhi : hi ≤ w.heap.size) (hL : L.length ≤ 1048576) (hn : n ≤ 1048576) :
    Calls Tryd.prog 20 #[.agg #[.int .i64 K, .int .i64 C, .int .i64 Y, .slice a1 L.length c1, .int .i64 t, .int .i64 v, .slice a2 n c2], .int .i64 1] w fun r w' => r = .returned (.int .i64 ((1 + L.length + 7 * n : Nat) : Int)) ∧ RstM lo hi w' a1 L.length c1 a2 n ∧ Turned lo hi w w' := by
  have hB : Hid (Below w.heap.size w (w.alloc (.cells #[.int .i64 K, .int .i64 C, .int .i64 Y, .slice a1 L.length c1, .int .i64 t, .int .i64 v, .slice a2 n c2] 40))) := (Below.refl _ _).alloc (Nat.le_refl _) _
  have H0 : Hid (RstN lo hi (w.alloc (.cells #[.int .i64 K, .int .i64 C, .int .i64 Y, .slice a1 L.length c1, .int .i64 t, .int .i64 v, .slice a2 n c2] 40)) a1 c1 L a2 c2 n E) := h.keep (bel_keep hB.out hhi)
  have HD : Hid (Calls Tryd.prog 19 #[.agg #[.int .i64 C, .int .i64 Y, .slice a1 L.length c1], .int .i64 1] (w.alloc (.cells #[.int .i64 K, .int .i64 C, .int .i64 Y, .slice a1 L.length c1, .int .i64 t, .int .i64 v, .slice a2 n c2] 40)) fun e w' => e = .returned (.int .i64 ((1 + L.length : Nat) : Int)) ∧ Own w' lo (.slice a1 L.length c1) (marksL 1 L.length) ∧ World.grownBy _ w' (Value.slice a1 L.length c1).ownBlock) := markDisk_any C Y _ L 1 _ lo H0.out.b.own (by simp; omega) (by omega) (by omega)
  have HS : ∀ u : World, EntsR lo hi u (.slice a2 n c2) E → Hid (Calls Tryd.prog 29 #[.agg #[.int .i64 t, .int .i64 v, .slice a2 n c2], .int .i64 ((1 + L.length : Nat) : Int)] u fun r w' => r = .returned (.int .i64 ((1 + L.length + 7 * n : Nat) : Int)) ∧ EntsK lo hi w' a2 n (1 + L.length) ∧ u.grownBy w' (Value.slice a2 n c2).ownBlock) := fun u hu => by
    have HE : Hid (Calls Tryd.prog 47 #[.slice a2 n c2, .int .i64 ((1 + L.length : Nat) : Int)] (u.alloc (.cells #[.int .i64 t, .int .i64 v, .slice a2 n c2] 25)) fun r w'' => r = .returned (.int .i64 ((1 + L.length + 7 * n : Nat) : Int)) ∧ EntsK lo hi w'' a2 n (1 + L.length) ∧ World.grownBy _ w'' (Value.slice a2 n c2).ownBlock) := markEntryS_k (1 + L.length) (by omega) a2 n c2 _ E ⟨hu.own.below ((Below.refl _ _).alloc (Nat.le_refl _) _), hu.lt⟩ H0.out.ln hn
    clear hu H0 HD h
    go_enter Tryd.func29, Tryd.ntmps29
    go_wp2_with (go_at_call 47; refine Calls.mono HE.out ?_; rintro e w1 ⟨rfl, hm, hg⟩)
    go_ret
    exact ⟨rfl, hm, own_alloc hg⟩
  have hne := h.ne
  have hbl := h.b.lt
  have hel := h.e.lt
  clear h
  have HNE : Hid (∀ k, (Value.slice a1 L.length c1).ownBlock = some k → (Value.slice a2 n c2).ownBlock ≠ some k) := hne
  have HBL : Hid (∀ k, (Value.slice a1 L.length c1).ownBlock = some k → lo ≤ k ∧ k < hi) := hbl
  have HEL : Hid (∀ k, (Value.slice a2 n c2).ownBlock = some k → lo ≤ k ∧ k < hi) := hel
  clear hne hbl hel
  go_enter Tryd.func20, Tryd.ntmps20
  go_wp2_with (first
    | (go_at_call 19; refine Calls.mono HD.out ?_; rintro e w1 ⟨rfl, ho1, hg1⟩; have HO1 : Hid (Own w1 lo (.slice a1 L.length c1) (marksL 1 L.length)) := ho1; have HG1 : Hid (World.grownBy (w.alloc (.cells #[.int .i64 K, .int .i64 C, .int .i64 Y, .slice a1 L.length c1, .int .i64 t, .int .i64 v, .slice a2 n c2] 40)) w1 (Value.slice a1 L.length c1).ownBlock) := hg1; have HE1 : Hid (EntsR lo hi w1 (.slice a2 n c2) E) := ⟨H0.out.e.own.block fun k hk => hg1.block k (H0.out.e.own.2.lt k hk).2 (fun e => HNE.out k e.symm hk), H0.out.e.lt⟩; have g1 : Blk w1 w.heap.size #[.int .i64 K, .int .i64 C, .int .i64 Y, .slice a1 L.length c1, .int .i64 t, .int .i64 v, .slice a2 n c2] 40 := (Blk.new w _ _).keep (hg1.block w.heap.size (by simp) (fun e => by have := (HBL.out w.heap.size e.symm).2; omega)); have k1 := g1.cell; clear ho1 hg1 g1)
    | (go_at_call 29; refine Calls.mono (HS _ HE1.out).out ?_; rintro e w2 ⟨rfl, hm2, hg2⟩))
  go_ret
  refine ⟨rfl, ⟨⟨HO1.out.block fun k hk => hg2.block k (HO1.out.2.lt k hk).2 (fun e => HNE.out k hk e.symm), HBL.out⟩, hm2⟩, ?_⟩
  exact ((Turned.of_below lo hi hB.out).trans (.rows HG1.out HBL.out)).trans (.rows hg2 HEL.out)

set_option maxHeartbeats 4000000 in
set_option maxRecDepth 100000 in
theorem heldRestartAnswer_u (K C Y t v : Int) (a1 a2 : Option Addr) (n c1 c2 : Nat) (L : List Int) (w : World) {lo hi : Nat} (h : RstM lo hi w a1 L.length c1 a2 n) (hL : L.length ≤ 1048576) (hn : n ≤ 1048576) :
    Calls Tryd.prog 21 #[.agg #[.int .i64 K, .int .i64 C, .int .i64 Y, .slice a1 L.length c1, .int .i64 t, .int .i64 v, .slice a2 n c2], .int .i64 1] w fun r w' => r = .returned (.int .i64 ((1 + L.length + 7 * n : Nat) : Int)) ∧ Below w.heap.size w w' := by
  have hB : Hid (Below w.heap.size w (w.alloc (.cells #[.int .i64 K, .int .i64 C, .int .i64 Y, .slice a1 L.length c1, .int .i64 t, .int .i64 v, .slice a2 n c2] 40))) := (Below.refl _ _).alloc (Nat.le_refl _) _
  have hbs : Bs w (.slice a1 L.length c1) (marksL 1 L.length) := h.b.bs (by rw [marksL_len]; unfold maxLen; omega)
  have HD : ∀ u : World, Below w.heap.size w u → Hid (Calls Tryd.prog 36 #[.agg #[.int .i64 C, .int .i64 Y, .slice a1 L.length c1], .int .i64 1] u fun e w' => e = .returned (.int .i64 ((1 + L.length : Nat) : Int)) ∧ Below u.heap.size u w') := fun u hb => heldDisk_any C Y a1 _ c1 1 L.length u (hbs.below hb) (by omega) (by omega)
  have HS : ∀ u : World, Below w.heap.size w u → Hid (Calls Tryd.prog 30 #[.agg #[.int .i64 t, .int .i64 v, .slice a2 n c2], .int .i64 ((1 + L.length : Nat) : Int)] u fun r w' => r = .returned (.int .i64 ((1 + L.length + 7 * n : Nat) : Int)) ∧ Below u.heap.size u w') := fun u hb => by
    have HE : Hid (∀ o, Calls Tryd.prog 48 #[.slice a2 n c2, .int .i64 ((1 + L.length : Nat) : Int)] (u.alloc o) fun r w'' => r = .returned (.int .i64 ((1 + L.length + 7 * n : Nat) : Int)) ∧ Below (u.alloc o).heap.size (u.alloc o) w'') := fun o => heldEntryS_k (1 + L.length) (by omega) a2 n c2 _ hn (fun h0 => by
      obtain ⟨q, e, _, _, h3, h4⟩ := h.e.at_ h0
      have hbo := hb.alloc hb.size o
      exact ⟨q, e, Nat.lt_of_lt_of_le h3 hbo.size, fun i hi => (h4 i hi).below hbo⟩)
    go_enter Tryd.func30, Tryd.ntmps30
    go_wp2_with (go_at_call 48; refine Calls.mono (HE.out _) ?_; rintro e w1 ⟨rfl, hb1⟩)
    go_ret
    exact ⟨by first | rfl | simp, ((Below.refl _ _).alloc (Nat.le_refl _) _).trans (hb1.mono (by simp))⟩
  clear h hbs
  go_enter Tryd.func21, Tryd.ntmps21
  go_wp2_with (first
    | (go_at_call 36; refine Calls.mono (HD _ hB.out).out ?_; rintro e w1 ⟨rfl, hb1⟩; have HB1 : Hid (Below w.heap.size w w1) := hB.out.trans (hb1.mono (by simp)); have g1 := (Blk.new w #[.int .i64 K, .int .i64 C, .int .i64 Y, .slice a1 L.length c1, .int .i64 t, .int .i64 v, .slice a2 n c2] 40).below hb1 (by simp); have k1 := g1.cell; clear hb1 g1)
    | (go_at_call 30; refine Calls.mono (HS _ HB1.out).out ?_; rintro e w2 ⟨rfl, hb2⟩; have HB2 := HB1.out.trans (hb2.mono HB1.out.size)))
  go_ret
  exact ⟨by first | rfl | simp, HB2⟩
end Go.Proofs.YtlfnlhbkagjheaaDoor
