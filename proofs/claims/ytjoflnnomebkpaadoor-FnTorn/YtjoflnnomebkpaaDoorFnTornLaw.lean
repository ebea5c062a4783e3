/-
  The walk of the law FnTorn.
-/
import Derived.Test.YtjoflnnomebkpaaDoorTornL
import Derived.Test.YtjoflnnomebkpaaDoorDrPr
import Derived.Test.YtjoflnnomebkpaaDoorPlanImpl2
import Derived.Test.YtjoflnnomebkpaaDoorPlanSpec
namespace Go.Proofs.YtjoflnnomebkpaaDoor
open Go.RowKit
set_option linter.unusedVariables false
set_option linter.unusedSimpArgs false

/-- only new memory since w0; the blocks F hold what is told -/
def Fb (w0 w : World) (F : List (Nat × Array Value × TypeId)) : Prop := Below w0.heap.size w0 w ∧ ∀ (i : Nat) x, F[i]? = some x → Blk w x.1 x.2.1 x.2.2
theorem Fb.blk {w0 w : World} {F : List (Nat × Array Value × TypeId)} (h : Fb w0 w F) (i : Nat) {b : Nat} {C : Array Value} {t : TypeId} (hi : F[i]? = some (b, C, t)) : Blk w b C t := h.2 i _ hi
theorem Fb.below {w0 w w' : World} {F : List (Nat × Array Value × TypeId)} (h : Fb w0 w F) (hb : Below w.heap.size w w') : Fb w0 w' F :=
  ⟨h.1.trans (hb.mono h.1.size), fun i x e => (h.2 i x e).below hb (h.2 i x e).lt⟩
theorem Fb.new {w0 w : World} {F : List (Nat × Array Value × TypeId)} (h : Fb w0 w F) (C : Array Value) (t : TypeId) : Fb w0 (w.alloc (.cells C t)) (F ++ [(w.heap.size, C, t)]) := by
  have h' := h.below ((Below.refl w.heap.size w).alloc (Nat.le_refl _) (.cells C t))
  refine ⟨h'.1, fun i x e => ?_⟩
  rcases Nat.lt_or_ge i F.length with hi | hi
  · rw [List.getElem?_append_left hi] at e; exact h'.2 i x e
  · rw [List.getElem?_append_right hi] at e
    rcases Nat.eq_zero_or_pos (i - F.length) with hz | hz
    · rw [hz] at e; simp at e; subst e; exact Blk.new _ _ _
    · rw [List.getElem?_eq_none (by simp; omega)] at e; cases e
theorem Fb.nil (w : World) : Fb w w [] := ⟨Below.refl _ _, fun i x e => by simp at e⟩
theorem al1 (w : World) (o : Obj) : Below w.heap.size w (w.alloc o) := (Below.refl _ _).alloc (Nat.le_refl _) _
theorem al2 (w : World) (o o' : Obj) : Below w.heap.size w ((w.alloc o).alloc o') := ((Below.refl _ _).alloc (Nat.le_refl _) _).alloc (by simp) _
theorem fldP (x0 x1 : Value) (u : World) : Sem.run Tryd.prog (Instr.field 43 (.agg #[x0, x1]) 0) u = .ok x0 u := by
  simp [Instr.field, go_sem, asAgg]
theorem below_drewT (B : Nat) (w : World) (k : Nat) : Below B w (w.drewN k) := ⟨rfl, rfl, rfl, Nat.le_refl _, fun _ _ => rfl⟩

set_option maxHeartbeats 16000000 in
set_option maxRecDepth 100000 in
theorem lawTorn_walk (v1 : Value) (l1 : List Int) (w : World) (h1 : Bs w v1 l1) (A : Nat → Addr) (B : Nat) (hN : Sents w A B) (A1 A2 : Addr) (hS : Sents2 w A1 A2) :
    Calls Tryd.prog 4 #[v1] w fun e w' => e = .returned (.bool true) ∧ Below w.heap.size w w' := by
  have H1 : Hid (Bs w v1 l1) := h1
  have HN : Hid (Sents w A B) := hN
  have HS : Hid (Sents2 w A1 A2) := hS
  obtain ⟨m1, _, a1, cap1, rfl, _⟩ := h1
  unfold maxLen at m1
  clear hN hS
  by_cases hl1 : (1048576 : Int) < l1.length
  · go_enter Tryd.func4, Tryd.ntmps4
    go_wp2
    go_ret
    exact ⟨rfl, Below.refl _ _⟩
  have hpl := pl_len l1 (min l1.length 400) (Nat.min_le_right _ _)
  have HDP : Hid (∀ u : World, Below w.heap.size w u → Calls Tryd.prog 16 #[.slice a1 l1.length cap1] u fun r w' => ∃ oa oc na nc, r = .returned (.tuple #[.agg #[.int .i64 (plA l1 (min l1.length 400)).1, .int .i64 (plA l1 (min l1.length 400)).2.1, .slice oa (plA l1 (min l1.length 400)).2.2.length oc], .agg #[.int .i64 (plB l1 (min l1.length 400)).1, .int .i64 (plB l1 (min l1.length 400)).2.1, .slice na (plB l1 (min l1.length 400)).2.2.length nc]]) ∧ OwnE w' u.heap.size (.slice oa (plA l1 (min l1.length 400)).2.2.length oc) (plA l1 (min l1.length 400)).2.2 ∧ OwnE w' u.heap.size (.slice na (plB l1 (min l1.length 400)).2.2.length nc) (plB l1 (min l1.length 400)).2.2 ∧ Below u.heap.size u w') := fun u hu => drawPlanRecords_any a1 cap1 l1 u (H1.out.below hu) (by omega)
  generalize plA l1 (min l1.length 400) = XA at *
  generalize plB l1 (min l1.length 400) = XB at *
  obtain ⟨tA, vA, LA⟩ := XA
  obtain ⟨tB, vB, LB⟩ := XB
  dsimp only at hpl HDP
  obtain ⟨hp1, hp2⟩ := hpl
  obtain ⟨nA, hnA⟩ : ∃ n, n = LA.length := ⟨_, rfl⟩
  obtain ⟨nB, hnB⟩ : ∃ n, n = LB.length := ⟨_, rfl⟩
  rw [← hnA] at HDP hp1
  rw [← hnB] at HDP hp2
  have HnA : Hid (nA = LA.length) := hnA
  have HnB : Hid (nB = LB.length) := hnB
  clear hnA hnB
  have HSP : Hid (∀ (u : World) (oa na : Option Addr) (oc nc : Nat), OwnE u w.heap.size (.slice oa nA oc) LA → OwnE u w.heap.size (.slice na nB nc) LB → Calls Tryd.prog 17 #[.agg #[.int .i64 tA, .int .i64 vA, .slice oa nA oc], .agg #[.int .i64 tB, .int .i64 vB, .slice na nB nc]] u fun r w' => ∃ ra rn rc, r = .returned (.agg #[.int .i64 (planC tA vA LA tB vB LB), .slice ra rn rc]) ∧ Below u.heap.size u w') := fun u oa na oc nc h1 h2 => by
    rw [HnA.out] at h1 ⊢
    rw [HnB.out] at h2 ⊢
    exact (sPlanRecords_any tA vA oa oc LA tB vB na nc LB u (h1.es (by rw [← HnA.out]; unfold maxLen; omega)) (h2.es (by rw [← HnB.out]; unfold maxLen; omega)) (by rw [← HnA.out]; omega) (by rw [← HnB.out]; omega)).mono fun x w' ⟨a, c, g1, _, g2⟩ => ⟨a, _, c, g1, g2⟩
  obtain ⟨PC, hPC⟩ : ∃ PC, PC = planC tA vA LA tB vB LB := ⟨_, rfl⟩
  rw [← hPC] at HSP
  have HPC : Hid (PC = planC tA vA LA tB vB LB) := hPC
  clear hPC
  have hfl := fldP
  have G0 : True := trivial
  go_enter Tryd.func4, Tryd.ntmps4
  go_upto_if 31 with (first
    | (go_at_call 16; clear G0; refine (HDP.out _ (Below.refl _ _)).mono ?_; rintro r w1 ⟨oa, oc, na, nc, rfl, ho1, hp1', hb1⟩; have HF1 : Hid (Fb w ((w1.alloc (.cells #[.int .i64 tA, .int .i64 vA, .slice oa nA oc] 39)).alloc (.cells #[.int .i64 tB, .int .i64 vB, .slice na nB nc] 39)) [(w1.heap.size, #[.int .i64 tA, .int .i64 vA, .slice oa nA oc], 39), (w1.heap.size + 1, #[.int .i64 tB, .int .i64 vB, .slice na nB nc], 39)]) := (by have hX := (((Fb.nil w).below hb1).new #[.int .i64 tA, .int .i64 vA, .slice oa nA oc] 39).new #[.int .i64 tB, .int .i64 vB, .slice na nB nc] 39; simpa using hX : Fb w ((w1.alloc (.cells #[.int .i64 tA, .int .i64 vA, .slice oa nA oc] 39)).alloc (.cells #[.int .i64 tB, .int .i64 vB, .slice na nB nc] 39)) [(w1.heap.size, #[.int .i64 tA, .int .i64 vA, .slice oa nA oc], 39), (w1.heap.size + 1, #[.int .i64 tB, .int .i64 vB, .slice na nB nc], 39)]); have HO1 : Hid (OwnE ((w1.alloc (.cells #[.int .i64 tA, .int .i64 vA, .slice oa nA oc] 39)).alloc (.cells #[.int .i64 tB, .int .i64 vB, .slice na nB nc] 39)) w.heap.size (.slice oa nA oc) LA) := ho1.below (al2 _ _ _); have HU1 : Hid (OwnE ((w1.alloc (.cells #[.int .i64 tA, .int .i64 vA, .slice oa nA oc] 39)).alloc (.cells #[.int .i64 tB, .int .i64 vB, .slice na nB nc] 39)) w.heap.size (.slice na nB nc) LB) := hp1'.below (al2 _ _ _); clear ho1 hp1' hb1)
    | (go_at_call 17; refine (HSP.out _ oa na oc nc HO1.out HU1.out).mono ?_; rintro r w2 ⟨ra, rn, rc, rfl, hb2⟩; have HF2 : Hid (Fb w w2 [(w1.heap.size, #[.int .i64 tA, .int .i64 vA, .slice oa nA oc], 39), (w1.heap.size + 1, #[.int .i64 tB, .int .i64 vB, .slice na nB nc], 39)]) := HF1.out.below hb2; have HO2 : Hid (OwnE w2 w.heap.size (.slice oa nA oc) LA) := HO1.out.below hb2; have HU2 : Hid (OwnE w2 w.heap.size (.slice na nB nc) LB) := HU1.out.below hb2; clear hb2))
  clear HF1 HO1 HU1 HSP
  by_cases hpc : PC = 0
  case neg =>
    have hq : (PC != 0) = true := by simpa using hpc
    clear hpc
    go_wp2_with fail
    go_ret
    exact ⟨rfl, HF2.out.1⟩
  have hq : (PC != 0) = false := by simpa using hpc
  have h0 : planC tA vA LA tB vB LB = 0 := HPC.out.symm.trans hpc
  clear hpc HPC
  have hA0 := plan_first (planC_zero h0).1
  have hW1 := torn_write hA0 (by rw [← HnA.out]; omega) [] 0 (by simp) ⟨Int.le_refl _, by simp⟩
  have hr1 := planL_len2 0 0 [] tA vA LA
  have hr2 := planL_len2 tA vA LA tB vB LB
  have HR1f : Hid (∀ r ∈ planL 0 0 [] tA vA LA, r.e.fits) := planL_fits 0 0 [] tA vA LA HO2.out.1
  have HR2f : Hid (∀ r ∈ planL tA vA LA tB vB LB, r.e.fits) := planL_fits tA vA LA tB vB LB HU2.out.1
  have hEL : planC 0 0 [] tA vA LA = 0 := hA0
  have HI0 : Hid (∀ (u : World) (oa : Option Addr) (oc : Nat), OwnE u w.heap.size (.slice oa nA oc) LA → Calls Tryd.prog 18 #[.agg #[.int .i64 0, .int .i64 0, .slice none 0 0], .agg #[.int .i64 tA, .int .i64 vA, .slice oa nA oc]] u fun r w' => ∃ ra rc, r = .returned (.agg #[.int .i64 0, .slice ra (planL 0 0 [] tA vA LA).length rc]) ∧ OwnR w' u.heap.size (.slice ra (planL 0 0 [] tA vA LA).length rc) (planL 0 0 [] tA vA LA) ∧ Below u.heap.size u w') := fun u oa oc h1 => by
    rw [HnA.out] at h1 ⊢
    have hx := planRecords_any 0 0 none 0 [] tA vA oa oc LA u ((OwnE.nil u 0).es (by simp)) (h1.es (by rw [← HnA.out]; unfold maxLen; omega)) (by simp) (by rw [← HnA.out]; omega)
    rw [hA0] at hx
    exact hx
  have HI2 : Hid (∀ (u : World) (oa na : Option Addr) (oc nc : Nat), OwnE u w.heap.size (.slice oa nA oc) LA → OwnE u w.heap.size (.slice na nB nc) LB → Calls Tryd.prog 18 #[.agg #[.int .i64 tA, .int .i64 vA, .slice oa nA oc], .agg #[.int .i64 tB, .int .i64 vB, .slice na nB nc]] u fun r w' => ∃ ra rc, r = .returned (.agg #[.int .i64 0, .slice ra (planL tA vA LA tB vB LB).length rc]) ∧ OwnR w' u.heap.size (.slice ra (planL tA vA LA tB vB LB).length rc) (planL tA vA LA tB vB LB) ∧ Below u.heap.size u w') := fun u oa na oc nc h1 h2 => by
    rw [HnA.out] at h1 ⊢
    rw [HnB.out] at h2 ⊢
    have hx := planRecords_any tA vA oa oc LA tB vB na nc LB u (h1.es (by rw [← HnA.out]; unfold maxLen; omega)) (h2.es (by rw [← HnB.out]; unfold maxLen; omega)) (by rw [← HnA.out]; omega) (by rw [← HnB.out]; omega)
    rw [h0] at hx
    exact hx
  obtain ⟨F1, hF1⟩ : ∃ F, F = framesL (planL 0 0 [] tA vA LA) := ⟨_, rfl⟩
  obtain ⟨F2, hF2⟩ : ∃ F, F = framesL (planL tA vA LA tB vB LB) := ⟨_, rfl⟩
  rw [← hF1] at hW1
  have hW2 := torn_write h0 (by rw [← HnB.out]; omega) F1 F1.length (by have := hW1.2.2.2.2; omega) ⟨by omega, Int.le_refl _⟩
  rw [← hF2] at hW2
  have hRS := fun j => torn_rest h0 j F1 F2 hF1 hF2 (by have := hW1.2.2.2.2; have := hW2.2.2.2.2; omega)
  have hCR := fun j => torn_crash F1 F2 j (by have := hW1.2.2.2.2; have := hW2.2.2.2.2; omega)
  have hSY := torn_sync F1 (by have := hW1.2.2.2.2; omega)
  generalize planL 0 0 [] tA vA LA = R1 at *
  generalize planL tA vA LA tB vB LB = R2 at *
  obtain ⟨r1, hr1'⟩ : ∃ n, n = R1.length := ⟨_, rfl⟩
  obtain ⟨r2, hr2'⟩ : ∃ n, n = R2.length := ⟨_, rfl⟩
  rw [← hr1', ← HnA.out] at hr1
  rw [← hr2', ← HnB.out] at hr2
  rw [← hr1'] at HI0
  rw [← hr2'] at HI2
  have Hr1 : Hid (r1 = R1.length) := hr1'
  have Hr2 : Hid (r2 = R2.length) := hr2'
  obtain ⟨f1, hf1⟩ : ∃ n, n = F1.length := ⟨_, rfl⟩
  obtain ⟨f2, hf2⟩ : ∃ n, n = F2.length := ⟨_, rfl⟩
  obtain ⟨N, hNn⟩ : ∃ n, n = (F1 ++ F2).length := ⟨_, rfl⟩
  have hNe : N = f1 + f2 := by rw [hNn, hf1, hf2, List.length_append]
  have Hf1 : Hid (f1 = F1.length) := hf1
  have Hf2 : Hid (f2 = F2.length) := hf2
  have HNn : Hid (N = (F1 ++ F2).length) := hNn
  have hb1 : f1 ≤ 25296 := by rw [hf1]; exact hW1.2.2.2.2
  have hb2 : f2 ≤ 25296 := by rw [hf2]; exact hW2.2.2.2.2
  have HDW1 : Hid (∀ (u : World) (ra : Option Addr) (rc : Nat), Below w.heap.size w u → OwnR u w.heap.size (.slice ra r1 rc) R1 → Calls Tryd.prog 12 #[.agg #[.int .i64 1048576, .int .i64 0, .slice none 0 0], .slice ra r1 rc] u fun e w' => ∃ a' c', e = .returned (.agg #[.int .i64 0, .int .i64 1048576, .int .i64 0, .slice a' f1 c']) ∧ Own w' u.heap.size (.slice a' f1 c') F1 ∧ Below u.heap.size u w') := fun u ra rc hu hr => by
    have hx := diskWrite_gen 1048576 0 none 0 [] (.slice ra r1 rc) R1 u ((Own.nil u 0).bs (by simp)) (by simp) (by simp) (hr.sl (by rw [← Hr1.out]; unfold maxLen; omega)) HR1f.out A1 A2 (HS.out.below hu) (.inl ⟨rfl, rfl⟩)
    rw [hW1.1, hW1.2.1, hW1.2.2.1, hW1.2.2.2.1, List.nil_append, ← hf1] at hx
    exact hx
  have HSY : Hid (∀ (u : World) (a : Option Addr) (c : Nat), Own u w.heap.size (.slice a f1 c) F1 → Calls Tryd.prog 15 #[.agg #[.int .i64 1048576, .int .i64 0, .slice a f1 c]] u fun e w' => ∃ a' c', e = .returned (.agg #[.int .i64 1048576, .int .i64 f1, .slice a' f1 c']) ∧ Own w' u.heap.size (.slice a' f1 c') F1 ∧ Below u.heap.size u w') := fun u a c hu => by
    have hk := hu.aok Hf1.out
    have hx := diskSync_gen 1048576 0 a c F1 u (by rw [← hf1]; exact hu.bs (by rw [← hf1]; unfold maxLen; omega)) hk.2 (by rw [← hf1]; omega) hk.1
    unfold DiskAt at hx
    rw [hSY.1, hSY.2.1, hSY.2.2, ← hf1] at hx
    exact hx
  have HDW2 : Hid (∀ (u : World) (a ra : Option Addr) (c rc : Nat), Below w.heap.size w u → Own u w.heap.size (.slice a f1 c) F1 → OwnR u w.heap.size (.slice ra r2 rc) R2 → Calls Tryd.prog 12 #[.agg #[.int .i64 1048576, .int .i64 f1, .slice a f1 c], .slice ra r2 rc] u fun e w' => ∃ a' c', e = .returned (.agg #[.int .i64 0, .int .i64 1048576, .int .i64 f1, .slice a' N c']) ∧ Own w' u.heap.size (.slice a' N c') (F1 ++ F2) ∧ Below u.heap.size u w') := fun u a ra c rc hu ho hr => by
    have hk := ho.aok Hf1.out
    have hx := diskWrite_gen 1048576 F1.length a c F1 (.slice ra r2 rc) R2 u (by rw [← hf1]; exact ho.bs (by rw [← hf1]; unfold maxLen; omega)) hk.2 (by rw [← hf1]; omega) (hr.sl (by rw [← Hr2.out]; unfold maxLen; omega)) HR2f.out A1 A2 (HS.out.below hu) hk.1
    rw [hW2.1, hW2.2.1, hW2.2.2.1, hW2.2.2.2.1, ← hNn, ← hf1] at hx
    exact hx
  have HCR : Hid (∀ (u : World) (a : Option Addr) (c j : Nat), j ≤ 100000 → Own u w.heap.size (.slice a N c) (F1 ++ F2) → Calls Tryd.prog 14 #[.agg #[.int .i64 1048576, .int .i64 f1, .slice a N c], .int .i64 j] u fun e w' => ∃ a' c' n', e = .returned (.agg #[.int .i64 1048576, .int .i64 f1, .slice a' n' c']) ∧ n' = (F1 ++ F2.take j).length ∧ Own w' u.heap.size (.slice a' n' c') (F1 ++ F2.take j) ∧ Below u.heap.size u w') := fun u a c j hj hu => by
    have hk := hu.aok HNn.out
    have hx := diskCrash_gen 1048576 F1.length a c (F1 ++ F2) (j : Int) u (by rw [← hNn]; exact hu.bs (by rw [← hNn]; unfold maxLen; omega)) hk.2 (by rw [← hNn]; omega) (by omega) (by omega) hk.1
    unfold DiskAt at hx
    rw [(hCR j).1, (hCR j).2.1, (hCR j).2.2, ← hNn, ← hf1] at hx
    exact hx.mono fun e w' ⟨a', c', q1, q2, q3⟩ => ⟨a', c', _, q1, rfl, q2, q3⟩
  have HRS : Hid (∀ (u : World) (a : Option Addr) (c j n' : Nat), n' = (F1 ++ F2.take j).length → Below w.heap.size w u → Own u w.heap.size (.slice a n' c) (F1 ++ F2.take j) → Calls Tryd.prog 20 #[.agg #[.int .i64 1048576, .int .i64 f1, .slice a n' c]] u fun e w' => ∃ (Y : Nat) (x y : Int) (LL : List Ent) (ya sa : Option Addr) (yc sc n4 : Nat), e = .returned (.agg #[.int .i64 0, .int .i64 1048576, .int .i64 Y, .slice ya Y yc, .int .i64 x, .int .i64 y, .slice sa n4 sc]) ∧ f1 ≤ Y ∧ Y ≤ 100000 ∧ n4 = LL.length ∧ n4 ≤ 100000 ∧ OwnE w' u.heap.size (.slice sa n4 sc) LL ∧ TornOk tA vA LA tB vB LB ⟨x, y, LL⟩ ∧ (f2 ≤ j → x = tB ∧ y = vB ∧ LL = LB) ∧ Below u.heap.size u w') := fun u a c j n' hn' hu ho => by
    subst hn'
    have hk := ho.aok rfl
    have hlen : (F1 ++ F2.take j).length ≤ 100000 := by rw [List.length_append, List.length_take, ← hf1, ← hf2]; omega
    have hx := restartI_gen 1048576 F1.length a c (F1 ++ F2.take j) u A B (HN.out.below hu) (ho.bs (by unfold maxLen; omega)) hk.2 (by omega) hk.1
    obtain ⟨g1, g2, g3, g4, g5, g6, g7, g8⟩ := hRS j
    rw [g1, g2, ← hf1] at hx
    rw [← hf1] at g3 g4 g5 g6 g7 g8
    rw [← hf2] at g8
    refine hx.mono fun e w' ⟨ya, yc, sa, sc, m, p1, _, _, _, p5, _, p7⟩ => ?_
    generalize rtS 1048576 (f1 : Int) (F1 ++ F2.take j) = S at *
    obtain ⟨x, y, LL⟩ := S
    rw [g4] at p1
    exact ⟨_, x, y, LL, ya, sa, yc, sc, _, p1, g3, g5, rfl, g7, p5, g6, fun hj => by have := g8 hj; injection this with q1 q2 q3; exact ⟨q1, q2, q3⟩, p7⟩
  clear hW1 hW2 hRS hCR hSY hF1 hF2 hr1' hr2' hf1 hf2 hNn hA0 hEL h0
  have c2a := (HF2.out.blk 0 rfl).cell
  have c2b := (HF2.out.blk 1 rfl).cell
  have G1 : True := trivial
  have G2 : True := trivial
  have kw : IntKind.i64.wrap ((N : Int) - (f1 : Int)) = (f2 : Int) := (by rw [IntKind.wrap_i64]; omega)
  have kw2 : (N : Int) - (f1 : Int) = (f2 : Int) := by omega
  have hNb : N ≤ 60000 := by omega
  clear hNe
  go_upto_region 18 with (first
    | (go_at_call 16; refine (HDP.out _ HF2.out.1).mono ?_; rintro r w3 ⟨oa2, oc2, na2, nc2, rfl, ho3, hp3, hb3⟩; have HF3 : Hid (Fb w ((w3.alloc (.cells #[.int .i64 tA, .int .i64 vA, .slice oa2 nA oc2] 39)).alloc (.cells #[.int .i64 tB, .int .i64 vB, .slice na2 nB nc2] 39)) [(w1.heap.size, #[.int .i64 tA, .int .i64 vA, .slice oa nA oc], 39), (w1.heap.size + 1, #[.int .i64 tB, .int .i64 vB, .slice na nB nc], 39), (w3.heap.size, #[.int .i64 tA, .int .i64 vA, .slice oa2 nA oc2], 39), (w3.heap.size + 1, #[.int .i64 tB, .int .i64 vB, .slice na2 nB nc2], 39)]) := (by have hX := ((HF2.out.below hb3).new #[.int .i64 tA, .int .i64 vA, .slice oa2 nA oc2] 39).new #[.int .i64 tB, .int .i64 vB, .slice na2 nB nc2] 39; simpa using hX : Fb w ((w3.alloc (.cells #[.int .i64 tA, .int .i64 vA, .slice oa2 nA oc2] 39)).alloc (.cells #[.int .i64 tB, .int .i64 vB, .slice na2 nB nc2] 39)) [(w1.heap.size, #[.int .i64 tA, .int .i64 vA, .slice oa nA oc], 39), (w1.heap.size + 1, #[.int .i64 tB, .int .i64 vB, .slice na nB nc], 39), (w3.heap.size, #[.int .i64 tA, .int .i64 vA, .slice oa2 nA oc2], 39), (w3.heap.size + 1, #[.int .i64 tB, .int .i64 vB, .slice na2 nB nc2], 39)]); have HO3 : Hid (OwnE ((w3.alloc (.cells #[.int .i64 tA, .int .i64 vA, .slice oa2 nA oc2] 39)).alloc (.cells #[.int .i64 tB, .int .i64 vB, .slice na2 nB nc2] 39)) w.heap.size (.slice oa nA oc) LA) := (HO2.out.below hb3).below (al2 _ _ _); have HU3 : Hid (OwnE ((w3.alloc (.cells #[.int .i64 tA, .int .i64 vA, .slice oa2 nA oc2] 39)).alloc (.cells #[.int .i64 tB, .int .i64 vB, .slice na2 nB nc2] 39)) w.heap.size (.slice na nB nc) LB) := (HU2.out.below hb3).below (al2 _ _ _); have HV3 : Hid (OwnE ((w3.alloc (.cells #[.int .i64 tA, .int .i64 vA, .slice oa2 nA oc2] 39)).alloc (.cells #[.int .i64 tB, .int .i64 vB, .slice na2 nB nc2] 39)) w.heap.size (.slice oa2 nA oc2) LA) := (ho3.le HF2.out.1.size).below (al2 _ _ _); have HX3 : Hid (OwnE ((w3.alloc (.cells #[.int .i64 tA, .int .i64 vA, .slice oa2 nA oc2] 39)).alloc (.cells #[.int .i64 tB, .int .i64 vB, .slice na2 nB nc2] 39)) w.heap.size (.slice na2 nB nc2) LB) := (hp3.le HF2.out.1.size).below (al2 _ _ _); clear ho3 hp3 hb3 c2a c2b)
    | (go_at_call 18; clear G1; refine (HI0.out _ oa2 oc2 HV3.out).mono ?_; rintro r w4 ⟨pa, pc, rfl, ho4, hb4⟩; have HF4 : Hid (Fb w (w4.alloc (.cells #[.int .i64 0, .slice pa r1 pc] 43)) [(w1.heap.size, #[.int .i64 tA, .int .i64 vA, .slice oa nA oc], 39), (w1.heap.size + 1, #[.int .i64 tB, .int .i64 vB, .slice na nB nc], 39), (w3.heap.size, #[.int .i64 tA, .int .i64 vA, .slice oa2 nA oc2], 39), (w3.heap.size + 1, #[.int .i64 tB, .int .i64 vB, .slice na2 nB nc2], 39), (w4.heap.size, #[.int .i64 0, .slice pa r1 pc], 43)]) := (HF3.out.below hb4).new #[.int .i64 0, .slice pa r1 pc] 43; have HO4 : Hid (OwnE (w4.alloc (.cells #[.int .i64 0, .slice pa r1 pc] 43)) w.heap.size (.slice oa nA oc) LA) := (HO3.out.below hb4).below (al1 _ _); have HU4 : Hid (OwnE (w4.alloc (.cells #[.int .i64 0, .slice pa r1 pc] 43)) w.heap.size (.slice na nB nc) LB) := (HU3.out.below hb4).below (al1 _ _); have HV4 : Hid (OwnE (w4.alloc (.cells #[.int .i64 0, .slice pa r1 pc] 43)) w.heap.size (.slice oa2 nA oc2) LA) := (HV3.out.below hb4).below (al1 _ _); have HX4 : Hid (OwnE (w4.alloc (.cells #[.int .i64 0, .slice pa r1 pc] 43)) w.heap.size (.slice na2 nB nc2) LB) := (HX3.out.below hb4).below (al1 _ _); have HQ4 : Hid (OwnR (w4.alloc (.cells #[.int .i64 0, .slice pa r1 pc] 43)) w.heap.size (.slice pa r1 pc) R1) := (ho4.le HF3.out.1.size).below (al1 _ _); have c4a := (HF4.out.blk 2 rfl).cell; have c4b := (HF4.out.blk 3 rfl).cell; clear ho4 hb4)
    | (go_at_call 18; refine (HI2.out _ oa2 na2 oc2 nc2 HV4.out HX4.out).mono ?_; rintro r w5 ⟨qa, qc, rfl, ho5, hb5⟩; have HF5 : Hid (Fb w (w5.alloc (.cells #[.int .i64 0, .slice qa r2 qc] 43)) [(w1.heap.size, #[.int .i64 tA, .int .i64 vA, .slice oa nA oc], 39), (w1.heap.size + 1, #[.int .i64 tB, .int .i64 vB, .slice na nB nc], 39), (w3.heap.size, #[.int .i64 tA, .int .i64 vA, .slice oa2 nA oc2], 39), (w3.heap.size + 1, #[.int .i64 tB, .int .i64 vB, .slice na2 nB nc2], 39), (w4.heap.size, #[.int .i64 0, .slice pa r1 pc], 43), (w5.heap.size, #[.int .i64 0, .slice qa r2 qc], 43)]) := (HF4.out.below hb5).new #[.int .i64 0, .slice qa r2 qc] 43; have HO5 : Hid (OwnE (w5.alloc (.cells #[.int .i64 0, .slice qa r2 qc] 43)) w.heap.size (.slice oa nA oc) LA) := (HO4.out.below hb5).below (al1 _ _); have HU5 : Hid (OwnE (w5.alloc (.cells #[.int .i64 0, .slice qa r2 qc] 43)) w.heap.size (.slice na nB nc) LB) := (HU4.out.below hb5).below (al1 _ _); have HQ5 : Hid (OwnR (w5.alloc (.cells #[.int .i64 0, .slice qa r2 qc] 43)) w.heap.size (.slice pa r1 pc) R1) := (HQ4.out.below hb5).below (al1 _ _); have HP5 : Hid (OwnR (w5.alloc (.cells #[.int .i64 0, .slice qa r2 qc] 43)) w.heap.size (.slice qa r2 qc) R2) := (ho5.le HF4.out.1.size).below (al1 _ _); have c5a := (HF5.out.blk 4 rfl).cell; have c5b := (HF5.out.blk 5 rfl).cell; clear ho5 hb5 c4a c4b)
    | (go_at_call 12; clear G2; refine (HDW1.out _ pa pc HF5.out.1 HQ5.out).mono ?_; rintro r w6 ⟨da, dc, rfl, ho6, hb6⟩; have HF6 : Hid (Fb w (w6.alloc (.cells #[.int .i64 0, .int .i64 1048576, .int .i64 0, .slice da f1 dc] 29)) [(w1.heap.size, #[.int .i64 tA, .int .i64 vA, .slice oa nA oc], 39), (w1.heap.size + 1, #[.int .i64 tB, .int .i64 vB, .slice na nB nc], 39), (w3.heap.size, #[.int .i64 tA, .int .i64 vA, .slice oa2 nA oc2], 39), (w3.heap.size + 1, #[.int .i64 tB, .int .i64 vB, .slice na2 nB nc2], 39), (w4.heap.size, #[.int .i64 0, .slice pa r1 pc], 43), (w5.heap.size, #[.int .i64 0, .slice qa r2 qc], 43), (w6.heap.size, #[.int .i64 0, .int .i64 1048576, .int .i64 0, .slice da f1 dc], 29)]) := (HF5.out.below hb6).new #[.int .i64 0, .int .i64 1048576, .int .i64 0, .slice da f1 dc] 29; have HO6 : Hid (OwnE (w6.alloc (.cells #[.int .i64 0, .int .i64 1048576, .int .i64 0, .slice da f1 dc] 29)) w.heap.size (.slice oa nA oc) LA) := (HO5.out.below hb6).below (al1 _ _); have HU6 : Hid (OwnE (w6.alloc (.cells #[.int .i64 0, .int .i64 1048576, .int .i64 0, .slice da f1 dc] 29)) w.heap.size (.slice na nB nc) LB) := (HU5.out.below hb6).below (al1 _ _); have HP6 : Hid (OwnR (w6.alloc (.cells #[.int .i64 0, .int .i64 1048576, .int .i64 0, .slice da f1 dc] 29)) w.heap.size (.slice qa r2 qc) R2) := (HP5.out.below hb6).below (al1 _ _); have HD6 : Hid (Own (w6.alloc (.cells #[.int .i64 0, .int .i64 1048576, .int .i64 0, .slice da f1 dc] 29)) w.heap.size (.slice da f1 dc) F1) := (ho6.le HF5.out.1.size).below (al1 _ _); have c6a := (HF6.out.blk 6 rfl).cell; clear ho6 hb6 c5a c5b)
    | (go_at_call 15; refine (HSY.out _ da dc HD6.out).mono ?_; rintro r w7 ⟨sa, sc, rfl, ho7, hb7⟩; have HF7 : Hid (Fb w (w7.alloc (.cells #[.int .i64 1048576, .int .i64 f1, .slice sa f1 sc] 24)) [(w1.heap.size, #[.int .i64 tA, .int .i64 vA, .slice oa nA oc], 39), (w1.heap.size + 1, #[.int .i64 tB, .int .i64 vB, .slice na nB nc], 39), (w3.heap.size, #[.int .i64 tA, .int .i64 vA, .slice oa2 nA oc2], 39), (w3.heap.size + 1, #[.int .i64 tB, .int .i64 vB, .slice na2 nB nc2], 39), (w4.heap.size, #[.int .i64 0, .slice pa r1 pc], 43), (w5.heap.size, #[.int .i64 0, .slice qa r2 qc], 43), (w6.heap.size, #[.int .i64 0, .int .i64 1048576, .int .i64 0, .slice da f1 dc], 29), (w7.heap.size, #[.int .i64 1048576, .int .i64 f1, .slice sa f1 sc], 24)]) := (HF6.out.below hb7).new #[.int .i64 1048576, .int .i64 f1, .slice sa f1 sc] 24; have HO7 : Hid (OwnE (w7.alloc (.cells #[.int .i64 1048576, .int .i64 f1, .slice sa f1 sc] 24)) w.heap.size (.slice oa nA oc) LA) := (HO6.out.below hb7).below (al1 _ _); have HU7 : Hid (OwnE (w7.alloc (.cells #[.int .i64 1048576, .int .i64 f1, .slice sa f1 sc] 24)) w.heap.size (.slice na nB nc) LB) := (HU6.out.below hb7).below (al1 _ _); have HP7 : Hid (OwnR (w7.alloc (.cells #[.int .i64 1048576, .int .i64 f1, .slice sa f1 sc] 24)) w.heap.size (.slice qa r2 qc) R2) := (HP6.out.below hb7).below (al1 _ _); have HD7 : Hid (Own (w7.alloc (.cells #[.int .i64 1048576, .int .i64 f1, .slice sa f1 sc] 24)) w.heap.size (.slice sa f1 sc) F1) := (ho7.le HF6.out.1.size).below (al1 _ _); have c7a := (HF7.out.blk 7 rfl).cell; have c7b := (HF7.out.blk 5 rfl).cell; clear ho7 hb7 c6a)
    | (go_at_call 12; refine (HDW2.out _ sa qa sc qc HF7.out.1 HD7.out HP7.out).mono ?_; rintro r w8 ⟨ea, ec, rfl, ho8, hb8⟩; have HF8 : Hid (Fb w (w8.alloc (.cells #[.int .i64 0, .int .i64 1048576, .int .i64 f1, .slice ea N ec] 29)) [(w1.heap.size, #[.int .i64 tA, .int .i64 vA, .slice oa nA oc], 39), (w1.heap.size + 1, #[.int .i64 tB, .int .i64 vB, .slice na nB nc], 39), (w3.heap.size, #[.int .i64 tA, .int .i64 vA, .slice oa2 nA oc2], 39), (w3.heap.size + 1, #[.int .i64 tB, .int .i64 vB, .slice na2 nB nc2], 39), (w4.heap.size, #[.int .i64 0, .slice pa r1 pc], 43), (w5.heap.size, #[.int .i64 0, .slice qa r2 qc], 43), (w6.heap.size, #[.int .i64 0, .int .i64 1048576, .int .i64 0, .slice da f1 dc], 29), (w7.heap.size, #[.int .i64 1048576, .int .i64 f1, .slice sa f1 sc], 24), (w8.heap.size, #[.int .i64 0, .int .i64 1048576, .int .i64 f1, .slice ea N ec], 29)]) := (HF7.out.below hb8).new #[.int .i64 0, .int .i64 1048576, .int .i64 f1, .slice ea N ec] 29; have HO8 : Hid (OwnE (w8.alloc (.cells #[.int .i64 0, .int .i64 1048576, .int .i64 f1, .slice ea N ec] 29)) w.heap.size (.slice oa nA oc) LA) := (HO7.out.below hb8).below (al1 _ _); have HU8 : Hid (OwnE (w8.alloc (.cells #[.int .i64 0, .int .i64 1048576, .int .i64 f1, .slice ea N ec] 29)) w.heap.size (.slice na nB nc) LB) := (HU7.out.below hb8).below (al1 _ _); have HD8 : Hid (Own (w8.alloc (.cells #[.int .i64 0, .int .i64 1048576, .int .i64 f1, .slice ea N ec] 29)) w.heap.size (.slice ea N ec) (F1 ++ F2)) := (ho8.le HF7.out.1.size).below (al1 _ _); have c8a := (HF8.out.blk 8 rfl).cell; have c8b := (HF8.out.blk 6 rfl).cell; have c8c := (HF8.out.blk 0 rfl).cell; have c8d := (HF8.out.blk 1 rfl).cell; clear ho8 hb8 c7a c7b)
    | (go_at_call 19; refine (common_any _ _ LA LB _ (HO8.out.es (by rw [← HnA.out]; unfold maxLen; omega)) (HU8.out.es (by rw [← HnB.out]; unfold maxLen; omega)) (by rw [← HnA.out]; omega) (by rw [← HnB.out]; omega)).mono ?_; rintro r w9 ⟨rfl, nd, hw9⟩; subst w9))
  obtain ⟨W0, hW0⟩ : ∃ W0, W0 = (w8.alloc (.cells #[.int .i64 0, .int .i64 1048576, .int .i64 f1, .slice ea N ec] 29)).drewN nd := ⟨_, rfl⟩
  have X3 : Hid (Blk W0 w1.heap.size #[.int .i64 tA, .int .i64 vA, .slice oa nA oc] 39) := (by rw [hW0]; exact (HF8.out.below (below_drewT _ _ nd)).blk 0 rfl : Blk W0 w1.heap.size #[.int .i64 tA, .int .i64 vA, .slice oa nA oc] 39)
  have X4 : Hid (Blk W0 (w1.heap.size + 1) #[.int .i64 tB, .int .i64 vB, .slice na nB nc] 39) := (by rw [hW0]; exact (HF8.out.below (below_drewT _ _ nd)).blk 1 rfl : Blk W0 (w1.heap.size + 1) #[.int .i64 tB, .int .i64 vB, .slice na nB nc] 39)
  have X10 : Hid (Blk W0 w7.heap.size #[.int .i64 1048576, .int .i64 f1, .slice sa f1 sc] 24) := (by rw [hW0]; exact (HF8.out.below (below_drewT _ _ nd)).blk 7 rfl : Blk W0 w7.heap.size #[.int .i64 1048576, .int .i64 f1, .slice sa f1 sc] 24)
  have X11 : Hid (Blk W0 w8.heap.size #[.int .i64 0, .int .i64 1048576, .int .i64 f1, .slice ea N ec] 29) := (by rw [hW0]; exact (HF8.out.below (below_drewT _ _ nd)).blk 8 rfl : Blk W0 w8.heap.size #[.int .i64 0, .int .i64 1048576, .int .i64 f1, .slice ea N ec] 29)
  have HOo : Hid (OwnE W0 w.heap.size (.slice oa nA oc) LA) := (by rw [hW0]; exact HO8.out.below (below_drewT _ _ nd) : OwnE W0 w.heap.size (.slice oa nA oc) LA)
  have HUo : Hid (OwnE W0 w.heap.size (.slice na nB nc) LB) := (by rw [hW0]; exact HU8.out.below (below_drewT _ _ nd) : OwnE W0 w.heap.size (.slice na nB nc) LB)
  have HDo : Hid (Own W0 w.heap.size (.slice ea N ec) (F1 ++ F2)) := (by rw [hW0]; exact HD8.out.below (below_drewT _ _ nd) : Own W0 w.heap.size (.slice ea N ec) (F1 ++ F2))
  have HB0 : Hid (Below w.heap.size w W0) := (by rw [hW0]; exact (HF8.out.below (below_drewT _ _ nd)).1 : Below w.heap.size w W0)
  rw [← hW0]
  clear hW0 HF8 HO8 HU8 HD8 HF7 HF6 HF5 HF4 HF3 HF2 HO2 HU2 HO3 HU3 HO4 HU4 HO5 HU5 HO6 HU6 HO7 HU7 HV3 HX3 HV4 HX4 HQ4 HQ5 HP5 HP6 HP7 HD6 HD7 c8a c8b c8c c8d HDW1 HDW2 HSY HI0 HI2 HDP HR1f HR2f kw kw2
  obtain ⟨kA, hkA⟩ : ∃ k, k = comK LA LB := ⟨_, rfl⟩
  rw [← hkA]
  have HkA : Hid (kA = comK LA LB) := hkA
  clear hkA
  have z3 := X3.out.lt
  have z4 := X4.out.lt
  have z10 := X10.out.lt
  have z11 := X11.out.lt
  go_wp2_with fail
  go_loopw [14] (fun iv wr => ∃ i : Nat, i ≤ 601 ∧ i ≤ f2 + 1 ∧ iv = .int .i64 i ∧ Below W0.heap.size W0 wr) (fun i _ => 601 - (intOf i).toNat)
  case atStart => exact ⟨0, by omega, by omega, rfl, Below.refl _ _⟩
  case round =>
    obtain ⟨i, hi1, hi2, rfl, hbr⟩ := hrel
    have HBr : Hid (Below W0.heap.size W0 wr) := hbr
    clear hbr
    have Y3 : Hid (Blk wr w1.heap.size #[.int .i64 tA, .int .i64 vA, .slice oa nA oc] 39) := X3.out.below HBr.out z3
    have Y4 : Hid (Blk wr (w1.heap.size + 1) #[.int .i64 tB, .int .i64 vB, .slice na nB nc] 39) := X4.out.below HBr.out z4
    have Y10 : Hid (Blk wr w7.heap.size #[.int .i64 1048576, .int .i64 f1, .slice sa f1 sc] 24) := X10.out.below HBr.out z10
    have Y11 : Hid (Blk wr w8.heap.size #[.int .i64 0, .int .i64 1048576, .int .i64 f1, .slice ea N ec] 29) := X11.out.below HBr.out z11
    have HBw : Hid (Below w.heap.size w wr) := HB0.out.trans (HBr.out.mono HB0.out.size)
    have HDr : Hid (Own wr w.heap.size (.slice ea N ec) (F1 ++ F2)) := HDo.out.below HBr.out
    have y11 := Y11.out.cell
    obtain ⟨b, hb⟩ : ∃ b : Bool, b = decide (i ≤ f2 ∧ i ≤ 600) := ⟨_, rfl⟩
    have Hb : Hid (b = decide (i ≤ f2 ∧ i ≤ 600)) := hb
    clear hb
    go_upto_region 19 with fail
    go_cut [89] (fun s wx => s = .bool b ∧ wx = wr)
    case first =>
      by_cases c1 : i ≤ f2
      · have d1 : (i : Int) ≤ (f2 : Int) := by omega
        by_cases c2 : i ≤ 600
        · have d2 : (i : Int) ≤ 600 := by omega
          have hb : b = true := by rw [Hb.out]; simp [c1, c2]
          have HBT : Hid (b = true) := hb
          clear hb c1 c2
          go_wp2_with fail
          go_meet
          exact ⟨by rw [HBT.out], rfl⟩
        · have d2 : ¬ (i : Int) ≤ 600 := by omega
          have hb : b = false := by rw [Hb.out]; simp [c2]
          have HBT : Hid (b = false) := hb
          clear hb c1 c2
          go_wp2_with fail
          go_meet
          exact ⟨by rw [HBT.out], rfl⟩
      · have d1 : ¬ (i : Int) ≤ (f2 : Int) := by omega
        have hb : b = false := by rw [Hb.out]; simp [c1]
        have HBT : Hid (b = false) := hb
        clear hb c1
        go_wp2_with fail
        go_meet
        exact ⟨by rw [HBT.out], rfl⟩
    case rest =>
      obtain ⟨rfl, rfl⟩ := hcut
      obtain ⟨W5, hW5⟩ : ∃ W5, W5 = wc := ⟨_, rfl⟩
      subst hW5
      cases b with
      | false =>
        clear Hb
        go_upto_region 31 with (first
          | (go_at_call 14; refine (HCR.out _ ea ec f2 (by omega) HDr.out).mono ?_; rintro r w10 ⟨xa, xc, xn, rfl, hxn, ho10, hb10⟩; have HXn : Hid (xn = (F1 ++ F2.take f2).length) := hxn; have HX10 : Hid (Own w10 w.heap.size (.slice xa xn xc) (F1 ++ F2.take f2)) := ho10.le HBw.out.size; have HB10 : Hid (Below W5.heap.size W5 w10) := hb10; clear ho10 hb10 hxn)
          | (go_at_call 20; refine (HRS.out _ xa xc f2 xn HXn.out (HBw.out.trans (HB10.out.mono HBw.out.size)) HX10.out).mono ?_; rintro r w11 ⟨Y, x, y, LL, ya, ga, yc, gc, n4, rfl, hY1, hY2, hn4, hn4b, ho11, hok, hfin, hb11⟩; have HL11 : Hid (OwnE w11 w.heap.size (.slice ga n4 gc) LL) := ho11.le (Nat.le_trans HBw.out.size HB10.out.size); have HB11 : Hid (Below w10.heap.size w10 w11) := hb11; have Hn4 : Hid (n4 = LL.length) := hn4; have HOk : Hid (TornOk tA vA LA tB vB LB ⟨x, y, LL⟩) := hok; have HFin : Hid (x = tB ∧ y = vB ∧ LL = LB) := hfin (Nat.le_refl _); clear ho11 hb11 hn4 hok hfin))
        obtain ⟨rfl, rfl, rfl⟩ := HFin.out
        have Y12 : Hid (Below W5.heap.size W5 (w11.alloc (.cells #[.int .i64 0, .int .i64 1048576, .int .i64 Y, .slice ya Y yc, .int .i64 x, .int .i64 y, .slice ga n4 gc] 47))) := (HB10.out.trans (HB11.out.mono HB10.out.size)).alloc (by have := HB10.out.size; have := HB11.out.size; omega) _
        obtain ⟨W12, hW12⟩ : ∃ W12, W12 = (w11.alloc (.cells #[.int .i64 0, .int .i64 1048576, .int .i64 Y, .slice ya Y yc, .int .i64 x, .int .i64 y, .slice ga n4 gc] 47)) := ⟨_, rfl⟩
        have X18 : Hid (Blk W12 w11.heap.size #[.int .i64 0, .int .i64 1048576, .int .i64 Y, .slice ya Y yc, .int .i64 x, .int .i64 y, .slice ga n4 gc] 47) := (by rw [hW12]; exact Blk.new _ _ _ : Blk W12 w11.heap.size #[.int .i64 0, .int .i64 1048576, .int .i64 Y, .slice ya Y yc, .int .i64 x, .int .i64 y, .slice ga n4 gc] 47)
        have HL12 : Hid (OwnE W12 w.heap.size (.slice ga n4 gc) LL) := (by rw [hW12]; exact HL11.out.below (al1 _ _) : OwnE W12 w.heap.size (.slice ga n4 gc) LL)
        rw [← hW12] at Y12 ⊢
        clear hW12
        have x18 := X18.out.cell
        have x4 := (Y4.out.below Y12.out Y4.out.lt).cell
        have HU12 : Hid (OwnE W12 w.heap.size (.slice na nB nc) LL) := (HUo.out.below HBr.out).below Y12.out
        have HSm : Hid (∀ u, u = W12 → Calls Tryd.prog 21 #[.slice ga n4 gc, .slice na nB nc] u fun e w' => e = .returned (.bool true) ∧ ∃ n, w' = u.drewN n) := fun u hu => by
          subst hu
          have hx := sameLog_any _ _ LL LL _ (HL12.out.es (by rw [← Hn4.out]; unfold maxLen; omega)) (HU12.out.es (by rw [← Hn4.out]; unfold maxLen; omega)) (by rw [← Hn4.out]; omega) (by rw [← Hn4.out]; omega)
          rw [sameB_self] at hx
          exact hx
        have hx1 : (x == x) = true := by simp
        have hy1 : (y == y) = true := by simp
        go_wp2_with (go_at_call 21; refine (HSm.out _ rfl).mono ?_; rintro r wq ⟨rfl, mq, hwq⟩; subst wq)
        go_ret
        exact ⟨rfl, (HBw.out.trans (Y12.out.mono HBw.out.size)).trans (below_drewT _ _ _)⟩
      | true =>
        have hle : i ≤ f2 ∧ i ≤ 600 := by have := Hb.out; simpa using this.symm
        clear Hb
        obtain ⟨hle1, hle2⟩ := hle
        go_upto_region 25 with (first
          | (go_at_call 14; refine (HCR.out _ ea ec i (by omega) HDr.out).mono ?_; rintro r w10 ⟨xa, xc, xn, rfl, hxn, ho10, hb10⟩; have HXn : Hid (xn = (F1 ++ F2.take i).length) := hxn; have HX10 : Hid (Own w10 w.heap.size (.slice xa xn xc) (F1 ++ F2.take i)) := ho10.le HBw.out.size; have HB10 : Hid (Below W5.heap.size W5 w10) := hb10; clear ho10 hb10 hxn)
          | (go_at_call 20; refine (HRS.out _ xa xc i xn HXn.out (HBw.out.trans (HB10.out.mono HBw.out.size)) HX10.out).mono ?_; rintro r w11 ⟨Y, x, y, LL, ya, ga, yc, gc, n4, rfl, hY1, hY2, hn4, hn4b, ho11, hok, hfin, hb11⟩; have HL11 : Hid (OwnE w11 w.heap.size (.slice ga n4 gc) LL) := ho11.le (Nat.le_trans HBw.out.size HB10.out.size); have HB11 : Hid (Below w10.heap.size w10 w11) := hb11; have Hn4 : Hid (n4 = LL.length) := hn4; have HOk : Hid (TornOk tA vA LA tB vB LB ⟨x, y, LL⟩) := hok; have HFin : Hid (True) := trivial; have k10 := ((((Y10.out.below HB10.out Y10.out.lt).below HB11.out (Y10.out.below HB10.out Y10.out.lt).lt).alloc (.cells #[.int .i64 0, .int .i64 1048576, .int .i64 Y, .slice ya Y yc, .int .i64 x, .int .i64 y, .slice ga n4 gc] 47)).alloc (.cells #[.int .i64 x, .int .i64 y, .slice ga n4 gc] 39)).cell; have hYd : decide ((Y : Int) < (f1 : Int)) = false := decide_eq_false (by omega); have hYe : ¬ (Y : Int) < (f1 : Int) := (by omega); clear ho11 hb11 hn4 hok hfin))
        obtain ⟨W12, hW12⟩ : ∃ W12, W12 = ((w11.alloc (.cells #[.int .i64 0, .int .i64 1048576, .int .i64 Y, .slice ya Y yc, .int .i64 x, .int .i64 y, .slice ga n4 gc] 47)).alloc (.cells #[.int .i64 x, .int .i64 y, .slice ga n4 gc] 39)) := ⟨_, rfl⟩
        have Y12 : Hid (Below W5.heap.size W5 W12) := (by rw [hW12]; exact (HB10.out.trans (HB11.out.mono HB10.out.size)).trans ((al2 _ _ _).mono (Nat.le_trans HB10.out.size HB11.out.size)) : Below W5.heap.size W5 W12)
        have X16 : Hid (Blk W12 (w11.heap.size + 1) #[.int .i64 x, .int .i64 y, .slice ga n4 gc] 39) := (by rw [hW12]; exact Blk.new' _ _ _ (by simp) : Blk W12 (w11.heap.size + 1) #[.int .i64 x, .int .i64 y, .slice ga n4 gc] 39)
        have HL12 : Hid (OwnE W12 w.heap.size (.slice ga n4 gc) LL) := (by rw [hW12]; exact HL11.out.below (al2 _ _ _) : OwnE W12 w.heap.size (.slice ga n4 gc) LL)
        rw [← hW12]
        clear hW12 k10 HL11
        have x16 := X16.out.cell
        have x3 := (Y3.out.below Y12.out Y3.out.lt).cell
        have x4 := (Y4.out.below Y12.out Y4.out.lt).cell
        have HO12 : Hid (OwnE W12 w.heap.size (.slice oa nA oc) LA) := (HOo.out.below HBr.out).below Y12.out
        have HU12 : Hid (OwnE W12 w.heap.size (.slice na nB nc) LB) := (HUo.out.below HBr.out).below Y12.out
        go_cut [145] (fun s wx => s = .bool false ∧ wx = W12)
        case first =>
          have hT := HOk.out.1
          dsimp only at hT
          have hBB : x ≠ tA ∨ y ≠ vA → (x != tB) = false ∧ (y != vB) = false := fun hh => by
            rcases hT with ⟨q1, q2⟩ | ⟨q1, q2⟩
            · rcases hh with hh | hh
              · exact absurd q1 hh
              · exact absurd q2 hh
            · rw [q1, q2]; simp
          clear hT
          cases hA : (x != tA)
          · cases hB : (y != vA)
            · clear hBB
              go_wp2_with fail
              go_meet
              exact ⟨rfl, rfl⟩
            · obtain ⟨hC, hD⟩ := hBB (.inr (by simpa using hB))
              go_wp2_with fail
              go_meet
              exact ⟨rfl, rfl⟩
          · obtain ⟨hC, hD⟩ := hBB (.inl (by simpa using hA))
            go_wp2_with fail
            go_meet
            exact ⟨rfl, rfl⟩
        case rest =>
          obtain ⟨rfl, rfl⟩ := hcut
          obtain ⟨W13, hW13⟩ : ∃ W13, W13 = wc := ⟨_, rfl⟩
          subst hW13
          obtain ⟨K3, hK3⟩ : ∃ k, k = comK LL LB := ⟨_, rfl⟩
          have HCm : Hid (∀ m : Nat, Calls Tryd.prog 19 #[.slice ga n4 gc, .slice na nB nc] (W13.drewN m) fun e w' => e = .returned (.int .i64 (K3 : Nat)) ∧ ∃ k, w' = (W13.drewN m).drewN k) := fun m => by
            rw [hK3]
            exact common_any _ _ LL LB _ ((HL12.out.below (below_drewT _ _ m)).es (by rw [← Hn4.out]; unfold maxLen; omega)) ((HU12.out.below (below_drewT _ _ m)).es (by rw [← HnB.out]; unfold maxLen; omega)) (by rw [← Hn4.out]; omega) (by rw [← HnB.out]; omega)
          have HK3 : Hid (K3 = comK LL LB) := hK3
          clear hK3
          obtain ⟨P, hP⟩ : ∃ P : Bool, P = (K3 == n4 && decide (kA ≤ n4)) := ⟨_, rfl⟩
          have HP : Hid (P = (K3 == n4 && decide (kA ≤ n4))) := hP
          clear hP
          go_upto_region 27 with fail
          go_cut [17] (fun s wx => s = .bool P ∧ ∃ k, wx = W13.drewN k)
          case first =>
            by_cases c1 : K3 = n4
            · have d1 : ((K3 : Int) == (n4 : Int)) = true := by rw [c1]; simp
              by_cases c2 : kA ≤ n4
              · have d2 : decide ((kA : Int) ≤ (n4 : Int)) = true := decide_eq_true (by omega)
                have d3 : (kA : Int) ≤ (n4 : Int) := by omega
                have hP : Hid (P = true) := (by rw [HP.out]; simp [c1, c2] : P = true)
                clear c1 c2
                go_quiet ((go_at_call 19; exact Calls.quiet_of (HCm.out _)))
                go_wp2
                go_meet
                exact ⟨by rw [hP.out], _, rfl⟩
              · have d2 : decide ((kA : Int) ≤ (n4 : Int)) = false := decide_eq_false (by omega)
                have d3 : ¬ (kA : Int) ≤ (n4 : Int) := by omega
                have hP : Hid (P = false) := (by rw [HP.out]; simp [c2] : P = false)
                clear c1 c2
                go_quiet ((go_at_call 19; exact Calls.quiet_of (HCm.out _)))
                go_wp2
                go_meet
                exact ⟨by rw [hP.out], _, rfl⟩
            · have d1 : ((K3 : Int) == (n4 : Int)) = false := by rw [beq_eq_false_iff_ne]; omega
              have hP : Hid (P = false) := (by rw [HP.out]; simp [c1] : P = false)
              clear c1
              go_quiet ((go_at_call 19; exact Calls.quiet_of (HCm.out _)))
              go_wp2
              go_meet
              exact ⟨by rw [hP.out], _, rfl⟩
          case rest =>
            obtain ⟨rfl, kq, rfl⟩ := hcut
            have hPT : sameB LL LA = false → P = true := fun hs => by
              rcases HOk.out.2 with q | ⟨q1, q2⟩
              · have q' : LL = LA := q
                rw [q', sameB_self] at hs
                cases hs
              · have q1' : comK LL LB = LL.length := q1
                have q2' : comK LA LB ≤ LL.length := q2
                rw [HP.out, HK3.out, HkA.out, Hn4.out, q1']
                simpa using q2'
            have HSm : Hid (Calls Tryd.prog 21 #[.slice ga n4 gc, .slice oa nA oc] (W13.drewN kq) fun e w' => e = .returned (.bool (sameB LL LA)) ∧ ∃ n, w' = (W13.drewN kq).drewN n) := sameLog_any _ _ LL LA _ ((HL12.out.below (below_drewT _ _ kq)).es (by rw [← Hn4.out]; unfold maxLen; omega)) ((HO12.out.below (below_drewT _ _ kq)).es (by rw [← HnA.out]; unfold maxLen; omega)) (by rw [← Hn4.out]; omega) (by rw [← HnA.out]; omega)
            generalize sameB LL LA = SB at *
            cases SB with
            | true =>
              clear hPT
              go_wp2_with (go_at_call 21; refine HSm.out.mono ?_; rintro r wq ⟨rfl, mq, hwq⟩; subst wq)
              go_roundw
              case rel => exact ⟨i + 1, by omega, by omega, by go_num, (HBr.out.trans (Y12.out.mono HBr.out.size)).trans (below_drewT _ _ _)⟩
              case measure => simp [intOf]; omega
            | false =>
              have hP1 := hPT rfl
              clear hPT
              subst hP1
              go_wp2_with (go_at_call 21; refine HSm.out.mono ?_; rintro r wq ⟨rfl, mq, hwq⟩; subst wq)
              go_roundw
              case rel => exact ⟨i + 1, by omega, by omega, by go_num, (HBr.out.trans (Y12.out.mono HBr.out.size)).trans (below_drewT _ _ _)⟩
              case measure => simp [intOf]; omega
end Go.Proofs.YtjoflnnomebkpaaDoor
