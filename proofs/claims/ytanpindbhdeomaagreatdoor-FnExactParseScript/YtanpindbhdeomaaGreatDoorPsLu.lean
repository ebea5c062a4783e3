/-
  spec.l7line: the setup's line, the draws' line.
-/
import Derived.Test.YtanpindbhdeomaaGreatDoorPsLn
namespace Go.Proofs.YtanpindbhdeomaaGreatDoor
open Go.RowKit
set_option linter.unusedVariables false
set_option linter.unusedSimpArgs false

theorem words_row {z : World} {B : Nat} {v : Value} {ws : List (List UInt8)} (h : OwnG txC 1 9 z B v (ws.map sOf)) (h1 : 1 ≤ ws.length) (hl : ws.length ≤ 70000) :
    ∃ q cq, v = .slice (some ⟨q, 0, none⟩) ws.length cq ∧ ws.length ≤ cq ∧ q < z.heap.size ∧ B ≤ q ∧ z.cell? ⟨q, 0, none⟩ = some (.string (sOf (ws.getD 0 []))) ∧ Sl txC 1 z (.slice (some ⟨q, 1, none⟩) (ws.length - 1) (cq - 1)) (ws.tail.map sOf) := by
  have hml : (ws.map sOf).length = ws.length := List.length_map ..
  obtain ⟨q, cq, rfl⟩ := h.shape' (by omega)
  rw [hml] at h ⊢
  obtain ⟨hq1, hq2⟩ := h.lts q rfl
  have hsl := h.sl txLaw (by rw [hml]; unfold maxLen; omega)
  refine ⟨q, cq, rfl, h.cap _ _ _ rfl, hq2, hq1, ?_, ?_⟩
  · obtain ⟨-, a, c, e, hc⟩ := hsl
    simp only [Value.slice.injEq] at e
    obtain ⟨rfl, -, rfl⟩ := e
    obtain ⟨b, o, e, hj⟩ := hc 0 (by omega)
    cases e
    have h2 := hj 0 (by omega) 0 _ rfl
    have e0 : ws.getD 0 [] = ws[0] := by rw [List.getD_eq_getElem?_getD, List.getElem?_eq_getElem (by omega)]; rfl
    rw [e0]
    simpa using h2
  · have := sl_tail hsl
    simpa using this
theorem row_ints {z : World} {B : Nat} {v : Value} {L : List Int} (h : OwnG inC 1 3 z B v L) (h1 : 0 < L.length) (hl : L.length ≤ 70000) :
    ∃ g cg, v = .slice (some ⟨g, 0, none⟩) L.length cg ∧ g < z.heap.size ∧ B ≤ g ∧ ∀ j (h : j < L.length), z.cell? ⟨g, j, none⟩ = some (.int .i64 L[j]) := by
  obtain ⟨g, cg, rfl⟩ := h.shape' h1
  obtain ⟨hq1, hq2⟩ := h.lts g rfl
  have hsl := h.sl inLaw (by unfold maxLen; omega)
  refine ⟨g, cg, rfl, hq2, hq1, fun j hj => ?_⟩
  obtain ⟨-, a, c, e, hc⟩ := hsl
  simp only [Value.slice.injEq] at e
  obtain ⟨rfl, -, rfl⟩ := e
  obtain ⟨b, o, e, hj'⟩ := hc 0 h1
  cases e
  have h2 := hj' j hj 0 _ rfl
  simpa using h2
def clW : List UInt8 := [99, 108, 117, 115, 116, 101, 114]
def drW : List UInt8 := [100, 114, 97, 119, 115]
theorem clW_list : (sOf clW).toList = [99, 108, 117, 115, 116, 101, 114] := by simp [sOf, clW, go_sem]
theorem drW_list : (sOf drW).toList = [100, 114, 97, 119, 115] := by simp [sOf, drW, go_sem]
def zU : Sup := ⟨0, 0, 0, 0, 0, 0⟩
def setM (ws : List (List UInt8)) : Int × Sup :=
  if ws.getD 0 [] ≠ clW then (4, zU) else if ws.length ≠ 7 then (5, zU) else if ws.tail.all numOk = false then (6, zU) else if setOk (setP ws) = true then (0, setP ws) else (7, zU)
def setL (l : List UInt8) : Int × Sup := if (spl 32 l).all wordB = false then (3, zU) else setM (spl 32 l)
theorem setP_row {ws : List (List UInt8)} (h : ws.length = 7) : ws.tail.map numV = [(setP ws).s, (setP ws).c, (setP ws).el, (setP ws).b, (setP ws).r, (setP ws).d] := by
  match ws, h with
  | [a, b, c, d, e, f, g], _ => rfl
set_option maxHeartbeats 8000000 in
set_option maxRecDepth 100000 in
theorem l7lineU_any (u : Sup) (ad : Option Addr) (nd cd : Nat) (av : Option Addr) (nv cv : Nat) (l : List UInt8) (hl : l.length ≤ 65536) (w : World) :
    Calls Tryz.prog 9 #[.agg #[.int .i64 u.s, .int .i64 u.c, .int .i64 u.el, .int .i64 u.b, .int .i64 u.r, .int .i64 u.d, .slice ad nd cd, .slice av nv cv], .int .i64 1, .string (sOf l)] w fun e w' => ∃ U : Sup, e = .returned (.tuple #[.agg #[.int .i64 U.s, .int .i64 U.c, .int .i64 U.el, .int .i64 U.b, .int .i64 U.r, .int .i64 U.d, .slice ad nd cd, .slice av nv cv], .int .i64 (setL l).1]) ∧ ((setL l).1 = 0 → U = (setL l).2) ∧ Below w.heap.size w w' := by
  obtain ⟨QL, hQL⟩ : ∃ q, q = setL l := ⟨_, rfl⟩
  rw [← hQL]
  have HQ : Hid (QL = setL l) := hQL
  clear hQL
  obtain ⟨qc, qx⟩ := QL
  dsimp only
  obtain ⟨okv, hokv⟩ : ∃ q, q = (spl 32 l).all wordB := ⟨_, rfl⟩
  have HSp : Hid (∀ z, Calls Tryz.prog 16 #[.string (sOf l)] z fun e w' => ∃ v, e = .returned (.tuple #[v, .bool okv]) ∧ (okv = true → OwnG txC 1 9 w' z.heap.size v ((spl 32 l).map sOf)) ∧ Below z.heap.size z w') := fun z => by rw [hokv]; exact l7split_any l hl z
  have HQ2 : Hid ((qc, qx) = if okv = false then (3, zU) else setM (spl 32 l)) := by unfold Hid; rw [HQ.out, hokv]; rfl
  have HWo : Hid (okv = true → (spl 32 l).length ≤ 70000 ∧ 1 ≤ (spl 32 l).length ∧ ∀ x ∈ spl 32 l, x.length ≤ 65536 ∧ x ≠ []) := fun h => words_ok hl (hokv.symm.trans h)
  clear HQ hokv
  have G1 : Hid True := trivial
  have G2 : Hid True := trivial
  generalize spl 32 l = ws at *
  generalize sOf l = LS at *
  cases okv
  · obtain ⟨rfl, rfl⟩ := Prod.mk.inj (HQ2.out.trans (if_pos rfl))
    clear HQ2
    go_enter Tryz.func9, Tryz.ntmps9
    go_wp2_with (first
      | (go_at_call 16; refine (HSp.out _).mono ?_; rintro e w5 ⟨v5, rfl, hO5, hb5⟩; have BS5 : Hid (Blk w5 w.heap.size #[.int .i64 u.s, .int .i64 u.c, .int .i64 u.el, .int .i64 u.b, .int .i64 u.r, .int .i64 u.d, .slice ad nd cd, .slice av nv cv] 27) := ((Blk.new w _ _).alloc _).below hb5 (by simp <;> omega); have BR5 : Hid (Blk w5 (w.heap.size + 1) #[.int .i64 0, .int .i64 0, .int .i64 0, .int .i64 0, .int .i64 0, .int .i64 0, .slice none 0 0, .slice none 0 0] 27) := (Blk.new' _ _ _ (by simp)).below hb5 (by simp); have HB5 : Hid (Below w.heap.size w w5) := (((Below.refl _ _).alloc (Nat.le_refl _) _).alloc (by simp) _).trans (hb5.mono (by simp <;> omega)); have hz5 : w.heap.size + 2 ≤ w5.heap.size := (by have h9 := hb5.size; simp at h9; omega); clear hb5 hO5)
      | (have hBA := G1; refine gate_ld 27 (.tmp 3) rfl ?_; clear hBA; refine wpl_load_blk rfl 27 (.tmp 3) rfl w.heap.size rfl BS5.out Tryz.underlying27 rfl sizeScP rfl ?_; clear G1)
      | (have hBA := G2; refine gate_st 27 (.tmp 6) _ rfl ?_; clear hBA; refine wpl_store_blk rfl 27 (.tmp 6) _ rfl (w.heap.size + 1) rfl rfl BR5.out sizeScP rfl rfl (by simp [Value.oneCell']) ?_; clear G2))
    have cb := (BR5.out.row #[.int .i64 u.s, .int .i64 u.c, .int .i64 u.el, .int .i64 u.b, .int .i64 u.r, .int .i64 u.d, .slice ad nd cd, .slice av nv cv]).cell
    exact bodyPost_ret (v := .tuple #[.agg #[.int .i64 u.s, .int .i64 u.c, .int .i64 u.el, .int .i64 u.b, .int .i64 u.r, .int .i64 u.d, .slice ad nd cd, .slice av nv cv], .int .i64 3]) (by simp [results, Tryz.results9, go_sem, cb]) rfl ⟨u, rfl, fun h => absurd h (by decide), below_row HB5.out (by omega) _⟩
  obtain ⟨hwl, hw1, hww⟩ := HWo.out rfl
  have HQ3 : Hid ((qc, qx) = setM ws) := HQ2.out.trans (if_neg (by decide))
  clear HQ2 HWo
  obtain ⟨n, hn⟩ : ∃ n, n = ws.length := ⟨_, rfl⟩
  obtain ⟨S0, hS0⟩ : ∃ S, S = sOf (ws.getD 0 []) := ⟨_, rfl⟩
  have HWR : Hid (∀ z B v, OwnG txC 1 9 z B v (ws.map sOf) → ∃ q cq, v = .slice (some ⟨q, 0, none⟩) n cq ∧ n ≤ cq ∧ q < z.heap.size ∧ B ≤ q ∧ z.cell? ⟨q, 0, none⟩ = some (.string S0) ∧ Sl txC 1 z (.slice (some ⟨q, 1, none⟩) (n - 1) (cq - 1)) (ws.tail.map sOf)) := fun z B v h => by rw [hn, hS0]; exact words_row h hw1 hwl
  have HNu : Hid (∀ z v, Sl txC 1 z v (ws.tail.map sOf) → Calls Tryz.prog 18 #[v] z fun e w' => ∃ v', e = .returned (.tuple #[v', .bool (ws.tail.all numOk)]) ∧ (ws.tail.all numOk = true → OwnG inC 1 3 w' z.heap.size v' (ws.tail.map numV)) ∧ Below z.heap.size z w') := fun z v h => l7numbers_any v ws.tail z h (by rw [List.length_tail]; omega) (fun x hx => (hww x (List.mem_of_mem_tail hx)).1)
  have h0n : 1 ≤ n := by omega
  have h0i : (0 : Int) < (n : Int) := by omega
  by_cases h4 : ws.getD 0 [] = clW
  case neg =>
    obtain ⟨rfl, rfl⟩ := Prod.mk.inj (HQ3.out.trans (if_pos h4))
    have hS4 : (S0.toList == (sOf clW).toList) = false := by
      rw [beq_eq_false_iff_ne, hS0]
      exact fun e => h4 (sOf_inj e)
    have hS5 : ¬ S0.toList = [99, 108, 117, 115, 116, 101, 114] := by rw [← clW_list]; simpa using hS4
    clear HQ3 hn hS0 h4 hS4
    go_enter Tryz.func9, Tryz.ntmps9
    go_wp2_with (first
      | (go_at_call 16; refine (HSp.out _).mono ?_; rintro e w5 ⟨v5, rfl, hO5, hb5⟩; have BS5 : Hid (Blk w5 w.heap.size #[.int .i64 u.s, .int .i64 u.c, .int .i64 u.el, .int .i64 u.b, .int .i64 u.r, .int .i64 u.d, .slice ad nd cd, .slice av nv cv] 27) := ((Blk.new w _ _).alloc _).below hb5 (by simp <;> omega); have BR5 : Hid (Blk w5 (w.heap.size + 1) #[.int .i64 0, .int .i64 0, .int .i64 0, .int .i64 0, .int .i64 0, .int .i64 0, .slice none 0 0, .slice none 0 0] 27) := (Blk.new' _ _ _ (by simp)).below hb5 (by simp); have HB5 : Hid (Below w.heap.size w w5) := (((Below.refl _ _).alloc (Nat.le_refl _) _).alloc (by simp) _).trans (hb5.mono (by simp <;> omega)); have hz5 : w.heap.size + 2 ≤ w5.heap.size := (by have h9 := hb5.size; simp at h9; omega); obtain ⟨q, cq, rfl, hcq, hql, hqg, hc0, hsl5⟩ := HWR.out _ _ _ (hO5 (by simp)); have HSl5 : Hid (Sl txC 1 w5 _ (ws.tail.map sOf)) := hsl5; clear hsl5; clear hb5 hO5)
      | (have hBA := G1; refine gate_ld 27 (.tmp 3) rfl ?_; clear hBA; refine wpl_load_blk rfl 27 (.tmp 3) rfl w.heap.size rfl BS5.out Tryz.underlying27 rfl sizeScP rfl ?_; clear G1)
      | (have hBA := G2; refine gate_st 27 (.tmp 6) _ rfl ?_; clear hBA; refine wpl_store_blk rfl 27 (.tmp 6) _ rfl (w.heap.size + 1) rfl rfl BR5.out sizeScP rfl rfl (by simp [Value.oneCell']) ?_; clear G2))
    have cb := (BR5.out.row #[.int .i64 u.s, .int .i64 u.c, .int .i64 u.el, .int .i64 u.b, .int .i64 u.r, .int .i64 u.d, .slice ad nd cd, .slice av nv cv]).cell
    exact bodyPost_ret (v := .tuple #[.agg #[.int .i64 u.s, .int .i64 u.c, .int .i64 u.el, .int .i64 u.b, .int .i64 u.r, .int .i64 u.d, .slice ad nd cd, .slice av nv cv], .int .i64 4]) (by simp [results, Tryz.results9, go_sem, cb]) rfl ⟨u, rfl, fun h => absurd h (by decide), below_row HB5.out (by omega) _⟩
  have HQ4 : Hid ((qc, qx) = _) := HQ3.out.trans (if_neg (fun h => h h4))
  rw [h4] at hS0
  have hS5 : S0.toList = [99, 108, 117, 115, 116, 101, 114] := by rw [hS0]; exact clW_list
  clear HQ3 h4 hS0
  by_cases h5 : ws.length = 7
  case neg =>
    obtain ⟨rfl, rfl⟩ := Prod.mk.inj (HQ4.out.trans (if_pos h5))
    have hn5' : ¬ (n : Int) = 7 := by rw [hn]; omega
    clear HQ4 hn h5
    go_enter Tryz.func9, Tryz.ntmps9
    go_wp2_with (first
      | (go_at_call 16; refine (HSp.out _).mono ?_; rintro e w5 ⟨v5, rfl, hO5, hb5⟩; have BS5 : Hid (Blk w5 w.heap.size #[.int .i64 u.s, .int .i64 u.c, .int .i64 u.el, .int .i64 u.b, .int .i64 u.r, .int .i64 u.d, .slice ad nd cd, .slice av nv cv] 27) := ((Blk.new w _ _).alloc _).below hb5 (by simp <;> omega); have BR5 : Hid (Blk w5 (w.heap.size + 1) #[.int .i64 0, .int .i64 0, .int .i64 0, .int .i64 0, .int .i64 0, .int .i64 0, .slice none 0 0, .slice none 0 0] 27) := (Blk.new' _ _ _ (by simp)).below hb5 (by simp); have HB5 : Hid (Below w.heap.size w w5) := (((Below.refl _ _).alloc (Nat.le_refl _) _).alloc (by simp) _).trans (hb5.mono (by simp <;> omega)); have hz5 : w.heap.size + 2 ≤ w5.heap.size := (by have h9 := hb5.size; simp at h9; omega); obtain ⟨q, cq, rfl, hcq, hql, hqg, hc0, hsl5⟩ := HWR.out _ _ _ (hO5 (by simp)); have HSl5 : Hid (Sl txC 1 w5 _ (ws.tail.map sOf)) := hsl5; clear hsl5; clear hb5 hO5)
      | (have hBA := G1; refine gate_ld 27 (.tmp 3) rfl ?_; clear hBA; refine wpl_load_blk rfl 27 (.tmp 3) rfl w.heap.size rfl BS5.out Tryz.underlying27 rfl sizeScP rfl ?_; clear G1)
      | (have hBA := G2; refine gate_st 27 (.tmp 6) _ rfl ?_; clear hBA; refine wpl_store_blk rfl 27 (.tmp 6) _ rfl (w.heap.size + 1) rfl rfl BR5.out sizeScP rfl rfl (by simp [Value.oneCell']) ?_; clear G2))
    have cb := (BR5.out.row #[.int .i64 u.s, .int .i64 u.c, .int .i64 u.el, .int .i64 u.b, .int .i64 u.r, .int .i64 u.d, .slice ad nd cd, .slice av nv cv]).cell
    exact bodyPost_ret (v := .tuple #[.agg #[.int .i64 u.s, .int .i64 u.c, .int .i64 u.el, .int .i64 u.b, .int .i64 u.r, .int .i64 u.d, .slice ad nd cd, .slice av nv cv], .int .i64 5]) (by simp [results, Tryz.results9, go_sem, cb]) rfl ⟨u, rfl, fun h => absurd h (by decide), below_row HB5.out (by omega) _⟩
  obtain rfl : n = 7 := by omega
  have HQ5 : Hid ((qc, qx) = if ws.tail.all numOk = false then (6, zU) else if setOk (setP ws) = true then (0, setP ws) else (7, zU)) := HQ4.out.trans (if_neg (fun h => h h5))
  have HR7 : Hid (ws.tail.map numV = [(setP ws).s, (setP ws).c, (setP ws).el, (setP ws).b, (setP ws).r, (setP ws).d]) := setP_row h5
  clear HQ4 hn h5 hwl hw1 hww
  have hcq7 : ∀ cq : Nat, 7 ≤ cq → (7 : Int) ≤ (cq : Int) := fun cq h => by omega
  have hcq8 : ∀ cq : Nat, 7 ≤ cq → ¬ cq = 1 := fun cq h => by omega
  generalize setP ws = m at *
  generalize ws.tail = T at *
  cases hall : T.all numOk
  · obtain ⟨rfl, rfl⟩ := Prod.mk.inj (HQ5.out.trans (if_pos hall))
    rw [hall] at HNu
    clear HQ5 hall HR7
    go_enter Tryz.func9, Tryz.ntmps9
    go_wp2_with (first
      | (go_at_call 16; refine (HSp.out _).mono ?_; rintro e w5 ⟨v5, rfl, hO5, hb5⟩; have BS5 : Hid (Blk w5 w.heap.size #[.int .i64 u.s, .int .i64 u.c, .int .i64 u.el, .int .i64 u.b, .int .i64 u.r, .int .i64 u.d, .slice ad nd cd, .slice av nv cv] 27) := ((Blk.new w _ _).alloc _).below hb5 (by simp <;> omega); have BR5 : Hid (Blk w5 (w.heap.size + 1) #[.int .i64 0, .int .i64 0, .int .i64 0, .int .i64 0, .int .i64 0, .int .i64 0, .slice none 0 0, .slice none 0 0] 27) := (Blk.new' _ _ _ (by simp)).below hb5 (by simp); have HB5 : Hid (Below w.heap.size w w5) := (((Below.refl _ _).alloc (Nat.le_refl _) _).alloc (by simp) _).trans (hb5.mono (by simp <;> omega)); have hz5 : w.heap.size + 2 ≤ w5.heap.size := (by have h9 := hb5.size; simp at h9; omega); obtain ⟨q, cq, rfl, hcq, hql, hqg, hc0, hsl5⟩ := HWR.out _ _ _ (hO5 (by simp)); have HSl5 : Hid (Sl txC 1 w5 _ (T.map sOf)) := hsl5; clear hsl5; have hcqi : (7 : Int) ≤ (cq : Int) := (by omega); have hcq1 := hcq8 cq (by omega); clear hb5 hO5)
      | (go_at_call 18; refine (HNu.out _ _ HSl5.out).mono ?_; rintro e w6 ⟨v6, rfl, hO6, hb6⟩; have BS6 : Hid (Blk w6 w.heap.size #[.int .i64 u.s, .int .i64 u.c, .int .i64 u.el, .int .i64 u.b, .int .i64 u.r, .int .i64 u.d, .slice ad nd cd, .slice av nv cv] 27) := BS5.out.below hb6 BS5.out.lt; have BR6 : Hid (Blk w6 (w.heap.size + 1) #[.int .i64 0, .int .i64 0, .int .i64 0, .int .i64 0, .int .i64 0, .int .i64 0, .slice none 0 0, .slice none 0 0] 27) := BR5.out.below hb6 BR5.out.lt; have HB6 : Hid (Below w.heap.size w w6) := HB5.out.trans (hb6.mono (by omega)); have hz6 : w.heap.size + 2 ≤ w6.heap.size := (by have h9 := hb6.size; omega); clear hb6 hO6 hc0)
      | (have hBA := G1; refine gate_ld 27 (.tmp 3) rfl ?_; clear hBA; refine wpl_load_blk rfl 27 (.tmp 3) rfl w.heap.size rfl BS6.out Tryz.underlying27 rfl sizeScP rfl ?_; clear G1)
      | (have hBA := G2; refine gate_st 27 (.tmp 6) _ rfl ?_; clear hBA; refine wpl_store_blk rfl 27 (.tmp 6) _ rfl (w.heap.size + 1) rfl rfl BR6.out sizeScP rfl rfl (by simp [Value.oneCell']) ?_; clear G2))
    have cb := (BR6.out.row #[.int .i64 u.s, .int .i64 u.c, .int .i64 u.el, .int .i64 u.b, .int .i64 u.r, .int .i64 u.d, .slice ad nd cd, .slice av nv cv]).cell
    exact bodyPost_ret (v := .tuple #[.agg #[.int .i64 u.s, .int .i64 u.c, .int .i64 u.el, .int .i64 u.b, .int .i64 u.r, .int .i64 u.d, .slice ad nd cd, .slice av nv cv], .int .i64 6]) (by simp [results, Tryz.results9, go_sem, cb]) rfl ⟨u, rfl, fun h => absurd h (by decide), below_row HB6.out (by omega) _⟩
  have HQ6 : Hid ((qc, qx) = if setOk m = true then (0, m) else (7, zU)) := HQ5.out.trans (if_neg (by rw [hall]; decide))
  rw [hall, HR7.out] at HNu
  clear HQ5 hall HR7
  have HNr : Hid (∀ z B v, OwnG inC 1 3 z B v [m.s, m.c, m.el, m.b, m.r, m.d] → ∃ g cg, v = .slice (some ⟨g, 0, none⟩) 6 cg ∧ g < z.heap.size ∧ B ≤ g ∧ z.cell? ⟨g, 0, none⟩ = some (.int .i64 m.s) ∧ z.cell? ⟨g, 1, none⟩ = some (.int .i64 m.c) ∧ z.cell? ⟨g, 2, none⟩ = some (.int .i64 m.el) ∧ z.cell? ⟨g, 3, none⟩ = some (.int .i64 m.b) ∧ z.cell? ⟨g, 4, none⟩ = some (.int .i64 m.r) ∧ z.cell? ⟨g, 5, none⟩ = some (.int .i64 m.d)) := fun z B v h => by
    obtain ⟨g, cg, e, h1, h2, hc⟩ := row_ints h (by simp) (by simp)
    exact ⟨g, cg, e, h1, h2, hc 0 (by simp), hc 1 (by simp), hc 2 (by simp), hc 3 (by simp), hc 4 (by simp), hc 5 (by simp)⟩
  have HSF : Hid (∀ z, Calls Tryz.prog 19 #[.agg #[.int .i64 m.s, .int .i64 m.c, .int .i64 m.el, .int .i64 m.b, .int .i64 m.r, .int .i64 m.d]] z fun e w' => e = .returned (.int .i64 (setF m.s m.c m.el m.b m.r m.d)) ∧ Below z.heap.size z w') := fun z => sSetupFault_any _ _ _ _ _ _ z
  have HSO : Hid (setOk m = decide (setF m.s m.c m.el m.b m.r m.d = 0)) := rfl
  generalize setF m.s m.c m.el m.b m.r m.d = F at *
  go_enter Tryz.func9, Tryz.ntmps9
  go_wp2_with (first
      | (go_at_call 16; refine (HSp.out _).mono ?_; rintro e w5 ⟨v5, rfl, hO5, hb5⟩; have BS5 : Hid (Blk w5 w.heap.size #[.int .i64 u.s, .int .i64 u.c, .int .i64 u.el, .int .i64 u.b, .int .i64 u.r, .int .i64 u.d, .slice ad nd cd, .slice av nv cv] 27) := ((Blk.new w _ _).alloc _).below hb5 (by simp <;> omega); have BR5 : Hid (Blk w5 (w.heap.size + 1) #[.int .i64 0, .int .i64 0, .int .i64 0, .int .i64 0, .int .i64 0, .int .i64 0, .slice none 0 0, .slice none 0 0] 27) := (Blk.new' _ _ _ (by simp)).below hb5 (by simp); have HB5 : Hid (Below w.heap.size w w5) := (((Below.refl _ _).alloc (Nat.le_refl _) _).alloc (by simp) _).trans (hb5.mono (by simp <;> omega)); have hz5 : w.heap.size + 2 ≤ w5.heap.size := (by have h9 := hb5.size; simp at h9; omega); obtain ⟨q, cq, rfl, hcq, hql, hqg, hc0, hsl5⟩ := HWR.out _ _ _ (hO5 (by simp)); have HSl5 : Hid (Sl txC 1 w5 _ (T.map sOf)) := hsl5; clear hsl5; have hcqi : (7 : Int) ≤ (cq : Int) := (by omega); have hcq1 := hcq8 cq (by omega); clear hb5 hO5)
      | (go_at_call 18; refine (HNu.out _ _ HSl5.out).mono ?_; rintro e w6 ⟨v6, rfl, hO6, hb6⟩; have BS6 : Hid (Blk w6 w.heap.size #[.int .i64 u.s, .int .i64 u.c, .int .i64 u.el, .int .i64 u.b, .int .i64 u.r, .int .i64 u.d, .slice ad nd cd, .slice av nv cv] 27) := BS5.out.below hb6 BS5.out.lt; have BR6 : Hid (Blk w6 (w.heap.size + 1) #[.int .i64 0, .int .i64 0, .int .i64 0, .int .i64 0, .int .i64 0, .int .i64 0, .slice none 0 0, .slice none 0 0] 27) := BR5.out.below hb6 BR5.out.lt; have HB6 : Hid (Below w.heap.size w w6) := HB5.out.trans (hb6.mono (by omega)); have hz6 : w.heap.size + 2 ≤ w6.heap.size := (by have h9 := hb6.size; omega); obtain ⟨g, cg, rfl, hgl, hgg, y0, y1, y2, y3, y4, y5⟩ := HNr.out _ _ _ (hO6 (by simp)); have hgn : ¬ g = w.heap.size := (by omega); have x0 : w6.cell? ⟨w.heap.size, 0, none⟩ = some (.int .i64 u.s) := BS6.out.cell 0; have f0 : w6.frozen? ⟨w.heap.size, 0, none⟩ = false := BS6.out.free 0; have x1 : w6.cell? ⟨w.heap.size, 1, none⟩ = some (.int .i64 u.c) := BS6.out.cell 1; have f1 : w6.frozen? ⟨w.heap.size, 1, none⟩ = false := BS6.out.free 1; have x2 : w6.cell? ⟨w.heap.size, 2, none⟩ = some (.int .i64 u.el) := BS6.out.cell 2; have f2 : w6.frozen? ⟨w.heap.size, 2, none⟩ = false := BS6.out.free 2; have x3 : w6.cell? ⟨w.heap.size, 3, none⟩ = some (.int .i64 u.b) := BS6.out.cell 3; have f3 : w6.frozen? ⟨w.heap.size, 3, none⟩ = false := BS6.out.free 3; have x4 : w6.cell? ⟨w.heap.size, 4, none⟩ = some (.int .i64 u.r) := BS6.out.cell 4; have f4 : w6.frozen? ⟨w.heap.size, 4, none⟩ = false := BS6.out.free 4; have x5 : w6.cell? ⟨w.heap.size, 5, none⟩ = some (.int .i64 u.d) := BS6.out.cell 5; have f5 : w6.frozen? ⟨w.heap.size, 5, none⟩ = false := BS6.out.free 5; clear hb6 hO6 hc0))
  go_region_held3 (fun w' => w'.cell? ⟨g, 0, none⟩ = some (.int .i64 m.s) ∧ w'.cell? ⟨g, 1, none⟩ = some (.int .i64 m.c) ∧ w'.cell? ⟨g, 2, none⟩ = some (.int .i64 m.el) ∧ w'.cell? ⟨g, 3, none⟩ = some (.int .i64 m.b) ∧ w'.cell? ⟨g, 4, none⟩ = some (.int .i64 m.r) ∧ w'.cell? ⟨g, 5, none⟩ = some (.int .i64 m.d)) (simp [*, go_sem]) (fail)
  have BS7 : Hid (Blk (((((((w6.setCell ⟨w.heap.size, 0, none⟩ (.int .i64 m.s)).setCell ⟨w.heap.size, 1, none⟩ (.int .i64 m.c)).setCell ⟨w.heap.size, 2, none⟩ (.int .i64 m.el)).setCell ⟨w.heap.size, 3, none⟩ (.int .i64 m.b)).setCell ⟨w.heap.size, 4, none⟩ (.int .i64 m.r)).setCell ⟨w.heap.size, 5, none⟩ (.int .i64 m.d)).drew) w.heap.size #[.int .i64 m.s, .int .i64 m.c, .int .i64 m.el, .int .i64 m.b, .int .i64 m.r, .int .i64 m.d, .slice ad nd cd, .slice av nv cv] 27) := by
    have h9 := ((((((BS6.out.set 0 (.int .i64 m.s)).set 1 (.int .i64 m.c)).set 2 (.int .i64 m.el)).set 3 (.int .i64 m.b)).set 4 (.int .i64 m.r)).set 5 (.int .i64 m.d)).drew
    unfold Hid
    simpa using h9
  have BR7 : Hid (Blk (((((((w6.setCell ⟨w.heap.size, 0, none⟩ (.int .i64 m.s)).setCell ⟨w.heap.size, 1, none⟩ (.int .i64 m.c)).setCell ⟨w.heap.size, 2, none⟩ (.int .i64 m.el)).setCell ⟨w.heap.size, 3, none⟩ (.int .i64 m.b)).setCell ⟨w.heap.size, 4, none⟩ (.int .i64 m.r)).setCell ⟨w.heap.size, 5, none⟩ (.int .i64 m.d)).drew) (w.heap.size + 1) #[.int .i64 0, .int .i64 0, .int .i64 0, .int .i64 0, .int .i64 0, .int .i64 0, .slice none 0 0, .slice none 0 0] 27) := ((((((BR6.out.set_other _ (by simp)).set_other _ (by simp)).set_other _ (by simp)).set_other _ (by simp)).set_other _ (by simp)).set_other _ (by simp)).drew
  have HB7 : Hid (Below w.heap.size w (((((((w6.setCell ⟨w.heap.size, 0, none⟩ (.int .i64 m.s)).setCell ⟨w.heap.size, 1, none⟩ (.int .i64 m.c)).setCell ⟨w.heap.size, 2, none⟩ (.int .i64 m.el)).setCell ⟨w.heap.size, 3, none⟩ (.int .i64 m.b)).setCell ⟨w.heap.size, 4, none⟩ (.int .i64 m.r)).setCell ⟨w.heap.size, 5, none⟩ (.int .i64 m.d)).drew)) := ((((((HB6.out.setCell (p := ⟨w.heap.size, 0, none⟩) (Nat.le_refl _) _).setCell (p := ⟨w.heap.size, 1, none⟩) (Nat.le_refl _) _).setCell (p := ⟨w.heap.size, 2, none⟩) (Nat.le_refl _) _).setCell (p := ⟨w.heap.size, 3, none⟩) (Nat.le_refl _) _).setCell (p := ⟨w.heap.size, 4, none⟩) (Nat.le_refl _) _).setCell (p := ⟨w.heap.size, 5, none⟩) (Nat.le_refl _) _).drew
  clear BS6 BR6 HB6 y0 y1 y2 y3 y4 y5 x0 x1 x2 x3 x4 x5 f0 f1 f2 f3 f4 f5 HNr HSl5 HNu HWR HSp
  generalize (((((((w6.setCell ⟨w.heap.size, 0, none⟩ (.int .i64 m.s)).setCell ⟨w.heap.size, 1, none⟩ (.int .i64 m.c)).setCell ⟨w.heap.size, 2, none⟩ (.int .i64 m.el)).setCell ⟨w.heap.size, 3, none⟩ (.int .i64 m.b)).setCell ⟨w.heap.size, 4, none⟩ (.int .i64 m.r)).setCell ⟨w.heap.size, 5, none⟩ (.int .i64 m.d)).drew) = w7 at *
  have x0 : w7.cell? ⟨w.heap.size, 0, none⟩ = some (.int .i64 m.s) := BS7.out.cell 0
  have x1 : w7.cell? ⟨w.heap.size, 1, none⟩ = some (.int .i64 m.c) := BS7.out.cell 1
  have x2 : w7.cell? ⟨w.heap.size, 2, none⟩ = some (.int .i64 m.el) := BS7.out.cell 2
  have x3 : w7.cell? ⟨w.heap.size, 3, none⟩ = some (.int .i64 m.b) := BS7.out.cell 3
  have x4 : w7.cell? ⟨w.heap.size, 4, none⟩ = some (.int .i64 m.r) := BS7.out.cell 4
  have x5 : w7.cell? ⟨w.heap.size, 5, none⟩ = some (.int .i64 m.d) := BS7.out.cell 5
  cases hso : setOk m
  · obtain ⟨rfl, rfl⟩ := Prod.mk.inj (HQ6.out.trans (if_neg (by rw [hso]; decide)))
    have hF : ¬ F = 0 := of_decide_eq_false (HSO.out.symm.trans hso)
    clear HQ6 HSO hso
    go_wp2_with (first
      | (go_at_call 19; refine (HSF.out _).mono ?_; rintro e w8 ⟨rfl, hb8⟩; have BS8 : Hid (Blk w8 w.heap.size #[.int .i64 m.s, .int .i64 m.c, .int .i64 m.el, .int .i64 m.b, .int .i64 m.r, .int .i64 m.d, .slice ad nd cd, .slice av nv cv] 27) := BS7.out.below hb8 BS7.out.lt; have BR8 : Hid (Blk w8 (w.heap.size + 1) #[.int .i64 0, .int .i64 0, .int .i64 0, .int .i64 0, .int .i64 0, .int .i64 0, .slice none 0 0, .slice none 0 0] 27) := BR7.out.below hb8 BR7.out.lt; have HB8 : Hid (Below w.heap.size w w8) := HB7.out.trans (hb8.mono HB7.out.size); clear hb8 x0 x1 x2 x3 x4 x5)
      | (have hBA := G1; refine gate_ld 27 (.tmp 3) rfl ?_; clear hBA; refine wpl_load_blk rfl 27 (.tmp 3) rfl w.heap.size rfl BS8.out Tryz.underlying27 rfl sizeScP rfl ?_; clear G1)
      | (have hBA := G2; refine gate_st 27 (.tmp 6) _ rfl ?_; clear hBA; refine wpl_store_blk rfl 27 (.tmp 6) _ rfl (w.heap.size + 1) rfl rfl BR8.out sizeScP rfl rfl (by simp [Value.oneCell']) ?_; clear G2))
    have cb := (BR8.out.row #[.int .i64 m.s, .int .i64 m.c, .int .i64 m.el, .int .i64 m.b, .int .i64 m.r, .int .i64 m.d, .slice ad nd cd, .slice av nv cv]).cell
    exact bodyPost_ret (v := .tuple #[.agg #[.int .i64 m.s, .int .i64 m.c, .int .i64 m.el, .int .i64 m.b, .int .i64 m.r, .int .i64 m.d, .slice ad nd cd, .slice av nv cv], .int .i64 7]) (by simp [results, Tryz.results9, go_sem, cb]) rfl ⟨m, rfl, fun h => absurd h (by decide), below_row HB8.out (Nat.le_succ _) _⟩
  · obtain ⟨rfl, hqx⟩ := Prod.mk.inj (HQ6.out.trans (if_pos hso))
    have HQx : Hid (qx = m) := hqx
    clear hqx
    obtain rfl : F = 0 := of_decide_eq_true (HSO.out.symm.trans hso)
    clear HQ6 HSO hso
    go_wp2_with (first
      | (go_at_call 19; refine (HSF.out _).mono ?_; rintro e w8 ⟨rfl, hb8⟩; have BS8 : Hid (Blk w8 w.heap.size #[.int .i64 m.s, .int .i64 m.c, .int .i64 m.el, .int .i64 m.b, .int .i64 m.r, .int .i64 m.d, .slice ad nd cd, .slice av nv cv] 27) := BS7.out.below hb8 BS7.out.lt; have BR8 : Hid (Blk w8 (w.heap.size + 1) #[.int .i64 0, .int .i64 0, .int .i64 0, .int .i64 0, .int .i64 0, .int .i64 0, .slice none 0 0, .slice none 0 0] 27) := BR7.out.below hb8 BR7.out.lt; have HB8 : Hid (Below w.heap.size w w8) := HB7.out.trans (hb8.mono HB7.out.size); clear hb8 x0 x1 x2 x3 x4 x5)
      | (have hBA := G1; refine gate_ld 27 (.tmp 3) rfl ?_; clear hBA; refine wpl_load_blk rfl 27 (.tmp 3) rfl w.heap.size rfl BS8.out Tryz.underlying27 rfl sizeScP rfl ?_; clear G1)
      | (have hBA := G2; refine gate_st 27 (.tmp 6) _ rfl ?_; clear hBA; refine wpl_store_blk rfl 27 (.tmp 6) _ rfl (w.heap.size + 1) rfl rfl BR8.out sizeScP rfl rfl (by simp [Value.oneCell']) ?_; clear G2))
    have cb := (BR8.out.row #[.int .i64 m.s, .int .i64 m.c, .int .i64 m.el, .int .i64 m.b, .int .i64 m.r, .int .i64 m.d, .slice ad nd cd, .slice av nv cv]).cell
    exact bodyPost_ret (v := .tuple #[.agg #[.int .i64 m.s, .int .i64 m.c, .int .i64 m.el, .int .i64 m.b, .int .i64 m.r, .int .i64 m.d, .slice ad nd cd, .slice av nv cv], .int .i64 0]) (by simp [results, Tryz.results9, go_sem, cb]) rfl ⟨m, rfl, HQx.out.symm, below_row HB8.out (Nat.le_succ _) _⟩
end Go.Proofs.YtanpindbhdeomaaGreatDoor
