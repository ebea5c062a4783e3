/-
  spec.l7line: the draws' line.
-/
import Derived.Test.YtanpindbhdeomaaGreatDoorPsTl
namespace Go.Proofs.YtanpindbhdeomaaGreatDoor
open Go.RowKit
set_option linter.unusedVariables false
set_option linter.unusedSimpArgs false

def drawM (ws : List (List UInt8)) : Int × List Int :=
  if ws.getD 0 [] ≠ drW then (4, []) else if 4097 < ws.length then (5, []) else if ws.tail.all numOk = false then (6, []) else if (ws.tail.map numV).all (fun n => inB n 0 1073741824) = true then (0, ws.tail.map numV) else (7, [])
def drawL (l : List UInt8) : Int × List Int := if (spl 32 l).all wordB = false then (3, []) else drawM (spl 32 l)
theorem inB_top {n : Int} (h : 0 ≤ n) : inB n 0 1073741824 = decide (n ≤ 1073741824) := by
  unfold inB
  simp [h]
set_option maxHeartbeats 8000000 in
set_option maxRecDepth 100000 in
theorem l7lineD_any (u : Sup) (ad : Option Addr) (nd cd : Nat) (av : Option Addr) (nv cv : Nat) (l : List UInt8) (hl : l.length ≤ 65536) (w : World) :
    Calls Tryz.prog 9 #[.agg #[.int .i64 u.s, .int .i64 u.c, .int .i64 u.el, .int .i64 u.b, .int .i64 u.r, .int .i64 u.d, .slice ad nd cd, .slice av nv cv], .int .i64 2, .string (sOf l)] w fun e w' => ∃ ad' nd' cd', e = .returned (.tuple #[.agg #[.int .i64 u.s, .int .i64 u.c, .int .i64 u.el, .int .i64 u.b, .int .i64 u.r, .int .i64 u.d, .slice ad' nd' cd', .slice av nv cv], .int .i64 (drawL l).1]) ∧ ((drawL l).1 = 0 → OwnG inC 1 3 w' w.heap.size (.slice ad' nd' cd') (drawL l).2) ∧ Below w.heap.size w w' := by
  obtain ⟨QL, hQL⟩ : ∃ q, q = drawL l := ⟨_, rfl⟩
  rw [← hQL]
  have HQ : Hid (QL = drawL l) := hQL
  clear hQL
  obtain ⟨qc, qx⟩ := QL
  dsimp only
  obtain ⟨okv, hokv⟩ : ∃ q, q = (spl 32 l).all wordB := ⟨_, rfl⟩
  have HSp : Hid (∀ z, Calls Tryz.prog 16 #[.string (sOf l)] z fun e w' => ∃ v, e = .returned (.tuple #[v, .bool okv]) ∧ (okv = true → OwnG txC 1 9 w' z.heap.size v ((spl 32 l).map sOf)) ∧ Below z.heap.size z w') := fun z => by rw [hokv]; exact l7split_any l hl z
  have HQ2 : Hid ((qc, qx) = if okv = false then (3, []) else drawM (spl 32 l)) := by unfold Hid; rw [HQ.out, hokv]; rfl
  have HWo : Hid (okv = true → (spl 32 l).length ≤ 70000 ∧ 1 ≤ (spl 32 l).length ∧ ∀ x ∈ spl 32 l, x.length ≤ 65536 ∧ x ≠ []) := fun h => words_ok hl (hokv.symm.trans h)
  clear HQ hokv
  have G1 : Hid True := trivial
  have G2 : Hid True := trivial
  generalize spl 32 l = ws at *
  generalize sOf l = LS at *
  cases okv
  · obtain ⟨rfl, rfl⟩ := Prod.mk.inj (HQ2.out.trans (if_pos rfl))
    clear HQ2
    go_enter Tryz.func9, Tryz.ntmps9
    go_wp2_with (first
      | (go_at_call 16; refine (HSp.out _).mono ?_; rintro e w5 ⟨v5, rfl, hO5, hb5⟩; have BS5 : Hid (Blk w5 w.heap.size #[.int .i64 u.s, .int .i64 u.c, .int .i64 u.el, .int .i64 u.b, .int .i64 u.r, .int .i64 u.d, .slice ad nd cd, .slice av nv cv] 27) := ((Blk.new w _ _).alloc _).below hb5 (by simp <;> omega); have BR5 : Hid (Blk w5 (w.heap.size + 1) #[.int .i64 0, .int .i64 0, .int .i64 0, .int .i64 0, .int .i64 0, .int .i64 0, .slice none 0 0, .slice none 0 0] 27) := (Blk.new' _ _ _ (by simp)).below hb5 (by simp); have HB5 : Hid (Below w.heap.size w w5) := (((Below.refl _ _).alloc (Nat.le_refl _) _).alloc (by simp) _).trans (hb5.mono (by simp <;> omega)); have hz5 : w.heap.size + 2 ≤ w5.heap.size := (by have h9 := hb5.size; simp at h9; omega); clear hb5 hO5)
      | (have hBA := G1; refine gate_ld 27 (.tmp 3) rfl ?_; clear hBA; refine wpl_load_blk rfl 27 (.tmp 3) rfl w.heap.size rfl BS5.out Tryz.underlying27 rfl sizeScP rfl ?_; clear G1)
      | (have hBA := G2; refine gate_st 27 (.tmp 6) _ rfl ?_; clear hBA; refine wpl_store_blk rfl 27 (.tmp 6) _ rfl (w.heap.size + 1) rfl rfl BR5.out sizeScP rfl rfl (by simp [Value.oneCell']) ?_; clear G2))
    have cb := (BR5.out.row #[.int .i64 u.s, .int .i64 u.c, .int .i64 u.el, .int .i64 u.b, .int .i64 u.r, .int .i64 u.d, .slice ad nd cd, .slice av nv cv]).cell
    exact bodyPost_ret (v := .tuple #[.agg #[.int .i64 u.s, .int .i64 u.c, .int .i64 u.el, .int .i64 u.b, .int .i64 u.r, .int .i64 u.d, .slice ad nd cd, .slice av nv cv], .int .i64 3]) (by simp [results, Tryz.results9, go_sem, cb]) rfl ⟨_, _, _, rfl, fun h => absurd h (by decide), below_row HB5.out (by omega) _⟩
  obtain ⟨hwl, hw1, hww⟩ := HWo.out rfl
  have HQ3 : Hid ((qc, qx) = drawM ws) := HQ2.out.trans (if_neg (by decide))
  clear HQ2 HWo
  obtain ⟨n, hn⟩ : ∃ n, n = ws.length := ⟨_, rfl⟩
  obtain ⟨S0, hS0⟩ : ∃ S, S = sOf (ws.getD 0 []) := ⟨_, rfl⟩
  have HWR : Hid (∀ z B v, OwnG txC 1 9 z B v (ws.map sOf) → ∃ q cq, v = .slice (some ⟨q, 0, none⟩) n cq ∧ n ≤ cq ∧ q < z.heap.size ∧ B ≤ q ∧ z.cell? ⟨q, 0, none⟩ = some (.string S0) ∧ ∀ v', v' = (if cq = 1 then .slice (some ⟨q, 0, none⟩) (n - 1) 0 else .slice (some ⟨q, 1, none⟩) (n - 1) (cq - 1)) → Sl txC 1 z v' (ws.tail.map sOf)) := fun z B v h => by rw [hn, hS0]; exact words_row2 h hw1 hwl
  have HNu : Hid (∀ z v, Sl txC 1 z v (ws.tail.map sOf) → Calls Tryz.prog 18 #[v] z fun e w' => ∃ v', e = .returned (.tuple #[v', .bool (ws.tail.all numOk)]) ∧ (ws.tail.all numOk = true → OwnG inC 1 3 w' z.heap.size v' (ws.tail.map numV)) ∧ Below z.heap.size z w') := fun z v h => l7numbers_any v ws.tail z h (by rw [List.length_tail]; omega) (fun x hx => (hww x (List.mem_of_mem_tail hx)).1)
  have h0n : 1 ≤ n := by omega
  have h0i : (0 : Int) < (n : Int) := by omega
  by_cases h4 : ws.getD 0 [] = drW
  case neg =>
    obtain ⟨rfl, rfl⟩ := Prod.mk.inj (HQ3.out.trans (if_pos h4))
    have hS4 : (S0.toList == (sOf drW).toList) = false := by
      rw [beq_eq_false_iff_ne, hS0]
      exact fun e => h4 (sOf_inj e)
    have hS5 : ¬ S0.toList = [100, 114, 97, 119, 115] := by rw [← drW_list]; simpa using hS4
    have hS6 : (S0.toList == [100, 114, 97, 119, 115]) = false := by rw [beq_eq_false_iff_ne]; exact hS5
    clear HQ3 hn hS0 h4 hS4
    go_enter Tryz.func9, Tryz.ntmps9
    go_wp2_with (first
      | (go_at_call 16; refine (HSp.out _).mono ?_; rintro e w5 ⟨v5, rfl, hO5, hb5⟩; have BS5 : Hid (Blk w5 w.heap.size #[.int .i64 u.s, .int .i64 u.c, .int .i64 u.el, .int .i64 u.b, .int .i64 u.r, .int .i64 u.d, .slice ad nd cd, .slice av nv cv] 27) := ((Blk.new w _ _).alloc _).below hb5 (by simp <;> omega); have BR5 : Hid (Blk w5 (w.heap.size + 1) #[.int .i64 0, .int .i64 0, .int .i64 0, .int .i64 0, .int .i64 0, .int .i64 0, .slice none 0 0, .slice none 0 0] 27) := (Blk.new' _ _ _ (by simp)).below hb5 (by simp); have HB5 : Hid (Below w.heap.size w w5) := (((Below.refl _ _).alloc (Nat.le_refl _) _).alloc (by simp) _).trans (hb5.mono (by simp <;> omega)); have hz5 : w.heap.size + 2 ≤ w5.heap.size := (by have h9 := hb5.size; simp at h9; omega); obtain ⟨q, cq, rfl, hcq, hql, hqg, hc0, hsl5⟩ := HWR.out _ _ _ (hO5 (by simp)); have HSl5 : Hid (∀ v', v' = (if cq = 1 then .slice (some ⟨q, 0, none⟩) (n - 1) 0 else .slice (some ⟨q, 1, none⟩) (n - 1) (cq - 1)) → Sl txC 1 w5 v' (ws.tail.map sOf)) := hsl5; clear hsl5; clear hb5 hO5)
      | (have hBA := G1; refine gate_ld 27 (.tmp 3) rfl ?_; clear hBA; refine wpl_load_blk rfl 27 (.tmp 3) rfl w.heap.size rfl BS5.out Tryz.underlying27 rfl sizeScP rfl ?_; clear G1)
      | (have hBA := G2; refine gate_st 27 (.tmp 6) _ rfl ?_; clear hBA; refine wpl_store_blk rfl 27 (.tmp 6) _ rfl (w.heap.size + 1) rfl rfl BR5.out sizeScP rfl rfl (by simp [Value.oneCell']) ?_; clear G2))
    have cb := (BR5.out.row #[.int .i64 u.s, .int .i64 u.c, .int .i64 u.el, .int .i64 u.b, .int .i64 u.r, .int .i64 u.d, .slice ad nd cd, .slice av nv cv]).cell
    exact bodyPost_ret (v := .tuple #[.agg #[.int .i64 u.s, .int .i64 u.c, .int .i64 u.el, .int .i64 u.b, .int .i64 u.r, .int .i64 u.d, .slice ad nd cd, .slice av nv cv], .int .i64 4]) (by simp [results, Tryz.results9, go_sem, cb]) rfl ⟨_, _, _, rfl, fun h => absurd h (by decide), below_row HB5.out (by omega) _⟩
  have HQ4 : Hid ((qc, qx) = _) := HQ3.out.trans (if_neg (fun h => h h4))
  rw [h4] at hS0
  have hS5 : S0.toList = [100, 114, 97, 119, 115] := by rw [hS0]; exact drW_list
  clear HQ3 h4 hS0
  by_cases h5 : 4097 < ws.length
  case pos =>
    obtain ⟨rfl, rfl⟩ := Prod.mk.inj (HQ4.out.trans (if_pos h5))
    have hn5' : (4097 : Int) < (n : Int) := by rw [hn]; omega
    clear HQ4 hn h5
    go_enter Tryz.func9, Tryz.ntmps9
    go_wp2_with (first
      | (go_at_call 16; refine (HSp.out _).mono ?_; rintro e w5 ⟨v5, rfl, hO5, hb5⟩; have BS5 : Hid (Blk w5 w.heap.size #[.int .i64 u.s, .int .i64 u.c, .int .i64 u.el, .int .i64 u.b, .int .i64 u.r, .int .i64 u.d, .slice ad nd cd, .slice av nv cv] 27) := ((Blk.new w _ _).alloc _).below hb5 (by simp <;> omega); have BR5 : Hid (Blk w5 (w.heap.size + 1) #[.int .i64 0, .int .i64 0, .int .i64 0, .int .i64 0, .int .i64 0, .int .i64 0, .slice none 0 0, .slice none 0 0] 27) := (Blk.new' _ _ _ (by simp)).below hb5 (by simp); have HB5 : Hid (Below w.heap.size w w5) := (((Below.refl _ _).alloc (Nat.le_refl _) _).alloc (by simp) _).trans (hb5.mono (by simp <;> omega)); have hz5 : w.heap.size + 2 ≤ w5.heap.size := (by have h9 := hb5.size; simp at h9; omega); obtain ⟨q, cq, rfl, hcq, hql, hqg, hc0, hsl5⟩ := HWR.out _ _ _ (hO5 (by simp)); have HSl5 : Hid (∀ v', v' = (if cq = 1 then .slice (some ⟨q, 0, none⟩) (n - 1) 0 else .slice (some ⟨q, 1, none⟩) (n - 1) (cq - 1)) → Sl txC 1 w5 v' (ws.tail.map sOf)) := hsl5; clear hsl5; clear hb5 hO5)
      | (have hBA := G1; refine gate_ld 27 (.tmp 3) rfl ?_; clear hBA; refine wpl_load_blk rfl 27 (.tmp 3) rfl w.heap.size rfl BS5.out Tryz.underlying27 rfl sizeScP rfl ?_; clear G1)
      | (have hBA := G2; refine gate_st 27 (.tmp 6) _ rfl ?_; clear hBA; refine wpl_store_blk rfl 27 (.tmp 6) _ rfl (w.heap.size + 1) rfl rfl BR5.out sizeScP rfl rfl (by simp [Value.oneCell']) ?_; clear G2))
    have cb := (BR5.out.row #[.int .i64 u.s, .int .i64 u.c, .int .i64 u.el, .int .i64 u.b, .int .i64 u.r, .int .i64 u.d, .slice ad nd cd, .slice av nv cv]).cell
    exact bodyPost_ret (v := .tuple #[.agg #[.int .i64 u.s, .int .i64 u.c, .int .i64 u.el, .int .i64 u.b, .int .i64 u.r, .int .i64 u.d, .slice ad nd cd, .slice av nv cv], .int .i64 5]) (by simp [results, Tryz.results9, go_sem, cb]) rfl ⟨_, _, _, rfl, fun h => absurd h (by decide), below_row HB5.out (by omega) _⟩
  have HQ5 : Hid ((qc, qx) = if ws.tail.all numOk = false then (6, []) else if (ws.tail.map numV).all (fun n => inB n 0 1073741824) = true then (0, ws.tail.map numV) else (7, [])) := HQ4.out.trans (if_neg h5)
  have hn5' : ¬ (4097 : Int) < (n : Int) := by rw [hn]; omega
  have hTl : ws.tail.length = n - 1 := by rw [List.length_tail, hn]
  have HNv : Hid (∀ x ∈ ws.tail, numOk x = true → 0 ≤ numV x) := fun x _ h => (numOk_val h).1
  clear HQ4 h5 hn hww hwl hw1
  have G3 : Hid True := trivial
  generalize ws.tail = T at *
  cases hall : T.all numOk
  · obtain ⟨rfl, rfl⟩ := Prod.mk.inj (HQ5.out.trans (if_pos hall))
    rw [hall] at HNu
    clear HQ5 hall
    go_enter Tryz.func9, Tryz.ntmps9
    go_wp2_with (first
      | (go_at_call 16; refine (HSp.out _).mono ?_; rintro e w5 ⟨v5, rfl, hO5, hb5⟩; have BS5 : Hid (Blk w5 w.heap.size #[.int .i64 u.s, .int .i64 u.c, .int .i64 u.el, .int .i64 u.b, .int .i64 u.r, .int .i64 u.d, .slice ad nd cd, .slice av nv cv] 27) := ((Blk.new w _ _).alloc _).below hb5 (by simp <;> omega); have BR5 : Hid (Blk w5 (w.heap.size + 1) #[.int .i64 0, .int .i64 0, .int .i64 0, .int .i64 0, .int .i64 0, .int .i64 0, .slice none 0 0, .slice none 0 0] 27) := (Blk.new' _ _ _ (by simp)).below hb5 (by simp); have HB5 : Hid (Below w.heap.size w w5) := (((Below.refl _ _).alloc (Nat.le_refl _) _).alloc (by simp) _).trans (hb5.mono (by simp <;> omega)); have hz5 : w.heap.size + 2 ≤ w5.heap.size := (by have h9 := hb5.size; simp at h9; omega); obtain ⟨q, cq, rfl, hcq, hql, hqg, hc0, hsl5⟩ := HWR.out _ _ _ (hO5 (by simp)); have HSl5 : Hid (∀ v', v' = (if cq = 1 then .slice (some ⟨q, 0, none⟩) (n - 1) 0 else .slice (some ⟨q, 1, none⟩) (n - 1) (cq - 1)) → Sl txC 1 w5 v' (T.map sOf)) := hsl5; clear hsl5; have hcqi : (n : Int) ≤ (cq : Int) := (by omega); clear hb5 hO5)
      | (have hBA := G3; refine gate_sl 37 (.tmp 82) _ _ _ rfl ?_; clear hBA; refine wpl_tail rfl (.tmp 82) rfl q n cq rfl (by omega) (by omega) ?_; intro vt hvt; have HSt : Hid (Sl txC 1 w5 vt (T.map sOf)) := HSl5.out vt hvt; clear hvt G3)
      | (go_at_call 18; refine (HNu.out _ _ HSt.out).mono ?_; rintro e w6 ⟨v6, rfl, hO6, hb6⟩; have BS6 : Hid (Blk w6 w.heap.size #[.int .i64 u.s, .int .i64 u.c, .int .i64 u.el, .int .i64 u.b, .int .i64 u.r, .int .i64 u.d, .slice ad nd cd, .slice av nv cv] 27) := BS5.out.below hb6 BS5.out.lt; have BR6 : Hid (Blk w6 (w.heap.size + 1) #[.int .i64 0, .int .i64 0, .int .i64 0, .int .i64 0, .int .i64 0, .int .i64 0, .slice none 0 0, .slice none 0 0] 27) := BR5.out.below hb6 BR5.out.lt; have HB6 : Hid (Below w.heap.size w w6) := HB5.out.trans (hb6.mono (by omega)); have hz6 : w.heap.size + 2 ≤ w6.heap.size := (by have h9 := hb6.size; omega); clear hb6 hO6 hc0)
      | (have hBA := G1; refine gate_ld 27 (.tmp 3) rfl ?_; clear hBA; refine wpl_load_blk rfl 27 (.tmp 3) rfl w.heap.size rfl BS6.out Tryz.underlying27 rfl sizeScP rfl ?_; clear G1)
      | (have hBA := G2; refine gate_st 27 (.tmp 6) _ rfl ?_; clear hBA; refine wpl_store_blk rfl 27 (.tmp 6) _ rfl (w.heap.size + 1) rfl rfl BR6.out sizeScP rfl rfl (by simp [Value.oneCell']) ?_; clear G2))
    have cb := (BR6.out.row #[.int .i64 u.s, .int .i64 u.c, .int .i64 u.el, .int .i64 u.b, .int .i64 u.r, .int .i64 u.d, .slice ad nd cd, .slice av nv cv]).cell
    exact bodyPost_ret (v := .tuple #[.agg #[.int .i64 u.s, .int .i64 u.c, .int .i64 u.el, .int .i64 u.b, .int .i64 u.r, .int .i64 u.d, .slice ad nd cd, .slice av nv cv], .int .i64 6]) (by simp [results, Tryz.results9, go_sem, cb]) rfl ⟨_, _, _, rfl, fun h => absurd h (by decide), below_row HB6.out (by omega) _⟩
  have HQ6 : Hid ((qc, qx) = if (T.map numV).all (fun n => inB n 0 1073741824) = true then (0, T.map numV) else (7, [])) := HQ5.out.trans (if_neg (by rw [hall]; decide))
  have HP : Hid (∀ x ∈ T.map numV, 0 ≤ x) := fun x hx => by
    obtain ⟨y, hy, rfl⟩ := List.mem_map.1 hx
    exact HNv.out y hy (List.all_eq_true.1 hall y hy)
  have HLl : Hid ((T.map numV).length ≤ 4096) := by unfold Hid; rw [List.length_map, hTl]; omega
  rw [hall] at HNu
  clear HQ5 hall HNv hTl
  generalize T.map numV = L at *
  have hL6 := HLl.out
  clear hL6
  go_enter Tryz.func9, Tryz.ntmps9
  go_wp2_with (first
      | (go_at_call 16; refine (HSp.out _).mono ?_; rintro e w5 ⟨v5, rfl, hO5, hb5⟩; have BS5 : Hid (Blk w5 w.heap.size #[.int .i64 u.s, .int .i64 u.c, .int .i64 u.el, .int .i64 u.b, .int .i64 u.r, .int .i64 u.d, .slice ad nd cd, .slice av nv cv] 27) := ((Blk.new w _ _).alloc _).below hb5 (by simp <;> omega); have BR5 : Hid (Blk w5 (w.heap.size + 1) #[.int .i64 0, .int .i64 0, .int .i64 0, .int .i64 0, .int .i64 0, .int .i64 0, .slice none 0 0, .slice none 0 0] 27) := (Blk.new' _ _ _ (by simp)).below hb5 (by simp); have HB5 : Hid (Below w.heap.size w w5) := (((Below.refl _ _).alloc (Nat.le_refl _) _).alloc (by simp) _).trans (hb5.mono (by simp <;> omega)); have hz5 : w.heap.size + 2 ≤ w5.heap.size := (by have h9 := hb5.size; simp at h9; omega); obtain ⟨q, cq, rfl, hcq, hql, hqg, hc0, hsl5⟩ := HWR.out _ _ _ (hO5 (by simp)); have HSl5 : Hid (∀ v', v' = (if cq = 1 then .slice (some ⟨q, 0, none⟩) (n - 1) 0 else .slice (some ⟨q, 1, none⟩) (n - 1) (cq - 1)) → Sl txC 1 w5 v' (T.map sOf)) := hsl5; clear hsl5; have hcqi : (n : Int) ≤ (cq : Int) := (by omega); clear hb5 hO5)
      | (have hBA := G3; refine gate_sl 37 (.tmp 82) _ _ _ rfl ?_; clear hBA; refine wpl_tail rfl (.tmp 82) rfl q n cq rfl (by omega) (by omega) ?_; intro vt hvt; have HSt : Hid (Sl txC 1 w5 vt (T.map sOf)) := HSl5.out vt hvt; clear hvt G3)
      | (go_at_call 18; refine (HNu.out _ _ HSt.out).mono ?_; rintro e w6 ⟨v6, rfl, hO6, hb6⟩; have BS6 : Hid (Blk w6 w.heap.size #[.int .i64 u.s, .int .i64 u.c, .int .i64 u.el, .int .i64 u.b, .int .i64 u.r, .int .i64 u.d, .slice ad nd cd, .slice av nv cv] 27) := BS5.out.below hb6 BS5.out.lt; have BR6 : Hid (Blk w6 (w.heap.size + 1) #[.int .i64 0, .int .i64 0, .int .i64 0, .int .i64 0, .int .i64 0, .int .i64 0, .slice none 0 0, .slice none 0 0] 27) := BR5.out.below hb6 BR5.out.lt; have HB6 : Hid (Below w.heap.size w w6) := HB5.out.trans (hb6.mono (by omega)); have hz6 : w.heap.size + 2 ≤ w6.heap.size := (by have h9 := hb6.size; omega); have HO6 : Hid (OwnG inC 1 3 w6 w5.heap.size v6 L) := hO6 (by simp); obtain ⟨a6, c6, rfl⟩ := HO6.out.shape; clear hb6 hO6 hc0))
  have HCl : Hid (∀ j (h : j < L.length), ∃ g, a6 = some ⟨g, 0, none⟩ ∧ w6.cell? ⟨g, j, none⟩ = some (.int .i64 L[j])) := fun j h => by
    obtain ⟨g, cg, e, -, -, hc⟩ := row_ints HO6.out (by omega) (by have := HLl.out; omega)
    cases e
    exact ⟨g, rfl, hc j h⟩
  clear HSt HSl5 HNu HWR HSp HB5 BS5 BR5
  go_loopw [14] (fun i wr => ∃ k : Nat, k ≤ L.length ∧ i = .int .i64 k ∧ (L.take k).all (fun n => inB n 0 1073741824) = true ∧ wr = w6) (fun i _ => L.length - (intOf i).toNat)
  case atStart => exact ⟨0, Nat.zero_le _, rfl, rfl, rfl⟩
  case round =>
    obtain ⟨k, hk, rfl, hA, hwr⟩ := hrel
    have hwr2 := hwr.symm
    subst hwr2
    have HA : Hid ((L.take k).all (fun n => inB n 0 1073741824) = true) := hA
    clear hA
    have hkk : k ≤ 4096 := by have := HLl.out; omega
    by_cases hlt : k < L.length
    · have hki : (k : Int) < (L.length : Int) := by omega
      have HK : Hid (k < L.length) := hlt
      obtain ⟨g, rfl, hcx⟩ := HCl.out k hlt
      have hx0 := HP.out L[k] (List.getElem_mem hlt)
      have HAn : Hid (inB L[k] 0 1073741824 = true → (L.take (k + 1)).all (fun n => inB n 0 1073741824) = true) := fun h => all_takeP hlt (fun n => inB n 0 1073741824) HA.out h
      have HAf : Hid (inB L[k] 0 1073741824 = false → L.all (fun n => inB n 0 1073741824) = false) := fun h => all_noP hlt (fun n => inB n 0 1073741824) h
      rw [inB_top hx0] at HAn HAf
      clear hx0
      generalize L[k] = X at *
      by_cases hX : X ≤ 1073741824
      · have hX' : ¬ (1073741824 : Int) < X := by omega
        have hA2 := HAn.out (decide_eq_true hX)
        have HA2 : Hid ((L.take (k + 1)).all (fun n => inB n 0 1073741824) = true) := hA2
        clear hA2 HAn HAf
        go_wp2
        go_roundw
        case rel => exact ⟨k + 1, by have := HK.out; omega, by go_num, HA2.out, by simp⟩
        case measure => have := HK.out; simp [intOf]; omega
      · have hX' : (1073741824 : Int) < X := by omega
        have hAf := HAf.out (decide_eq_false hX)
        obtain ⟨rfl, rfl⟩ := Prod.mk.inj (HQ6.out.trans (if_neg (by rw [hAf]; decide)))
        clear HAn HAf HQ6 hAf
        go_wp2_with (first
      | (have hBA := G1; refine gate_ld 27 (.tmp 3) rfl ?_; clear hBA; refine wpl_load_blk rfl 27 (.tmp 3) rfl w.heap.size rfl BS6.out Tryz.underlying27 rfl sizeScP rfl ?_; clear G1)
      | (have hBA := G2; refine gate_st 27 (.tmp 6) _ rfl ?_; clear hBA; refine wpl_store_blk rfl 27 (.tmp 6) _ rfl (w.heap.size + 1) rfl rfl BR6.out sizeScP rfl rfl (by simp [Value.oneCell']) ?_; clear G2))
        have cb := (BR6.out.row #[.int .i64 u.s, .int .i64 u.c, .int .i64 u.el, .int .i64 u.b, .int .i64 u.r, .int .i64 u.d, .slice ad nd cd, .slice av nv cv]).cell
        exact bodyPost_ret (v := .tuple #[.agg #[.int .i64 u.s, .int .i64 u.c, .int .i64 u.el, .int .i64 u.b, .int .i64 u.r, .int .i64 u.d, .slice ad nd cd, .slice av nv cv], .int .i64 7]) (by simp [results, Tryz.results9, go_sem, cb]) rfl ⟨⟨_, _, _, rfl⟩, below_row HB6.out (by omega) _⟩
    · obtain rfl : k = L.length := by omega
      rw [List.take_length] at HA
      obtain ⟨rfl, hqx⟩ := Prod.mk.inj (HQ6.out.trans (if_pos HA.out))
      have HQx : Hid (qx = L) := hqx
      clear hqx HQ6 HA
      have x6 : w6.cell? ⟨w.heap.size, 6, none⟩ = some (.slice ad nd cd) := BS6.out.cell 6
      have f6 : w6.frozen? ⟨w.heap.size, 6, none⟩ = false := BS6.out.free 6
      have BS7 : Hid (Blk (w6.setCell ⟨w.heap.size, 6, none⟩ (.slice a6 L.length c6)) w.heap.size #[.int .i64 u.s, .int .i64 u.c, .int .i64 u.el, .int .i64 u.b, .int .i64 u.r, .int .i64 u.d, .slice a6 L.length c6, .slice av nv cv] 27) := by
        have h9 := BS6.out.set 6 (.slice a6 L.length c6)
        unfold Hid
        simpa using h9
      have BR7 : Hid (Blk (w6.setCell ⟨w.heap.size, 6, none⟩ (.slice a6 L.length c6)) (w.heap.size + 1) #[.int .i64 0, .int .i64 0, .int .i64 0, .int .i64 0, .int .i64 0, .int .i64 0, .slice none 0 0, .slice none 0 0] 27) := BR6.out.set_other _ (by simp)
      go_wp2_with (first
      | (have hBA := G1; refine gate_ld 27 (.tmp 3) rfl ?_; clear hBA; refine wpl_load_blk rfl 27 (.tmp 3) rfl w.heap.size rfl BS7.out Tryz.underlying27 rfl sizeScP rfl ?_; clear G1)
      | (have hBA := G2; refine gate_st 27 (.tmp 6) _ rfl ?_; clear hBA; refine wpl_store_blk rfl 27 (.tmp 6) _ rfl (w.heap.size + 1) rfl rfl BR7.out sizeScP rfl rfl (by simp [Value.oneCell']) ?_; clear G2))
      have cb := (BR7.out.row #[.int .i64 u.s, .int .i64 u.c, .int .i64 u.el, .int .i64 u.b, .int .i64 u.r, .int .i64 u.d, .slice a6 L.length c6, .slice av nv cv]).cell
      refine bodyPost_ret (v := .tuple #[.agg #[.int .i64 u.s, .int .i64 u.c, .int .i64 u.el, .int .i64 u.b, .int .i64 u.r, .int .i64 u.d, .slice a6 L.length c6, .slice av nv cv], .int .i64 0]) (by simp [results, Tryz.results9, go_sem, cb]) rfl ⟨_, _, _, rfl, ?_, below_row (HB6.out.setCell (p := ⟨w.heap.size, 6, none⟩) (Nat.le_refl _) _) (Nat.le_succ _) _⟩
      rw [HQx.out]
      refine (HO6.out.le (by omega)).block fun j hj => ?_
      have hj2 := (HO6.out.lts j hj).1
      rw [setRow_other _ _ _ _ (by omega)]
      exact Below.heap_setCell _ _ _ _ (by simp; omega)
end Go.Proofs.YtanpindbhdeomaaGreatDoor
