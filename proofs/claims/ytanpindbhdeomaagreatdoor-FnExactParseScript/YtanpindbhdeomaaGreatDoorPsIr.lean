/-
  impl.readSetup, impl.readDraws.
-/
import Derived.Test.YtanpindbhdeomaaGreatDoorPsQ
import Derived.Test.YtanpindbhdeomaaGreatDoorPsIc
import Derived.Test.YtanpindbhdeomaaGreatDoorSkIa0
import Derived.Test.YtanpindbhdeomaaGreatDoorPsIr0
namespace Go.Proofs.YtanpindbhdeomaaGreatDoor
open Go.RowKit
set_option linter.unusedVariables false
set_option linter.unusedSimpArgs false

set_option maxHeartbeats 800000 in
set_option maxRecDepth 100000 in
theorem readSetup_any (b : Nat) (u : Sup) (ad : Option Addr) (nd cd : Nat) (av : Option Addr) (nv cv : Nat) (v : Value) (ws : List (List UInt8)) (w : World) (B : Nat) (hb : Blk w b #[.int .i64 u.s, .int .i64 u.c, .int .i64 u.el, .int .i64 u.b, .int .i64 u.r, .int .i64 u.d, .slice ad nd cd, .slice av nv cv] 27) (hv : OwnG txC 1 9 w B v (ws.map sOf)) (hwl : ws.length ≤ 70000) (hw1 : 1 ≤ ws.length) (hww : ∀ x ∈ ws, x.length ≤ 65536 ∧ x ≠ []) (he : EnvP w) :
    Calls Tryz.prog 23 #[.pointer (some ⟨b, 0, none⟩), v] w fun e w' => ∃ U : Sup, e = .returned (.int .i64 (setM ws).1) ∧ Blk w' b #[.int .i64 U.s, .int .i64 U.c, .int .i64 U.el, .int .i64 U.b, .int .i64 U.r, .int .i64 U.d, .slice ad nd cd, .slice av nv cv] 27 ∧ ((setM ws).1 = 0 → U = (setM ws).2) ∧ Gr2 w b (.slice none 0 0) w' (.slice none 0 0) := by
  obtain ⟨q, cq, rfl, hcq, hql, hqB, hc0, hsl⟩ := words_row2 hv hw1 hwl
  have HB : Hid (Blk w b #[.int .i64 u.s, .int .i64 u.c, .int .i64 u.el, .int .i64 u.b, .int .i64 u.r, .int .i64 u.d, .slice ad nd cd, .slice av nv cv] 27) := hb
  have HSl : Hid _ := hsl
  have HNu : Hid (∀ v', Sl txC 1 w v' (ws.tail.map sOf) → Calls Tryz.prog 44 #[v'] w fun e w' => ∃ v', e = .returned (.tuple #[v', .bool (ws.tail.all numOk)]) ∧ (ws.tail.all numOk = true → OwnG inC 1 3 w' w.heap.size v' (ws.tail.map numV)) ∧ Below w.heap.size w w') := fun v' h => readNumbers_any v' ws.tail w h (by rw [List.length_tail]; omega) (fun x hx => (hww x (List.mem_of_mem_tail hx)).1) he.e
  have hbl := hb.lt
  clear hb hv hsl hww he hqB
  obtain ⟨QL, hQL⟩ : ∃ q, q = setM ws := ⟨_, rfl⟩
  rw [← hQL]
  have HQ3 : Hid (QL = setM ws) := hQL
  clear hQL
  obtain ⟨qc, qx⟩ := QL
  dsimp only
  obtain ⟨n, hn⟩ : ∃ n, n = ws.length := ⟨_, rfl⟩
  obtain ⟨S0, hS0⟩ : ∃ S, S = sOf (ws.getD 0 []) := ⟨_, rfl⟩
  rw [← hn] at hcq ⊢
  rw [← hS0] at hc0
  have HSl2 : Hid (∀ v' : Value, v' = (if cq = 1 then .slice (some ⟨q, 0, none⟩) (n - 1) 0 else .slice (some ⟨q, 1, none⟩) (n - 1) (cq - 1)) → Sl txC 1 w v' (ws.tail.map sOf)) := fun v' h => HSl.out v' (by rw [hn] at h; exact h)
  clear HSl
  have h0n : 1 ≤ n := by omega
  have h0i : (0 : Int) < (n : Int) := by omega
  by_cases h4 : ws.getD 0 [] = clW
  case neg =>
    obtain ⟨rfl, rfl⟩ := Prod.mk.inj (HQ3.out.trans (if_pos h4))
    have hS4 : (S0.toList == (sOf clW).toList) = false := by
      rw [beq_eq_false_iff_ne, hS0]
      exact fun e => h4 (sOf_inj e)
    have hS5 : ¬ S0.toList = [99, 108, 117, 115, 116, 101, 114] := by rw [← clW_list]; simpa using hS4
    have hS6 : (S0.toList == [99, 108, 117, 115, 116, 101, 114]) = false := by rw [beq_eq_false_iff_ne]; exact hS5
    clear HQ3 hn hS0 h4 hS4
    go_enter Tryz.func23, Tryz.ntmps23
    go_wp2
    go_ret
    exact ⟨u, rfl, HB.out, fun h => absurd h (by decide), Gr2.below _ _ (Below.refl _ _)⟩
  have HQ4 : Hid ((qc, qx) = _) := HQ3.out.trans (if_neg (fun h => h h4))
  rw [h4] at hS0
  have hS5 : S0.toList = [99, 108, 117, 115, 116, 101, 114] := by rw [hS0]; exact clW_list
  clear HQ3 h4 hS0
  by_cases h5 : ws.length = 7
  case neg =>
    obtain ⟨rfl, rfl⟩ := Prod.mk.inj (HQ4.out.trans (if_pos h5))
    have hn5' : ¬ (n : Int) = 7 := by rw [hn]; omega
    clear HQ4 hn h5
    go_enter Tryz.func23, Tryz.ntmps23
    go_wp2
    go_ret
    exact ⟨u, rfl, HB.out, fun h => absurd h (by decide), Gr2.below _ _ (Below.refl _ _)⟩
  have HQ5 : Hid ((qc, qx) = if ws.tail.all numOk = false then (6, zU) else if setOk (setP ws) = true then (0, setP ws) else (7, zU)) := HQ4.out.trans (if_neg (fun h => h h5))
  have HR7 : Hid (ws.tail.map numV = [(setP ws).s, (setP ws).c, (setP ws).el, (setP ws).b, (setP ws).r, (setP ws).d]) := setP_row h5
  obtain rfl : n = 7 := by omega
  have hcq1 : ¬ cq = 1 := by omega
  have HNc : Hid (Calls Tryz.prog 44 #[.slice (some ⟨q, 1, none⟩) 6 (cq - 1)] w _) := HNu.out _ (HSl2.out _ (by rw [if_neg hcq1]))
  clear HQ4 hn h5 HNu HSl2
  generalize setP ws = m at *
  generalize ws.tail = T at *
  cases hall : T.all numOk
  · obtain ⟨rfl, rfl⟩ := Prod.mk.inj (HQ5.out.trans (if_pos hall))
    rw [hall] at HNc
    clear HQ5 hall HR7
    go_enter Tryz.func23, Tryz.ntmps23
    go_wp2_with (first
      | (go_at_call 44; refine HNc.out.mono ?_; rintro e w6 ⟨v6, rfl, hO6, hb6⟩; have BS6 : Hid (Blk w6 b #[.int .i64 u.s, .int .i64 u.c, .int .i64 u.el, .int .i64 u.b, .int .i64 u.r, .int .i64 u.d, .slice ad nd cd, .slice av nv cv] 27) := HB.out.below hb6 HB.out.lt; have HB6 : Hid (Below w.heap.size w w6) := hb6; have hz6 : w.heap.size ≤ w6.heap.size := hb6.size; clear hb6 hO6))
    go_ret
    exact ⟨u, rfl, HB.out.below HB6.out HB.out.lt, fun h => absurd h (by decide), Gr2.below _ _ HB6.out⟩
  have HQ6 : Hid ((qc, qx) = if setOk m = true then (0, m) else (7, zU)) := HQ5.out.trans (if_neg (by rw [hall]; decide))
  rw [hall, HR7.out] at HNc
  clear HQ5 hall HR7
  have HNr : Hid (∀ z B v, OwnG inC 1 3 z B v [m.s, m.c, m.el, m.b, m.r, m.d] → ∃ g cg, v = .slice (some ⟨g, 0, none⟩) 6 cg ∧ g < z.heap.size ∧ B ≤ g ∧ z.cell? ⟨g, 0, none⟩ = some (.int .i64 m.s) ∧ z.cell? ⟨g, 1, none⟩ = some (.int .i64 m.c) ∧ z.cell? ⟨g, 2, none⟩ = some (.int .i64 m.el) ∧ z.cell? ⟨g, 3, none⟩ = some (.int .i64 m.b) ∧ z.cell? ⟨g, 4, none⟩ = some (.int .i64 m.r) ∧ z.cell? ⟨g, 5, none⟩ = some (.int .i64 m.d)) := fun z B v h => by
    obtain ⟨g, cg, e, h1, h2, hc⟩ := row_ints h (by simp) (by simp)
    exact ⟨g, cg, e, h1, h2, hc 0 (by simp), hc 1 (by simp), hc 2 (by simp), hc 3 (by simp), hc 4 (by simp), hc 5 (by simp)⟩
  have HSF : Hid (∀ z, Calls Tryz.prog 45 #[.agg #[.int .i64 m.s, .int .i64 m.c, .int .i64 m.el, .int .i64 m.b, .int .i64 m.r, .int .i64 m.d]] z fun e w' => e = .returned (.int .i64 (setF m.s m.c m.el m.b m.r m.d)) ∧ Below z.heap.size z w') := fun z => setupFault_any _ _ _ _ _ _ z
  have HSO : Hid (setOk m = decide (setF m.s m.c m.el m.b m.r m.d = 0)) := rfl
  generalize setF m.s m.c m.el m.b m.r m.d = F at *
  go_enter Tryz.func23, Tryz.ntmps23
  go_wp2_with (first
      | (go_at_call 44; refine HNc.out.mono ?_; rintro e w6 ⟨v6, rfl, hO6, hb6⟩; have BS6 : Hid (Blk w6 b #[.int .i64 u.s, .int .i64 u.c, .int .i64 u.el, .int .i64 u.b, .int .i64 u.r, .int .i64 u.d, .slice ad nd cd, .slice av nv cv] 27) := HB.out.below hb6 HB.out.lt; have HB6 : Hid (Below w.heap.size w w6) := hb6; have hz6 : w.heap.size ≤ w6.heap.size := hb6.size; obtain ⟨g, cg, rfl, hgl, hgg, y0, y1, y2, y3, y4, y5⟩ := HNr.out _ _ _ (hO6 (by simp)); have hgn : ¬ g = b := (by omega); have x0 : w6.cell? ⟨b, 0, none⟩ = some (.int .i64 u.s) := BS6.out.cell 0; have f0 : w6.frozen? ⟨b, 0, none⟩ = false := BS6.out.free 0; have x1 : w6.cell? ⟨b, 1, none⟩ = some (.int .i64 u.c) := BS6.out.cell 1; have f1 : w6.frozen? ⟨b, 1, none⟩ = false := BS6.out.free 1; have x2 : w6.cell? ⟨b, 2, none⟩ = some (.int .i64 u.el) := BS6.out.cell 2; have f2 : w6.frozen? ⟨b, 2, none⟩ = false := BS6.out.free 2; have x3 : w6.cell? ⟨b, 3, none⟩ = some (.int .i64 u.b) := BS6.out.cell 3; have f3 : w6.frozen? ⟨b, 3, none⟩ = false := BS6.out.free 3; have x4 : w6.cell? ⟨b, 4, none⟩ = some (.int .i64 u.r) := BS6.out.cell 4; have f4 : w6.frozen? ⟨b, 4, none⟩ = false := BS6.out.free 4; have x5 : w6.cell? ⟨b, 5, none⟩ = some (.int .i64 u.d) := BS6.out.cell 5; have f5 : w6.frozen? ⟨b, 5, none⟩ = false := BS6.out.free 5; clear hb6 hO6))
  go_region_held3 (fun w' => w'.cell? ⟨g, 0, none⟩ = some (.int .i64 m.s) ∧ w'.cell? ⟨g, 1, none⟩ = some (.int .i64 m.c) ∧ w'.cell? ⟨g, 2, none⟩ = some (.int .i64 m.el) ∧ w'.cell? ⟨g, 3, none⟩ = some (.int .i64 m.b) ∧ w'.cell? ⟨g, 4, none⟩ = some (.int .i64 m.r) ∧ w'.cell? ⟨g, 5, none⟩ = some (.int .i64 m.d)) (simp [*, go_sem]) (fail)
  rename_i hh
  clear hh
  have BS7 : Hid (Blk (((((((w6.setCell ⟨b, 0, none⟩ (.int .i64 m.s)).setCell ⟨b, 1, none⟩ (.int .i64 m.c)).setCell ⟨b, 2, none⟩ (.int .i64 m.el)).setCell ⟨b, 3, none⟩ (.int .i64 m.b)).setCell ⟨b, 4, none⟩ (.int .i64 m.r)).setCell ⟨b, 5, none⟩ (.int .i64 m.d)).drew) b #[.int .i64 m.s, .int .i64 m.c, .int .i64 m.el, .int .i64 m.b, .int .i64 m.r, .int .i64 m.d, .slice ad nd cd, .slice av nv cv] 27) := by
    have h9 := ((((((BS6.out.set 0 (.int .i64 m.s)).set 1 (.int .i64 m.c)).set 2 (.int .i64 m.el)).set 3 (.int .i64 m.b)).set 4 (.int .i64 m.r)).set 5 (.int .i64 m.d)).drew
    exact h9
  have HG7 : Hid (Gr2 w b (.slice none 0 0) (((((((w6.setCell ⟨b, 0, none⟩ (.int .i64 m.s)).setCell ⟨b, 1, none⟩ (.int .i64 m.c)).setCell ⟨b, 2, none⟩ (.int .i64 m.el)).setCell ⟨b, 3, none⟩ (.int .i64 m.b)).setCell ⟨b, 4, none⟩ (.int .i64 m.r)).setCell ⟨b, 5, none⟩ (.int .i64 m.d)).drew) (.slice none 0 0)) := (((((((Gr2.below b _ HB6.out).set 0 _).set 1 _).set 2 _).set 3 _).set 4 _).set 5 _).drew
  have hz7 : w.heap.size ≤ (((((((w6.setCell ⟨b, 0, none⟩ (.int .i64 m.s)).setCell ⟨b, 1, none⟩ (.int .i64 m.c)).setCell ⟨b, 2, none⟩ (.int .i64 m.el)).setCell ⟨b, 3, none⟩ (.int .i64 m.b)).setCell ⟨b, 4, none⟩ (.int .i64 m.r)).setCell ⟨b, 5, none⟩ (.int .i64 m.d)).drew).heap.size := HG7.out.size
  clear BS6 HB6 y0 y1 y2 y3 y4 y5 x0 x1 x2 x3 x4 x5 f0 f1 f2 f3 f4 f5 HNr
  generalize hw7 : (((((((w6.setCell ⟨b, 0, none⟩ (.int .i64 m.s)).setCell ⟨b, 1, none⟩ (.int .i64 m.c)).setCell ⟨b, 2, none⟩ (.int .i64 m.el)).setCell ⟨b, 3, none⟩ (.int .i64 m.b)).setCell ⟨b, 4, none⟩ (.int .i64 m.r)).setCell ⟨b, 5, none⟩ (.int .i64 m.d)).drew) = w7
  rw [hw7] at BS7 HG7 hz7
  clear hw7
  have x0 : w7.cell? ⟨b, 0, none⟩ = some (.int .i64 m.s) := BS7.out.cell 0
  have x1 : w7.cell? ⟨b, 1, none⟩ = some (.int .i64 m.c) := BS7.out.cell 1
  have x2 : w7.cell? ⟨b, 2, none⟩ = some (.int .i64 m.el) := BS7.out.cell 2
  have x3 : w7.cell? ⟨b, 3, none⟩ = some (.int .i64 m.b) := BS7.out.cell 3
  have x4 : w7.cell? ⟨b, 4, none⟩ = some (.int .i64 m.r) := BS7.out.cell 4
  have x5 : w7.cell? ⟨b, 5, none⟩ = some (.int .i64 m.d) := BS7.out.cell 5
  cases hso : setOk m
  · obtain ⟨rfl, rfl⟩ := Prod.mk.inj (HQ6.out.trans (if_neg (by rw [hso]; decide)))
    have hF : ¬ F = 0 := of_decide_eq_false (HSO.out.symm.trans hso)
    clear HQ6 HSO hso
    go_wp2_with (first
      | (go_at_call 45; refine (HSF.out _).mono ?_; rintro e w8 ⟨rfl, hb8⟩; have BS8 : Hid (Blk w8 b #[.int .i64 m.s, .int .i64 m.c, .int .i64 m.el, .int .i64 m.b, .int .i64 m.r, .int .i64 m.d, .slice ad nd cd, .slice av nv cv] 27) := BS7.out.below hb8 BS7.out.lt; have HB8 : Hid (Below w.heap.size w7 w8) := hb8.mono hz7; clear hb8 x0 x1 x2 x3 x4 x5))
    go_ret
    exact ⟨m, rfl, BS8.out, fun h => absurd h (by decide), HG7.out.tail HB8.out⟩
  · obtain ⟨rfl, hqx⟩ := Prod.mk.inj (HQ6.out.trans (if_pos hso))
    have HQx : Hid (qx = m) := hqx
    obtain rfl : F = 0 := of_decide_eq_true (HSO.out.symm.trans hso)
    clear HQ6 HSO hso hqx
    go_wp2_with (first
      | (go_at_call 45; refine (HSF.out _).mono ?_; rintro e w8 ⟨rfl, hb8⟩; have BS8 : Hid (Blk w8 b #[.int .i64 m.s, .int .i64 m.c, .int .i64 m.el, .int .i64 m.b, .int .i64 m.r, .int .i64 m.d, .slice ad nd cd, .slice av nv cv] 27) := BS7.out.below hb8 BS7.out.lt; have HB8 : Hid (Below w.heap.size w7 w8) := hb8.mono hz7; clear hb8 x0 x1 x2 x3 x4 x5))
    go_ret
    exact ⟨rfl, m, BS8.out, HQx.out.symm, HG7.out.tail HB8.out⟩
end Go.Proofs.YtanpindbhdeomaaGreatDoor
