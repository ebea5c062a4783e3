/-
  impl.readDraws.
-/
import Derived.Test.YtanpindbhdeomaaGreatDoorPsQ
import Derived.Test.YtanpindbhdeomaaGreatDoorPsIc
import Derived.Test.YtanpindbhdeomaaGreatDoorSkIa0
import Derived.Test.YtanpindbhdeomaaGreatDoorPsIr0
namespace Go.Proofs.YtanpindbhdeomaaGreatDoor
open Go.RowKit
set_option linter.unusedVariables false
set_option linter.unusedSimpArgs false

set_option maxHeartbeats 800000 in
set_option maxRecDepth 100000 in
theorem readDraws_any (b : Nat) (u : Sup) (ad : Option Addr) (nd cd : Nat) (av : Option Addr) (nv cv : Nat) (v : Value) (ws : List (List UInt8)) (w : World) (B : Nat) (hb : Blk w b #[.int .i64 u.s, .int .i64 u.c, .int .i64 u.el, .int .i64 u.b, .int .i64 u.r, .int .i64 u.d, .slice ad nd cd, .slice av nv cv] 27) (hv : OwnG txC 1 9 w B v (ws.map sOf)) (hwl : ws.length ≤ 70000) (hw1 : 1 ≤ ws.length) (hww : ∀ x ∈ ws, x.length ≤ 65536 ∧ x ≠ []) (he : EnvP w) :
    Calls Tryz.prog 24 #[.pointer (some ⟨b, 0, none⟩), v] w fun e w' => ∃ ad' nd' cd', e = .returned (.int .i64 (drawM ws).1) ∧ Blk w' b #[.int .i64 u.s, .int .i64 u.c, .int .i64 u.el, .int .i64 u.b, .int .i64 u.r, .int .i64 u.d, .slice ad' nd' cd', .slice av nv cv] 27 ∧ ((drawM ws).1 = 0 → OwnG inC 1 3 w' w.heap.size (.slice ad' nd' cd') (drawM ws).2) ∧ Gr2 w b (.slice none 0 0) w' (.slice none 0 0) := by
  obtain ⟨q, cq, rfl, hcq, hql, hqB, hc0, hsl⟩ := words_row2 hv hw1 hwl
  have HB : Hid (Blk w b #[.int .i64 u.s, .int .i64 u.c, .int .i64 u.el, .int .i64 u.b, .int .i64 u.r, .int .i64 u.d, .slice ad nd cd, .slice av nv cv] 27) := hb
  have HSl : Hid _ := hsl
  have HNu : Hid (∀ v', Sl txC 1 w v' (ws.tail.map sOf) → Calls Tryz.prog 44 #[v'] w fun e w' => ∃ v', e = .returned (.tuple #[v', .bool (ws.tail.all numOk)]) ∧ (ws.tail.all numOk = true → OwnG inC 1 3 w' w.heap.size v' (ws.tail.map numV)) ∧ Below w.heap.size w w') := fun v' h => readNumbers_any v' ws.tail w h (by rw [List.length_tail]; omega) (fun x hx => (hww x (List.mem_of_mem_tail hx)).1) he.e
  have hbl := hb.lt
  clear hb hv hsl hww he hqB
  obtain ⟨QL, hQL⟩ : ∃ q, q = drawM ws := ⟨_, rfl⟩
  rw [← hQL]
  have HQ3 : Hid (QL = drawM ws) := hQL
  clear hQL
  obtain ⟨qc, qx⟩ := QL
  dsimp only
  obtain ⟨n, hn⟩ : ∃ n, n = ws.length := ⟨_, rfl⟩
  obtain ⟨S0, hS0⟩ : ∃ S, S = sOf (ws.getD 0 []) := ⟨_, rfl⟩
  rw [← hn] at hcq ⊢
  rw [← hS0] at hc0
  have HSl2 : Hid (∀ v' : Value, v' = (if cq = 1 then .slice (some ⟨q, 0, none⟩) (n - 1) 0 else .slice (some ⟨q, 1, none⟩) (n - 1) (cq - 1)) → Sl txC 1 w v' (ws.tail.map sOf)) := fun v' h => HSl.out v' (by rw [hn] at h; exact h)
  clear HSl
  have h0n : 1 ≤ n := by omega
  have h0i : (0 : Int) < (n : Int) := by omega
  by_cases h4 : ws.getD 0 [] = drW
  case neg =>
    obtain ⟨rfl, rfl⟩ := Prod.mk.inj (HQ3.out.trans (if_pos h4))
    have hS4 : (S0.toList == (sOf drW).toList) = false := by
      rw [beq_eq_false_iff_ne, hS0]
      exact fun e => h4 (sOf_inj e)
    have hS5 : ¬ S0.toList = [100, 114, 97, 119, 115] := by rw [← drW_list]; simpa using hS4
    have hS6 : (S0.toList == [100, 114, 97, 119, 115]) = false := by rw [beq_eq_false_iff_ne]; exact hS5
    clear HQ3 hn hS0 h4 hS4
    go_enter Tryz.func24, Tryz.ntmps24
    go_wp2
    go_ret
    exact ⟨_, _, _, rfl, HB.out, fun h => absurd h (by decide), Gr2.below _ _ (Below.refl _ _)⟩
  have HQ4 : Hid ((qc, qx) = _) := HQ3.out.trans (if_neg (fun h => h h4))
  rw [h4] at hS0
  have hS5 : S0.toList = [100, 114, 97, 119, 115] := by rw [hS0]; exact drW_list
  clear HQ3 h4 hS0
  by_cases h5 : 4097 < ws.length
  case pos =>
    obtain ⟨rfl, rfl⟩ := Prod.mk.inj (HQ4.out.trans (if_pos h5))
    have hn5' : (4097 : Int) < (n : Int) := by rw [hn]; omega
    clear HQ4 hn h5
    go_enter Tryz.func24, Tryz.ntmps24
    go_wp2
    go_ret
    exact ⟨_, _, _, rfl, HB.out, fun h => absurd h (by decide), Gr2.below _ _ (Below.refl _ _)⟩
  have HQ5 : Hid ((qc, qx) = if ws.tail.all numOk = false then (6, []) else if (ws.tail.map numV).all (fun n => inB n 0 1073741824) = true then (0, ws.tail.map numV) else (7, [])) := HQ4.out.trans (if_neg h5)
  have hn5' : ¬ (4097 : Int) < (n : Int) := by rw [hn]; omega
  have hTl : ws.tail.length = n - 1 := by rw [List.length_tail, hn]
  by_cases hcq1 : cq = 1
  case neg =>
    have HNc : Hid (Calls Tryz.prog 44 #[.slice (some ⟨q, 1, none⟩) (n - 1) (cq - 1)] w _) := HNu.out _ (HSl2.out _ (by rw [if_neg hcq1]))
    clear HQ4 h5 hn hwl hw1 HNu HSl2
    generalize ws.tail = T at *
    cases hall : T.all numOk
    · obtain ⟨rfl, rfl⟩ := Prod.mk.inj (HQ5.out.trans (if_pos hall))
      rw [hall] at HNc
      clear HQ5 hall
      go_enter Tryz.func24, Tryz.ntmps24
      go_wp2_with (first
      | (go_at_call 44; refine HNc.out.mono ?_; rintro e w6 ⟨v6, rfl, hO6, hb6⟩; have BS6 : Hid (Blk w6 b #[.int .i64 u.s, .int .i64 u.c, .int .i64 u.el, .int .i64 u.b, .int .i64 u.r, .int .i64 u.d, .slice ad nd cd, .slice av nv cv] 27) := HB.out.below hb6 HB.out.lt; have HB6 : Hid (Below w.heap.size w w6) := hb6; have hz6 : w.heap.size ≤ w6.heap.size := hb6.size; clear hb6 hO6))
      go_ret
      exact ⟨_, _, _, rfl, HB.out.below HB6.out HB.out.lt, fun h => absurd h (by decide), Gr2.below _ _ HB6.out⟩
    have HQ6 : Hid ((qc, qx) = if (T.map numV).all (fun n => inB n 0 1073741824) = true then (0, T.map numV) else (7, [])) := HQ5.out.trans (if_neg (by rw [hall]; decide))
    have HLl : Hid ((T.map numV).length ≤ 4096) := by unfold Hid; rw [List.length_map, hTl]; omega
    rw [hall] at HNc
    clear HQ5 hall hTl
    generalize T.map numV = L at *
    go_enter Tryz.func24, Tryz.ntmps24
    go_wp2_with (first
      | (go_at_call 44; refine HNc.out.mono ?_; rintro e w6 ⟨v6, rfl, hO6, hb6⟩; have BS6 : Hid (Blk w6 b #[.int .i64 u.s, .int .i64 u.c, .int .i64 u.el, .int .i64 u.b, .int .i64 u.r, .int .i64 u.d, .slice ad nd cd, .slice av nv cv] 27) := HB.out.below hb6 HB.out.lt; have HB6 : Hid (Below w.heap.size w w6) := hb6; have hz6 : w.heap.size ≤ w6.heap.size := hb6.size; have HO6 : Hid (OwnG inC 1 3 w6 w.heap.size v6 L) := hO6 (by simp); obtain ⟨a6, c6, rfl⟩ := HO6.out.shape; clear hb6 hO6))
    have HCl : Hid (∀ j (h : j < L.length), ∃ g, a6 = some ⟨g, 0, none⟩ ∧ w6.cell? ⟨g, j, none⟩ = some (.int .i64 L[j])) := fun j h => by
      obtain ⟨g, cg, e, -, -, hc⟩ := row_ints HO6.out (by omega) (by have := HLl.out; omega)
      cases e
      exact ⟨g, rfl, hc j h⟩
    clear HNc
    go_loopw [28] (fun i wr => ∃ k : Nat, k ≤ L.length ∧ i = .int .i64 k ∧ (L.take k).all (fun n => inB n 0 1073741824) = true ∧ wr = w6) (fun i _ => L.length - (intOf i).toNat)
    case atStart => exact ⟨0, Nat.zero_le _, rfl, rfl, rfl⟩
    case round =>
      obtain ⟨k, hk, rfl, hA, hwr⟩ := hrel
      have hwr2 := hwr.symm
      subst hwr2
      have HA : Hid ((L.take k).all (fun n => inB n 0 1073741824) = true) := hA
      clear hA
      have hkk : k ≤ 4096 := by have := HLl.out; omega
      by_cases hlt : k < L.length
      · have hki : (k : Int) < (L.length : Int) := by omega
        have HK : Hid (k < L.length) := hlt
        obtain ⟨g, rfl, hcx⟩ := HCl.out k hlt
        have HAn : Hid (inB L[k] 0 1073741824 = true → (L.take (k + 1)).all (fun n => inB n 0 1073741824) = true) := fun h => all_takeP hlt (fun n => inB n 0 1073741824) HA.out h
        have HAf : Hid (inB L[k] 0 1073741824 = false → L.all (fun n => inB n 0 1073741824) = false) := fun h => all_noP hlt (fun n => inB n 0 1073741824) h
        generalize L[k] = X at *
        have HDf : Hid (∀ z, Calls Tryz.prog 46 #[.int .i64 X] z fun e w' => e = .returned (.bool (inB X 0 1073741824)) ∧ w' = z) := fun z => drawFits_any X z
        cases hX : inB X 0 1073741824
        · have hAf := HAf.out hX
          obtain ⟨rfl, rfl⟩ := Prod.mk.inj (HQ6.out.trans (if_neg (by rw [hAf]; decide)))
          rw [hX] at HDf
          clear HAn HAf HQ6 hAf hX
          go_wp2_with (first
          | (go_at_call 46; refine (HDf.out _).mono ?_; rintro e w' ⟨rfl, hww⟩; have hww2 := hww.symm; subst hww2))
          go_ret
          exact ⟨_, _, _, rfl, BS6.out, fun h => absurd h (by decide), Gr2.below _ _ HB6.out⟩
        · have hA2 := HAn.out hX
          have HA2 : Hid ((L.take (k + 1)).all (fun n => inB n 0 1073741824) = true) := hA2
          rw [hX] at HDf
          clear hA2 HAn HAf hX
          go_wp2_with (first
          | (go_at_call 46; refine (HDf.out _).mono ?_; rintro e w' ⟨rfl, hww⟩; have hww2 := hww.symm; subst hww2))
          go_roundw
          case rel => exact ⟨k + 1, by have := HK.out; omega, by go_num, HA2.out, by simp⟩
          case measure => have := HK.out; simp [intOf]; omega
      · obtain rfl : k = L.length := by omega
        rw [List.take_length] at HA
        obtain ⟨rfl, hqx⟩ := Prod.mk.inj (HQ6.out.trans (if_pos HA.out))
        have HQx : Hid (qx = L) := hqx
        clear hqx HQ6 HA
        have x6 : w6.cell? ⟨b, 6, none⟩ = some (.slice ad nd cd) := BS6.out.cell 6
        have f6 : w6.frozen? ⟨b, 6, none⟩ = false := BS6.out.free 6
        have BS7 : Hid (Blk (w6.setCell ⟨b, 6, none⟩ (.slice a6 L.length c6)) b #[.int .i64 u.s, .int .i64 u.c, .int .i64 u.el, .int .i64 u.b, .int .i64 u.r, .int .i64 u.d, .slice a6 L.length c6, .slice av nv cv] 27) := by
          have h9 := BS6.out.set 6 (.slice a6 L.length c6)
          unfold Hid
          simpa using h9
        go_wp2
        go_ret
        refine ⟨rfl, _, _, _, BS7.out, ?_, Gr2.of _ HB6.out rfl rfl rfl (by simp [World.setCell]) (fun k hk => Below.heap_setCell _ _ _ _ hk)⟩
        rw [HQx.out]
        refine HO6.out.block fun j hj => ?_
        have hj2 := (HO6.out.lts j hj).1
        exact Below.heap_setCell _ _ _ _ (show j ≠ b by omega)
  case pos =>
    subst hcq1
    obtain hn1 : n = 1 := by omega
    have HNc : Hid (Calls Tryz.prog 44 #[.slice (some ⟨q, 0, none⟩) 0 0] w _) := HNu.out _ (HSl2.out _ (by rw [if_pos rfl, hn1]))
    rw [hn1] at hcq hn hTl h0i hn5' ⊢
    clear hn1 h0n
    have hn1 : True := trivial
    clear HQ4 h5 hn hwl hw1 HNu HSl2
    generalize ws.tail = T at *
    cases hall : T.all numOk
    · obtain ⟨rfl, rfl⟩ := Prod.mk.inj (HQ5.out.trans (if_pos hall))
      rw [hall] at HNc
      clear HQ5 hall
      go_enter Tryz.func24, Tryz.ntmps24
      go_wp2_with (first
      | (go_at_call 44; refine HNc.out.mono ?_; rintro e w6 ⟨v6, rfl, hO6, hb6⟩; have BS6 : Hid (Blk w6 b #[.int .i64 u.s, .int .i64 u.c, .int .i64 u.el, .int .i64 u.b, .int .i64 u.r, .int .i64 u.d, .slice ad nd cd, .slice av nv cv] 27) := HB.out.below hb6 HB.out.lt; have HB6 : Hid (Below w.heap.size w w6) := hb6; have hz6 : w.heap.size ≤ w6.heap.size := hb6.size; clear hb6 hO6))
      go_ret
      exact ⟨_, _, _, rfl, HB.out.below HB6.out HB.out.lt, fun h => absurd h (by decide), Gr2.below _ _ HB6.out⟩
    have HQ6 : Hid ((qc, qx) = if (T.map numV).all (fun n => inB n 0 1073741824) = true then (0, T.map numV) else (7, [])) := HQ5.out.trans (if_neg (by rw [hall]; decide))
    have HLl : Hid ((T.map numV).length ≤ 4096) := by unfold Hid; rw [List.length_map, hTl]; omega
    rw [hall] at HNc
    clear HQ5 hall hTl
    generalize T.map numV = L at *
    go_enter Tryz.func24, Tryz.ntmps24
    go_wp2_with (first
      | (go_at_call 44; refine HNc.out.mono ?_; rintro e w6 ⟨v6, rfl, hO6, hb6⟩; have BS6 : Hid (Blk w6 b #[.int .i64 u.s, .int .i64 u.c, .int .i64 u.el, .int .i64 u.b, .int .i64 u.r, .int .i64 u.d, .slice ad nd cd, .slice av nv cv] 27) := HB.out.below hb6 HB.out.lt; have HB6 : Hid (Below w.heap.size w w6) := hb6; have hz6 : w.heap.size ≤ w6.heap.size := hb6.size; have HO6 : Hid (OwnG inC 1 3 w6 w.heap.size v6 L) := hO6 (by simp); obtain ⟨a6, c6, rfl⟩ := HO6.out.shape; clear hb6 hO6))
    have HCl : Hid (∀ j (h : j < L.length), ∃ g, a6 = some ⟨g, 0, none⟩ ∧ w6.cell? ⟨g, j, none⟩ = some (.int .i64 L[j])) := fun j h => by
      obtain ⟨g, cg, e, -, -, hc⟩ := row_ints HO6.out (by omega) (by have := HLl.out; omega)
      cases e
      exact ⟨g, rfl, hc j h⟩
    clear HNc
    go_loopw [28] (fun i wr => ∃ k : Nat, k ≤ L.length ∧ i = .int .i64 k ∧ (L.take k).all (fun n => inB n 0 1073741824) = true ∧ wr = w6) (fun i _ => L.length - (intOf i).toNat)
    case atStart => exact ⟨0, Nat.zero_le _, rfl, rfl, rfl⟩
    case round =>
      obtain ⟨k, hk, rfl, hA, hwr⟩ := hrel
      have hwr2 := hwr.symm
      subst hwr2
      have HA : Hid ((L.take k).all (fun n => inB n 0 1073741824) = true) := hA
      clear hA
      have hkk : k ≤ 4096 := by have := HLl.out; omega
      by_cases hlt : k < L.length
      · have hki : (k : Int) < (L.length : Int) := by omega
        have HK : Hid (k < L.length) := hlt
        obtain ⟨g, rfl, hcx⟩ := HCl.out k hlt
        have HAn : Hid (inB L[k] 0 1073741824 = true → (L.take (k + 1)).all (fun n => inB n 0 1073741824) = true) := fun h => all_takeP hlt (fun n => inB n 0 1073741824) HA.out h
        have HAf : Hid (inB L[k] 0 1073741824 = false → L.all (fun n => inB n 0 1073741824) = false) := fun h => all_noP hlt (fun n => inB n 0 1073741824) h
        generalize L[k] = X at *
        have HDf : Hid (∀ z, Calls Tryz.prog 46 #[.int .i64 X] z fun e w' => e = .returned (.bool (inB X 0 1073741824)) ∧ w' = z) := fun z => drawFits_any X z
        cases hX : inB X 0 1073741824
        · have hAf := HAf.out hX
          obtain ⟨rfl, rfl⟩ := Prod.mk.inj (HQ6.out.trans (if_neg (by rw [hAf]; decide)))
          rw [hX] at HDf
          clear HAn HAf HQ6 hAf hX
          go_wp2_with (first
          | (go_at_call 46; refine (HDf.out _).mono ?_; rintro e w' ⟨rfl, hww⟩; have hww2 := hww.symm; subst hww2))
          go_ret
          exact ⟨_, _, _, rfl, BS6.out, fun h => absurd h (by decide), Gr2.below _ _ HB6.out⟩
        · have hA2 := HAn.out hX
          have HA2 : Hid ((L.take (k + 1)).all (fun n => inB n 0 1073741824) = true) := hA2
          rw [hX] at HDf
          clear hA2 HAn HAf hX
          go_wp2_with (first
          | (go_at_call 46; refine (HDf.out _).mono ?_; rintro e w' ⟨rfl, hww⟩; have hww2 := hww.symm; subst hww2))
          go_roundw
          case rel => exact ⟨k + 1, by have := HK.out; omega, by go_num, HA2.out, by simp⟩
          case measure => have := HK.out; simp [intOf]; omega
      · obtain rfl : k = L.length := by omega
        rw [List.take_length] at HA
        obtain ⟨rfl, hqx⟩ := Prod.mk.inj (HQ6.out.trans (if_pos HA.out))
        have HQx : Hid (qx = L) := hqx
        clear hqx HQ6 HA
        have x6 : w6.cell? ⟨b, 6, none⟩ = some (.slice ad nd cd) := BS6.out.cell 6
        have f6 : w6.frozen? ⟨b, 6, none⟩ = false := BS6.out.free 6
        have BS7 : Hid (Blk (w6.setCell ⟨b, 6, none⟩ (.slice a6 L.length c6)) b #[.int .i64 u.s, .int .i64 u.c, .int .i64 u.el, .int .i64 u.b, .int .i64 u.r, .int .i64 u.d, .slice a6 L.length c6, .slice av nv cv] 27) := by
          have h9 := BS6.out.set 6 (.slice a6 L.length c6)
          unfold Hid
          simpa using h9
        go_wp2
        go_ret
        refine ⟨rfl, _, _, _, BS7.out, ?_, Gr2.of _ HB6.out rfl rfl rfl (by simp [World.setCell]) (fun k hk => Below.heap_setCell _ _ _ _ hk)⟩
        rw [HQx.out]
        refine HO6.out.block fun j hj => ?_
        have hj2 := (HO6.out.lts j hj).1
        exact Below.heap_setCell _ _ _ _ (show j ≠ b by omega)
end Go.Proofs.YtanpindbhdeomaaGreatDoor
