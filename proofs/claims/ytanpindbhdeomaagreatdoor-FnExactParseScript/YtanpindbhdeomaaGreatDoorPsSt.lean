/-
  spec.l7stepLine: a step's line.
-/
import Derived.Test.YtanpindbhdeomaaGreatDoorPsAk
import Derived.Test.YtanpindbhdeomaaGreatDoorPsIb
namespace Go.Proofs.YtanpindbhdeomaaGreatDoor
open Go.RowKit
set_option linter.unusedVariables false
set_option linter.unusedSimpArgs false

def stepQ (sv cc : Int) (had : Nat) (ws : List (List UInt8)) : Int × Stp :=
  if kindK (ws.getD 0 []) = 0 then (4, zS)
  else if had = 4096 then (5, zS)
  else if kindK (ws.getD 0 []) = 11 then askQ sv cc ws
  else if ws.length ≠ 1 + cntK (kindK (ws.getD 0 [])) then (5, zS)
  else if ws.tail.all numOk = false then (6, zS)
  else if stOk sv cc (numS (kindK (ws.getD 0 [])) ws) = true then (0, numS (kindK (ws.getD 0 [])) ws) else (7, zS)
theorem kindK_le (x : List UInt8) : 0 ≤ kindK x ∧ kindK x ≤ 14 := by
  unfold kindK
  repeat' split
  all_goals omega
theorem kindK_inv (x : List UInt8) (k : Nat) (h1 : 1 ≤ k) (h2 : k ≤ 14) (h : kindK x = k) : x = wordK (k : Int) := by
  refine Classical.byContradiction fun hne => ?_
  by_cases hex : ∃ j : Nat, 1 ≤ j ∧ j ≤ 14 ∧ x = wordK (j : Int)
  · obtain ⟨j, j1, j2, rfl⟩ := hex
    have := kindK_hit j j1 j2
    rw [h] at this
    have e : k = j := by omega
    exact hne (by rw [e])
  · have := kindK_none x fun j j1 j2 e => hex ⟨j, j1, j2, e⟩
    omega
/-- the kind among the first k -/
def kindU (x : List UInt8) (k : Nat) : Int := if kindK x < k then kindK x else 0
theorem kindU_1 (x : List UInt8) : kindU x 1 = 0 := by
  have := kindK_le x
  unfold kindU
  split <;> omega
theorem kindU_15 (x : List UInt8) : kindU x 15 = kindK x := by
  have := kindK_le x
  unfold kindU
  rw [if_pos (by omega)]
theorem kindU_hit (k : Nat) (h1 : 1 ≤ k) (h4 : k ≤ 14) : kindU (wordK (k : Int)) (k + 1) = k := by
  unfold kindU
  rw [kindK_hit k h1 h4, if_pos (by omega)]
theorem kindU_miss (x : List UInt8) (k : Nat) (h1 : 1 ≤ k) (h4 : k ≤ 14) (h : x ≠ wordK (k : Int)) : kindU x (k + 1) = kindU x k := by
  have hk : kindK x ≠ k := fun e => h (kindK_inv x k h1 h4 e)
  unfold kindU
  by_cases hlt : kindK x < k
  · rw [if_pos hlt, if_pos (by omega)]
  · rw [if_neg hlt, if_neg (by omega)]
theorem sl_tail {w : World} {q off n cap : Nat} {ws : List (List UInt8)} (h : Sl txC 1 w (.slice (some ⟨q, off, none⟩) n cap) (ws.map sOf)) : Sl txC 1 w (.slice (some ⟨q, off + 1, none⟩) (n - 1) (cap - 1)) (ws.tail.map sOf) := by
  obtain ⟨hl, a, cap', e, hc⟩ := h
  simp only [Value.slice.injEq] at e
  obtain ⟨rfl, rfl, rfl⟩ := e
  have hl2 : (ws.tail.map sOf).length = (ws.map sOf).length - 1 := by simp
  refine ⟨by omega, some ⟨q, off + 1, none⟩, cap - 1, by rw [hl2], fun i hi => ⟨q, off + 1, rfl, fun j hj => ?_⟩⟩
  obtain ⟨b, o, e, hj2⟩ := hc 0 (by omega)
  cases e
  have h2 := hj2 (j + 1) (by omega)
  have e1 : (ws.tail.map sOf)[j] = (ws.map sOf)[j + 1]'(by omega) := by simp
  rw [e1]
  have e2 : off + 1 + j * 1 = off + (j + 1) * 1 := by omega
  rw [e2]
  exact h2
theorem numS_row (kd : Int) (ws : List (List UInt8)) (h : ws.length = 1 + cntK kd) :
    ∃ x1 x2 x3, ws.tail.map numV ++ List.replicate (3 - cntK kd) 0 = [x1, x2, x3] ∧ numS kd ws = ⟨kd, x1, x2, x3, 0, 0, 0, ⟨#[]⟩, ⟨#[]⟩, ⟨#[]⟩⟩ := by
  have hC13 : 1 ≤ cntK kd ∧ cntK kd ≤ 3 := by unfold cntK; (repeat' split) <;> omega
  have hx : ∀ C, cntK kd = C → C = 1 ∨ C = 2 ∨ C = 3 := fun C e => by omega
  unfold numS
  generalize cntK kd = C at *
  rcases hx C rfl with rfl | rfl | rfl
  · match ws, h with
    | [a, b], _ => exact ⟨_, _, _, rfl, rfl⟩
  · match ws, h with
    | [a, b, c], _ => exact ⟨_, _, _, rfl, rfl⟩
  · match ws, h with
    | [a, b, c, d], _ => exact ⟨_, _, _, rfl, rfl⟩
def lenV : Value → Nat
  | .slice _ n _ => n
  | _ => 0
set_option maxHeartbeats 8000000 in
set_option maxRecDepth 100000 in
theorem l7stepLine_any (sv cc el b r d : Int) (v : Value) (ws : List (List UInt8)) (had : Nat) (w : World) (hv : Sl txC 1 w v (ws.map sOf)) (hl : ws.length ≤ 70000) (hl1 : 1 ≤ ws.length) (hw : ∀ x ∈ ws, x.length ≤ 65536 ∧ x ≠ []) (hcp : ∀ a n c, v = .slice a n c → n ≤ c) :
    Calls Tryz.prog 17 #[.agg #[.int .i64 sv, .int .i64 cc, .int .i64 el, .int .i64 b, .int .i64 r, .int .i64 d], v, .int .i64 (had : Int)] w fun e w' => e = .returned (.tuple #[.agg #[.int .i64 (stepQ sv cc had ws).2.kd, .int .i64 (stepQ sv cc had ws).2.a, .int .i64 (stepQ sv cc had ws).2.b, .int .i64 (stepQ sv cc had ws).2.c, .int .i64 (stepQ sv cc had ws).2.cl, .int .i64 (stepQ sv cc had ws).2.sq, .int .i64 (stepQ sv cc had ws).2.op, .string (stepQ sv cc had ws).2.k, .string (stepQ sv cc had ws).2.v, .string (stepQ sv cc had ws).2.o], .int .i64 (stepQ sv cc had ws).1]) ∧ Below w.heap.size w w' := by
  have HV : Hid (Sl txC 1 w v (ws.map sOf)) := hv
  obtain ⟨hlm, a, cap, rfl, hc⟩ := hv
  have hml : (ws.map sOf).length = ws.length := List.length_map ..
  have hcap := hcp _ _ _ rfl
  clear hcp
  rw [hml] at hcap
  have HC : Hid (∀ z, Below w.heap.size w z → ∀ j (h : j < ws.length), ∃ q off, a = some ⟨q, off, none⟩ ∧ z.cell? ⟨q, off + j, none⟩ = some (.string (sOf ws[j]))) := fun z hb j h => by
    obtain ⟨q, off, e, hj⟩ := hc j (by omega)
    have h2 := hj j (by omega) 0 _ rfl
    have h3 : w.cell? ⟨q, off + j, none⟩ = some (.string (sOf ws[j])) := by simpa using h2
    exact ⟨q, off, e, (hb.cell (p := ⟨q, off + j, none⟩) (cell_lt h3)).trans h3⟩
  have HW : Hid (∀ x ∈ ws, x.length ≤ 65536 ∧ x ≠ []) := hw
  rw [hml] at HV ⊢
  clear hc hw hlm hml
  have HQ : Hid (stepQ sv cc had ws = if kindK (ws.getD 0 []) = 0 then (4, zS) else if had = 4096 then (5, zS) else if kindK (ws.getD 0 []) = 11 then askQ sv cc ws else if ws.length ≠ 1 + cntK (kindK (ws.getD 0 [])) then (5, zS) else if ws.tail.all numOk = false then (6, zS) else if stOk sv cc (numS (kindK (ws.getD 0 [])) ws) = true then (0, numS (kindK (ws.getD 0 [])) ws) else (7, zS)) := rfl
  generalize stepQ sv cc had ws = AQ at HQ ⊢
  obtain ⟨ac, ax⟩ := AQ
  dsimp only
  have G1 : Hid True := trivial
  have G2 : Hid True := trivial
  have G3 : Hid True := trivial
  have h0l : (0 : Int) < (ws.length : Int) := by omega
  have e0 : ws.getD 0 [] = ws[0] := by rw [List.getD_eq_getElem?_getD, List.getElem?_eq_getElem (by omega)]; rfl
  rw [e0] at HQ
  obtain ⟨q, off, rfl, hc2⟩ := HC.out w (Below.refl _ _) 0 (by omega)
  have HCl : Hid (∀ z, Below w.heap.size w z → ∀ j (h : j < ws.length), z.cell? ⟨q, off + j, none⟩ = some (.string (sOf ws[j]))) := fun z hb j h => by
    obtain ⟨q', off', e, hj⟩ := HC.out z hb j h
    cases e
    exact hj
  have hql : q < w.heap.size := cell_lt hc2
  have HOp : Hid (∀ (k : Nat), 1 ≤ k → k ≤ 14 → ∀ z, Calls Tryz.prog 33 #[.int .i64 (k : Int)] z fun e w' => e = .returned (.string (sOf (wordK (k : Int)))) ∧ Below z.heap.size z w') := fun k h1 h4 z => l7word_any (k : Int) (by omega) (by omega) z
  clear HC hc2
  have HVn : Hid (∃ n : Nat, n = ws.length) := ⟨_, rfl⟩
  obtain ⟨n, hn⟩ := HVn
  have hn' : Hid (n = ws.length) := hn
  rw [← hn] at h0l HV hcap ⊢
  have h0n : 0 < n := by omega
  have h1n : (1 : Int) ≤ (n : Int) := by omega
  clear hn
  go_enter Tryz.func17, Tryz.ntmps17
  go_wp2_with (first
    | (have hBA := G1; refine gate_st 48 (.tmp 8) _ rfl ?_; clear hBA; refine wpl_store_last rfl 48 (.tmp 8) _ rfl (w.heap.size + 1 + 1) rfl (by simp) rfl sizeStP rfl rfl (by simp [Value.oneCell']) ?_; clear G1))
  have BS : Hid (Blk (((w.alloc (.cells #[.int .i64 sv, .int .i64 cc, .int .i64 el, .int .i64 b, .int .i64 r, .int .i64 d] 23)).alloc (.cells #[.int .i64 0, .int .i64 0, .int .i64 0, .int .i64 0, .int .i64 0, .int .i64 0, .int .i64 0, .string ⟨#[]⟩, .string ⟨#[]⟩, .string ⟨#[]⟩] 48)).alloc (.cells #[.int .i64 0, .int .i64 0, .int .i64 0, .int .i64 0, .int .i64 0, .int .i64 0, .int .i64 0, .string ⟨#[]⟩, .string ⟨#[]⟩, .string ⟨#[]⟩] 48)) w.heap.size #[.int .i64 sv, .int .i64 cc, .int .i64 el, .int .i64 b, .int .i64 r, .int .i64 d] 23) := ((Blk.new _ _ _).alloc _).alloc _
  have BR : Hid (Blk (((w.alloc (.cells #[.int .i64 sv, .int .i64 cc, .int .i64 el, .int .i64 b, .int .i64 r, .int .i64 d] 23)).alloc (.cells #[.int .i64 0, .int .i64 0, .int .i64 0, .int .i64 0, .int .i64 0, .int .i64 0, .int .i64 0, .string ⟨#[]⟩, .string ⟨#[]⟩, .string ⟨#[]⟩] 48)).alloc (.cells #[.int .i64 0, .int .i64 0, .int .i64 0, .int .i64 0, .int .i64 0, .int .i64 0, .int .i64 0, .string ⟨#[]⟩, .string ⟨#[]⟩, .string ⟨#[]⟩] 48)) (w.heap.size + 1) #[.int .i64 0, .int .i64 0, .int .i64 0, .int .i64 0, .int .i64 0, .int .i64 0, .int .i64 0, .string ⟨#[]⟩, .string ⟨#[]⟩, .string ⟨#[]⟩] 48) := (Blk.new' _ _ _ (by simp)).alloc _
  have BN : Hid (Blk (((w.alloc (.cells #[.int .i64 sv, .int .i64 cc, .int .i64 el, .int .i64 b, .int .i64 r, .int .i64 d] 23)).alloc (.cells #[.int .i64 0, .int .i64 0, .int .i64 0, .int .i64 0, .int .i64 0, .int .i64 0, .int .i64 0, .string ⟨#[]⟩, .string ⟨#[]⟩, .string ⟨#[]⟩] 48)).alloc (.cells #[.int .i64 0, .int .i64 0, .int .i64 0, .int .i64 0, .int .i64 0, .int .i64 0, .int .i64 0, .string ⟨#[]⟩, .string ⟨#[]⟩, .string ⟨#[]⟩] 48)) (w.heap.size + 1 + 1) #[.int .i64 0, .int .i64 0, .int .i64 0, .int .i64 0, .int .i64 0, .int .i64 0, .int .i64 0, .string ⟨#[]⟩, .string ⟨#[]⟩, .string ⟨#[]⟩] 48) := Blk.new' _ _ _ (by simp)
  have HB3 : Hid (Below w.heap.size w (((w.alloc (.cells #[.int .i64 sv, .int .i64 cc, .int .i64 el, .int .i64 b, .int .i64 r, .int .i64 d] 23)).alloc (.cells #[.int .i64 0, .int .i64 0, .int .i64 0, .int .i64 0, .int .i64 0, .int .i64 0, .int .i64 0, .string ⟨#[]⟩, .string ⟨#[]⟩, .string ⟨#[]⟩] 48)).alloc (.cells #[.int .i64 0, .int .i64 0, .int .i64 0, .int .i64 0, .int .i64 0, .int .i64 0, .int .i64 0, .string ⟨#[]⟩, .string ⟨#[]⟩, .string ⟨#[]⟩] 48))) := (((Below.refl _ _).alloc (Nat.le_refl _) _).alloc (by simp) _).alloc (by simp <;> omega) _
  have hz3 : (((w.alloc (.cells #[.int .i64 sv, .int .i64 cc, .int .i64 el, .int .i64 b, .int .i64 r, .int .i64 d] 23)).alloc (.cells #[.int .i64 0, .int .i64 0, .int .i64 0, .int .i64 0, .int .i64 0, .int .i64 0, .int .i64 0, .string ⟨#[]⟩, .string ⟨#[]⟩, .string ⟨#[]⟩] 48)).alloc (.cells #[.int .i64 0, .int .i64 0, .int .i64 0, .int .i64 0, .int .i64 0, .int .i64 0, .int .i64 0, .string ⟨#[]⟩, .string ⟨#[]⟩, .string ⟨#[]⟩] 48)).heap.size = w.heap.size + 3 := by simp
  generalize (((w.alloc (.cells #[.int .i64 sv, .int .i64 cc, .int .i64 el, .int .i64 b, .int .i64 r, .int .i64 d] 23)).alloc (.cells #[.int .i64 0, .int .i64 0, .int .i64 0, .int .i64 0, .int .i64 0, .int .i64 0, .int .i64 0, .string ⟨#[]⟩, .string ⟨#[]⟩, .string ⟨#[]⟩] 48)).alloc (.cells #[.int .i64 0, .int .i64 0, .int .i64 0, .int .i64 0, .int .i64 0, .int .i64 0, .int .i64 0, .string ⟨#[]⟩, .string ⟨#[]⟩, .string ⟨#[]⟩] 48)) = w3 at *
  go_loopw [9, 10] (fun ov kv wr => ∃ k : Nat, 1 ≤ k ∧ k ≤ 15 ∧ kv = .int .i64 k ∧ ov = .int .i64 (kindU ws[0] k) ∧ Below w3.heap.size w3 wr) (fun _ kv _ => 15 - (intOf kv).toNat)
  case atStart => exact ⟨1, by omega, by omega, rfl, by rw [kindU_1], Below.refl _ _⟩
  case round =>
    obtain ⟨k, hk1, hk5, rfl, rfl, hB⟩ := hrel
    have HB : Hid (Below w3.heap.size w3 wr) := hB
    have HBw : Hid (Below w.heap.size w wr) := HB3.out.trans (hB.mono (by omega))
    have hzr := hB.size
    clear hB
    by_cases hk4 : k ≤ 14
    · have hkl : (k : Int) ≤ 14 := by omega
      have hc2 : wr.cell? ⟨q, off, none⟩ = some (.string (sOf ws[0])) := HCl.out wr HBw.out 0 (by omega)
      have HOk : Hid (∀ z, Calls Tryz.prog 33 #[.int .i64 (k : Int)] z fun e w' => e = .returned (.string (sOf (wordK (k : Int)))) ∧ Below z.heap.size z w') := HOp.out k hk1 hk4
      have hqr : q < wr.heap.size := by omega
      by_cases he : ws[0] = wordK (k : Int)
      · have hE : Hid (kindU ws[0] (k + 1) = k) := by unfold Hid; rw [he]; exact kindU_hit k hk1 hk4
        have hsame : sOf ws[0] = sOf (wordK (k : Int)) := by rw [he]
        rw [hsame] at hc2
        clear he hsame
        generalize sOf (wordK (k : Int)) = A at *
        generalize kindU ws[0] k = OU at *
        go_wp2
        go_region_held3 (fun w' => w'.cell? ⟨q, off, none⟩ = some (.string A)) (simp [*, go_sem])
          (first
            | (go_at_call 33; refine Calls.mono (HOk.out _) ?_; rintro e w5 ⟨rfl, hb5⟩; have z1 := hb5.cell (p := ⟨q, off, none⟩) hqr))
        have HB5 : Hid (Below w3.heap.size w3 w5) := HB.out.trans ((((Below.refl _ _).drew).trans (hb5.mono (Nat.le_refl _))).mono hzr)
        go_wp2
        go_roundw
        case rel => exact ⟨k + 1, by omega, by omega, by go_num, by rw [hE.out], HB5.out⟩
        case measure => simp [intOf]; omega
      · have hE : Hid (kindU ws[0] (k + 1) = kindU ws[0] k) := kindU_miss ws[0] k hk1 hk4 he
        have hneq : ((sOf ws[0]).toList == (sOf (wordK (k : Int))).toList) = false := by
          rw [beq_eq_false_iff_ne]
          exact fun e => he (sOf_inj e)
        clear he
        generalize sOf (wordK (k : Int)) = A at *
        generalize hS2 : sOf ws[0] = S2 at hc2 hneq
        clear hS2
        generalize hOU : kindU ws[0] k = OU at *
        go_wp2
        go_region_held3 (fun w' => w'.cell? ⟨q, off, none⟩ = some (.string S2)) (simp [*, go_sem])
          (first
            | (go_at_call 33; refine Calls.mono (HOk.out _) ?_; rintro e w5 ⟨rfl, hb5⟩; have z1 := hb5.cell (p := ⟨q, off, none⟩) hqr))
        have HB5 : Hid (Below w3.heap.size w3 w5) := HB.out.trans ((((Below.refl _ _).drew).trans (hb5.mono (Nat.le_refl _))).mono hzr)
        go_wp2
        go_roundw
        case rel => exact ⟨k + 1, by omega, by omega, by go_num, by rw [hE.out], HB5.out⟩
        case measure => simp [intOf]; omega
    · obtain rfl : k = 15 := by omega
      rw [kindU_15]
      clear HOp
      obtain ⟨wa, hwa⟩ : ∃ z, z = wr := ⟨_, rfl⟩
      subst hwa
      have BS1 : Hid (Blk wa w.heap.size #[.int .i64 sv, .int .i64 cc, .int .i64 el, .int .i64 b, .int .i64 r, .int .i64 d] 23) := BS.out.below HB.out BS.out.lt
      have BR1 : Hid (Blk wa (w.heap.size + 1) #[.int .i64 0, .int .i64 0, .int .i64 0, .int .i64 0, .int .i64 0, .int .i64 0, .int .i64 0, .string ⟨#[]⟩, .string ⟨#[]⟩, .string ⟨#[]⟩] 48) := BR.out.below HB.out BR.out.lt
      have BN1 : Hid (Blk wa (w.heap.size + 1 + 1) #[.int .i64 0, .int .i64 0, .int .i64 0, .int .i64 0, .int .i64 0, .int .i64 0, .int .i64 0, .string ⟨#[]⟩, .string ⟨#[]⟩, .string ⟨#[]⟩] 48) := BN.out.below HB.out BN.out.lt
      clear BS BR BN HB HB3
      have hkd := kindK_le ws[0]
      have HVr : Hid (Sl txC 1 wa (.slice (some ⟨q, off, none⟩) n cap) (ws.map sOf)) := HV.out.below HBw.out
      have HCt : Hid (1 ≤ kindK ws[0] → ∀ z, Calls Tryz.prog 35 #[.int .i64 (kindK ws[0])] z fun e w' => e = .returned (.int .i64 (cntK (kindK ws[0]) : Int)) ∧ w' = z) := fun h z => l7count_any _ h hkd.2 z
      have HAk : Hid (Calls Tryz.prog 34 #[.agg #[.int .i64 sv, .int .i64 cc, .int .i64 el, .int .i64 b, .int .i64 r, .int .i64 d], .slice (some ⟨q, off, none⟩) n cap] wa fun e w' => e = .returned (.tuple #[.agg #[.int .i64 (askQ sv cc ws).2.kd, .int .i64 (askQ sv cc ws).2.a, .int .i64 (askQ sv cc ws).2.b, .int .i64 (askQ sv cc ws).2.c, .int .i64 (askQ sv cc ws).2.cl, .int .i64 (askQ sv cc ws).2.sq, .int .i64 (askQ sv cc ws).2.op, .string (askQ sv cc ws).2.k, .string (askQ sv cc ws).2.v, .string (askQ sv cc ws).2.o], .int .i64 (askQ sv cc ws).1]) ∧ Below wa.heap.size wa w') := l7askLine_op sv cc el b r d _ ws wa HVr.out hl HW.out
      clear HV HCl
      generalize hKD : kindK ws[0] = KD at *
      by_cases hK0 : KD = 0
      · have HQ2 : (ac, ax) = (4, zS) := by rw [HQ.out, if_pos hK0]
        obtain ⟨rfl, rfl⟩ := Prod.mk.inj HQ2
        subst hK0
        clear HQ HQ2 hKD HAk HCt
        go_wp2_with (first
          | (have hBA := G2; refine gate_ld 48 (.tmp 8) rfl ?_; clear hBA; refine wpl_load_blk rfl 48 (.tmp 8) rfl (w.heap.size + 1 + 1) rfl BN1.out Tryz.underlying48 rfl sizeStP rfl ?_; clear G2)
          | (have hBA := G3; refine gate_st 48 (.tmp 6) _ rfl ?_; clear hBA; refine wpl_store_blk rfl 48 (.tmp 6) _ rfl (w.heap.size + 1) rfl rfl BR1.out sizeStP rfl rfl (by simp [Value.oneCell']) ?_; clear G3))
        have cb := (BR1.out.row #[.int .i64 0, .int .i64 0, .int .i64 0, .int .i64 0, .int .i64 0, .int .i64 0, .int .i64 0, .string ⟨#[]⟩, .string ⟨#[]⟩, .string ⟨#[]⟩]).cell
        exact bodyPost_ret (v := .tuple #[.agg #[.int .i64 0, .int .i64 0, .int .i64 0, .int .i64 0, .int .i64 0, .int .i64 0, .int .i64 0, .string ⟨#[]⟩, .string ⟨#[]⟩, .string ⟨#[]⟩], .int .i64 4]) (by simp [results, Tryz.results17, go_sem, cb]) rfl ⟨rfl, below_row HBw.out (by omega) _⟩
      have hK0' : (KD == 0) = false := by simpa using hK0
      rw [if_neg hK0] at HQ
      by_cases hhd : had = 4096
      · have HQ2 : (ac, ax) = (5, zS) := by rw [HQ.out, if_pos hhd]
        obtain ⟨rfl, rfl⟩ := Prod.mk.inj HQ2
        subst hhd
        clear HQ HQ2 hKD HAk HCt
        go_wp2_with (first
          | (have hBA := G2; refine gate_ld 48 (.tmp 8) rfl ?_; clear hBA; refine wpl_load_blk rfl 48 (.tmp 8) rfl (w.heap.size + 1 + 1) rfl BN1.out Tryz.underlying48 rfl sizeStP rfl ?_; clear G2)
          | (have hBA := G3; refine gate_st 48 (.tmp 6) _ rfl ?_; clear hBA; refine wpl_store_blk rfl 48 (.tmp 6) _ rfl (w.heap.size + 1) rfl rfl BR1.out sizeStP rfl rfl (by simp [Value.oneCell']) ?_; clear G3))
        have cb := (BR1.out.row #[.int .i64 0, .int .i64 0, .int .i64 0, .int .i64 0, .int .i64 0, .int .i64 0, .int .i64 0, .string ⟨#[]⟩, .string ⟨#[]⟩, .string ⟨#[]⟩]).cell
        exact bodyPost_ret (v := .tuple #[.agg #[.int .i64 0, .int .i64 0, .int .i64 0, .int .i64 0, .int .i64 0, .int .i64 0, .int .i64 0, .string ⟨#[]⟩, .string ⟨#[]⟩, .string ⟨#[]⟩], .int .i64 5]) (by simp [results, Tryz.results17, go_sem, cb]) rfl ⟨rfl, below_row HBw.out (by omega) _⟩
      rw [if_neg hhd] at HQ
      have hhd' : ((had : Int) == 4096) = false := by rw [beq_eq_false_iff_ne]; omega
      by_cases hK11 : KD = 11
      · rw [if_pos hK11] at HQ
        have HQ2 : Hid (askQ sv cc ws = (ac, ax)) := HQ.out.symm
        rw [HQ2.out] at HAk
        subst hK11
        clear HQ HQ2 hKD HCt
        have s0 : wa.cell? ⟨w.heap.size, 0, none⟩ = some (.int .i64 sv) := BS1.out.cell 0
        have s1 : wa.cell? ⟨w.heap.size, 1, none⟩ = some (.int .i64 cc) := BS1.out.cell 1
        have s2 : wa.cell? ⟨w.heap.size, 2, none⟩ = some (.int .i64 el) := BS1.out.cell 2
        have s3 : wa.cell? ⟨w.heap.size, 3, none⟩ = some (.int .i64 b) := BS1.out.cell 3
        have s4 : wa.cell? ⟨w.heap.size, 4, none⟩ = some (.int .i64 r) := BS1.out.cell 4
        have s5 : wa.cell? ⟨w.heap.size, 5, none⟩ = some (.int .i64 d) := BS1.out.cell 5
        go_wp2_with (first
          | (go_at_call 34; refine Calls.mono HAk.out ?_; rintro e w5 ⟨rfl, hb5⟩; have BR5 : Hid (Blk w5 (w.heap.size + 1) #[.int .i64 0, .int .i64 0, .int .i64 0, .int .i64 0, .int .i64 0, .int .i64 0, .int .i64 0, .string ⟨#[]⟩, .string ⟨#[]⟩, .string ⟨#[]⟩] 48) := BR1.out.below hb5 BR1.out.lt; have HB5 : Hid (Below w.heap.size w w5) := HBw.out.trans (hb5.mono (by omega)); clear hb5)
          | (have hBA := G3; refine gate_st 48 (.tmp 6) _ rfl ?_; clear hBA; refine wpl_store_blk rfl 48 (.tmp 6) _ rfl (w.heap.size + 1) rfl rfl BR5.out sizeStP rfl rfl (by simp [Value.oneCell']) ?_; clear G3))
        have cb := (BR5.out.row #[.int .i64 ax.kd, .int .i64 ax.a, .int .i64 ax.b, .int .i64 ax.c, .int .i64 ax.cl, .int .i64 ax.sq, .int .i64 ax.op, .string ax.k, .string ax.v, .string ax.o]).cell
        exact bodyPost_ret (v := .tuple #[.agg #[.int .i64 ax.kd, .int .i64 ax.a, .int .i64 ax.b, .int .i64 ax.c, .int .i64 ax.cl, .int .i64 ax.sq, .int .i64 ax.op, .string ax.k, .string ax.v, .string ax.o], .int .i64 ac]) (by simp [results, Tryz.results17, go_sem, cb]) rfl ⟨rfl, below_row HB5.out (by omega) _⟩
      rw [if_neg hK11] at HQ
      have hK11' : (KD == 11) = false := by simpa using hK11
      have HCu : Hid (∀ z, Calls Tryz.prog 35 #[.int .i64 KD] z fun e w' => e = .returned (.int .i64 (cntK KD : Int)) ∧ w' = z) := HCt.out (by omega)
      clear HCt HAk
      have hC13 : 1 ≤ cntK KD ∧ cntK KD ≤ 3 := by unfold cntK; (repeat' split) <;> omega
      generalize hCN : cntK KD = C at *
      have hwC : IntKind.i64.wrap (1 + (C : Int)) = 1 + (C : Int) := by simp [IntKind.wrap, IntKind.bits, IntKind.signed]; omega
      by_cases hcn : ws.length = 1 + C
      case neg =>
        have HQ2 : (ac, ax) = (5, zS) := by rw [HQ.out, if_pos hcn]
        obtain ⟨rfl, rfl⟩ := Prod.mk.inj HQ2
        have hcn' : ((n : Int) == 1 + (C : Int)) = false := by have := hn'.out; rw [beq_eq_false_iff_ne]; omega
        have hcn'' : ((n : Int) != 1 + (C : Int)) = true := by rw [bne, hcn']; rfl
        clear HQ HQ2 hKD
        go_wp2_with (first
          | (go_at_call 35; refine (HCu.out _).mono ?_; rintro e w' ⟨rfl, hww⟩; have hww2 := hww.symm; subst hww2)
          | (have hBA := G2; refine gate_ld 48 (.tmp 8) rfl ?_; clear hBA; refine wpl_load_blk rfl 48 (.tmp 8) rfl (w.heap.size + 1 + 1) rfl BN1.out Tryz.underlying48 rfl sizeStP rfl ?_; clear G2)
          | (have hBA := G3; refine gate_st 48 (.tmp 6) _ rfl ?_; clear hBA; refine wpl_store_blk rfl 48 (.tmp 6) _ rfl (w.heap.size + 1) rfl rfl BR1.out sizeStP rfl rfl (by simp [Value.oneCell']) ?_; clear G3))
        have cb := (BR1.out.row #[.int .i64 0, .int .i64 0, .int .i64 0, .int .i64 0, .int .i64 0, .int .i64 0, .int .i64 0, .string ⟨#[]⟩, .string ⟨#[]⟩, .string ⟨#[]⟩]).cell
        exact bodyPost_ret (v := .tuple #[.agg #[.int .i64 0, .int .i64 0, .int .i64 0, .int .i64 0, .int .i64 0, .int .i64 0, .int .i64 0, .string ⟨#[]⟩, .string ⟨#[]⟩, .string ⟨#[]⟩], .int .i64 5]) (by simp [results, Tryz.results17, go_sem, cb]) rfl ⟨rfl, below_row HBw.out (by omega) _⟩
      rw [if_neg (fun h => h hcn)] at HQ
      have hcn' : ((n : Int) == 1 + (C : Int)) = true := by have := hn'.out; rw [beq_iff_eq]; omega
      have hcn'' : ((n : Int) != 1 + (C : Int)) = false := by rw [bne, hcn']; rfl
      have HTl : Hid (Sl txC 1 wa (.slice (some ⟨q, off + 1, none⟩) (n - 1) (cap - 1)) (ws.tail.map sOf)) := sl_tail HVr.out
      have HNu : Hid (Calls Tryz.prog 18 #[.slice (some ⟨q, off + 1, none⟩) (n - 1) (cap - 1)] wa fun e w' => ∃ v', e = .returned (.tuple #[v', .bool (ws.tail.all numOk)]) ∧ (ws.tail.all numOk = true → OwnG inC 1 3 w' wa.heap.size v' (ws.tail.map numV)) ∧ Below wa.heap.size wa w') := l7numbers_any _ ws.tail wa HTl.out (by rw [List.length_tail]; omega) (fun x hx => (HW.out x (List.mem_of_mem_tail hx)).1)
      clear HVr HTl
      have hcapI : (n : Int) ≤ (cap : Int) := by omega
      have hcp1 : ¬ cap = 1 := by have := hn'.out; omega
      have hcp2 : ¬ cap - 1 = 0 := by omega
      have hcp3 : (cap == 1) = false := by simpa using hcp1
      have hlt : ws.tail.length = C := by rw [List.length_tail]; omega
      have HNS := numS_row KD ws (by rw [hCN]; exact hcn)
      rw [hCN] at HNS
      clear hcn hcn' e0
      generalize ws.tail = T at *
      cases hall : T.all numOk
      · have HQ2 : (ac, ax) = (6, zS) := by rw [HQ.out, if_pos hall]
        obtain ⟨rfl, rfl⟩ := Prod.mk.inj HQ2
        rw [hall] at HNu
        clear HQ HQ2 hKD hall HNS
        go_wp2_with (first
          | (go_at_call 35; refine (HCu.out _).mono ?_; rintro e w' ⟨rfl, hww⟩; have hww2 := hww.symm; subst hww2)
          | (go_at_call 18; refine Calls.mono HNu.out ?_; rintro e w5 ⟨v5, rfl, hO5, hb5⟩; clear hO5; have BR5 : Hid (Blk w5 (w.heap.size + 1) #[.int .i64 0, .int .i64 0, .int .i64 0, .int .i64 0, .int .i64 0, .int .i64 0, .int .i64 0, .string ⟨#[]⟩, .string ⟨#[]⟩, .string ⟨#[]⟩] 48) := BR1.out.below hb5 BR1.out.lt; have BN5 : Hid (Blk w5 (w.heap.size + 1 + 1) #[.int .i64 0, .int .i64 0, .int .i64 0, .int .i64 0, .int .i64 0, .int .i64 0, .int .i64 0, .string ⟨#[]⟩, .string ⟨#[]⟩, .string ⟨#[]⟩] 48) := BN1.out.below hb5 BN1.out.lt; have HB5 : Hid (Below w.heap.size w w5) := HBw.out.trans (hb5.mono (by omega)); clear hb5)
          | (have hBA := G2; refine gate_ld 48 (.tmp 8) rfl ?_; clear hBA; refine wpl_load_blk rfl 48 (.tmp 8) rfl (w.heap.size + 1 + 1) rfl BN5.out Tryz.underlying48 rfl sizeStP rfl ?_; clear G2)
          | (have hBA := G3; refine gate_st 48 (.tmp 6) _ rfl ?_; clear hBA; refine wpl_store_blk rfl 48 (.tmp 6) _ rfl (w.heap.size + 1) rfl rfl BR5.out sizeStP rfl rfl (by simp [Value.oneCell']) ?_; clear G3))
        have cb := (BR5.out.row #[.int .i64 0, .int .i64 0, .int .i64 0, .int .i64 0, .int .i64 0, .int .i64 0, .int .i64 0, .string ⟨#[]⟩, .string ⟨#[]⟩, .string ⟨#[]⟩]).cell
        exact bodyPost_ret (v := .tuple #[.agg #[.int .i64 0, .int .i64 0, .int .i64 0, .int .i64 0, .int .i64 0, .int .i64 0, .int .i64 0, .string ⟨#[]⟩, .string ⟨#[]⟩, .string ⟨#[]⟩], .int .i64 6]) (by simp [results, Tryz.results17, go_sem, cb]) rfl ⟨rfl, below_row HB5.out (by omega) _⟩
      rw [if_neg (by rw [hall]; decide), ] at HQ
      rw [hall] at HNu
      obtain ⟨x1, x2, x3, hR3, hNS⟩ := HNS
      rw [hNS] at HQ
      have HR3 : Hid (T.map numV ++ List.replicate (3 - C) 0 = [x1, x2, x3]) := hR3
      have hTl : (T.map numV).length = C := by rw [List.length_map, hlt]
      clear hR3 hNS hall
      generalize T.map numV = M at *
      go_wp2_with (first
          | (go_at_call 35; refine (HCu.out _).mono ?_; rintro e w' ⟨rfl, hww⟩; have hww2 := hww.symm; subst hww2)
          | (go_at_call 18; go_loud (refine Calls.mono HNu.out ?_; rintro e w5 ⟨v5, rfl, hO5, hb5⟩; have HO5 : Hid (OwnG inC 1 3 w5 wa.heap.size v5 M) := hO5 (by simp); have HB5 : Hid (Below wa.heap.size wa w5) := hb5; clear hb5 hO5)))
      clear HNu HCu
      have hM3 : ∀ k, C ≤ k → (M ++ List.replicate (k - C) 0).length = k := fun k h => by rw [List.length_append, List.length_replicate, hTl]; omega
      have HM3 : Hid (∀ k, C ≤ k → (M ++ List.replicate (k - C) 0).length = k) := hM3
      clear hM3
      have HMs : Hid (∀ k, C ≤ k → M ++ List.replicate (k + 1 - C) 0 = (M ++ List.replicate (k - C) 0) ++ [0]) := fun k h => by rw [show k + 1 - C = (k - C) + 1 by omega, List.replicate_succ', List.append_assoc]
      go_loopw [11] (fun v wz => ∃ k : Nat, C ≤ k ∧ k ≤ 3 ∧ OwnG inC 1 3 wz wa.heap.size v (M ++ List.replicate (k - C) 0) ∧ Below wa.heap.size wa wz ∧ wa.heap.size ≤ wz.heap.size) (fun v _ => 3 - lenV v)
      case atStart => exact ⟨C, Nat.le_refl _, hC13.2, by rw [Nat.sub_self, List.replicate_zero, List.append_nil]; exact HO5.out, HB5.out, HB5.out.size⟩
      case round =>
        obtain ⟨k, hkC, hk3, hO, hB, hz⟩ := hrel
        have hlk := HM3.out k hkC
        obtain ⟨g, cp, rfl⟩ := hO.shape' (by omega)
        rw [hlk] at hO ⊢
        have HO : Hid (OwnG inC 1 3 wr wa.heap.size (.slice (some ⟨g, 0, none⟩) k cp) (M ++ List.replicate (k - C) 0)) := hO
        have HB : Hid (Below wa.heap.size wa wr) := hB
        clear hO hB HO5 HB5
        by_cases h3 : k < 3
        · have h3i : (k : Int) < 3 := by omega
          have hS := HMs.out k hkC
          have HS : Hid (M ++ List.replicate (k + 1 - C) 0 = (M ++ List.replicate (k - C) 0) ++ [0]) := hS
          clear hS
          go_wp2_with (first
            | (at_builtin; refine wpl_appendG inLaw rfl (.tmp 58) (.tmp 59) rfl (0 : Int) (HO.out.below ((Below.refl _ _).alloc (Nat.le_refl _) _)) rfl (wr.heap.size) 1 (Blk.new _ _ _).range rfl (by omega) (by simp; omega) ?_; intro v2 w2 ho2 hg2; have HB2 : Hid (Below wa.heap.size wa w2) := (HB.out.alloc hz _).trans (growG hg2 (HO.out.below ((Below.refl _ _).alloc (Nat.le_refl _) _)) (by simp; omega)); have hz2 : wa.heap.size ≤ w2.heap.size := (by have := hg2.g.size; simp at this; omega)))
          go_roundw
          case rel => exact ⟨k + 1, by omega, by omega, by rw [HS.out]; exact ho2, HB2.out, hz2⟩
          case measure =>
            obtain ⟨a3, c3, e3⟩ := ho2.shape
            rw [e3]
            have : (M ++ List.replicate (k - C) 0 ++ [0]).length = k + 1 := by rw [List.length_append, hlk]; rfl
            simp only [lenV, this]
            simp [lenV]
            omega
        · obtain rfl : k = 3 := by omega
          rw [HR3.out] at HO
          obtain ⟨hgl, hgu⟩ := HO.out.lts g rfl
          obtain ⟨-, a4, c4, e4, hc4⟩ := HO.out.sl inLaw (by show 3 ≤ maxLen; decide)
          simp only [Value.slice.injEq] at e4
          obtain ⟨rfl, -, rfl⟩ := e4
          obtain ⟨b5, o5, e5, hj5⟩ := hc4 0 (by simp)
          cases e5
          have y0 : wr.cell? ⟨g, 0, none⟩ = some (.int .i64 x1) := by simpa using hj5 0 (by simp) 0 _ rfl
          have y1 : wr.cell? ⟨g, 1, none⟩ = some (.int .i64 x2) := by simpa using hj5 1 (by simp) 0 _ rfl
          have y2 : wr.cell? ⟨g, 2, none⟩ = some (.int .i64 x3) := by simpa using hj5 2 (by simp) 0 _ rfl
          have BS7 : Hid (Blk wr w.heap.size #[.int .i64 sv, .int .i64 cc, .int .i64 el, .int .i64 b, .int .i64 r, .int .i64 d] 23) := BS1.out.below HB.out BS1.out.lt
          have BR7 : Hid (Blk wr (w.heap.size + 1) #[.int .i64 0, .int .i64 0, .int .i64 0, .int .i64 0, .int .i64 0, .int .i64 0, .int .i64 0, .string ⟨#[]⟩, .string ⟨#[]⟩, .string ⟨#[]⟩] 48) := BR1.out.below HB.out BR1.out.lt
          have BN7 : Hid (Blk wr (w.heap.size + 1 + 1) #[.int .i64 0, .int .i64 0, .int .i64 0, .int .i64 0, .int .i64 0, .int .i64 0, .int .i64 0, .string ⟨#[]⟩, .string ⟨#[]⟩, .string ⟨#[]⟩] 48) := BN1.out.below HB.out BN1.out.lt
          have HB7 : Hid (Below w.heap.size w wr) := HBw.out.trans (HB.out.mono (by omega))
          have hgn : ¬ g = wr.heap.size := by omega
          clear hc4 hj5 HO BS1 BR1 BN1 HBw HB HM3 HMs HR3
          go_wp2
          go_region_held3 (fun w' => w'.cell? ⟨g, 0, none⟩ = some (.int .i64 x1) ∧ w'.cell? ⟨g, 1, none⟩ = some (.int .i64 x2) ∧ w'.cell? ⟨g, 2, none⟩ = some (.int .i64 x3)) (simp [*, go_sem]) (fail)
          have BS8 : Hid (Blk ((wr.alloc (.cells #[.int .i64 KD, .int .i64 x1, .int .i64 x2, .int .i64 x3, .int .i64 0, .int .i64 0, .int .i64 0, .string ⟨#[]⟩, .string ⟨#[]⟩, .string ⟨#[]⟩] 48)).drew) w.heap.size #[.int .i64 sv, .int .i64 cc, .int .i64 el, .int .i64 b, .int .i64 r, .int .i64 d] 23) := BS7.out.below (((Below.refl _ _).alloc (Nat.le_refl _) _).drew) BS7.out.lt
          have BR8 : Hid (Blk ((wr.alloc (.cells #[.int .i64 KD, .int .i64 x1, .int .i64 x2, .int .i64 x3, .int .i64 0, .int .i64 0, .int .i64 0, .string ⟨#[]⟩, .string ⟨#[]⟩, .string ⟨#[]⟩] 48)).drew) (w.heap.size + 1) #[.int .i64 0, .int .i64 0, .int .i64 0, .int .i64 0, .int .i64 0, .int .i64 0, .int .i64 0, .string ⟨#[]⟩, .string ⟨#[]⟩, .string ⟨#[]⟩] 48) := BR7.out.below (((Below.refl _ _).alloc (Nat.le_refl _) _).drew) BR7.out.lt
          have BN8 : Hid (Blk ((wr.alloc (.cells #[.int .i64 KD, .int .i64 x1, .int .i64 x2, .int .i64 x3, .int .i64 0, .int .i64 0, .int .i64 0, .string ⟨#[]⟩, .string ⟨#[]⟩, .string ⟨#[]⟩] 48)).drew) (w.heap.size + 1 + 1) #[.int .i64 0, .int .i64 0, .int .i64 0, .int .i64 0, .int .i64 0, .int .i64 0, .int .i64 0, .string ⟨#[]⟩, .string ⟨#[]⟩, .string ⟨#[]⟩] 48) := BN7.out.below (((Below.refl _ _).alloc (Nat.le_refl _) _).drew) BN7.out.lt
          have BX8 : Hid (Blk ((wr.alloc (.cells #[.int .i64 KD, .int .i64 x1, .int .i64 x2, .int .i64 x3, .int .i64 0, .int .i64 0, .int .i64 0, .string ⟨#[]⟩, .string ⟨#[]⟩, .string ⟨#[]⟩] 48)).drew) wr.heap.size #[.int .i64 KD, .int .i64 x1, .int .i64 x2, .int .i64 x3, .int .i64 0, .int .i64 0, .int .i64 0, .string ⟨#[]⟩, .string ⟨#[]⟩, .string ⟨#[]⟩] 48) := (Blk.new wr #[.int .i64 KD, .int .i64 x1, .int .i64 x2, .int .i64 x3, .int .i64 0, .int .i64 0, .int .i64 0, .string ⟨#[]⟩, .string ⟨#[]⟩, .string ⟨#[]⟩] 48).below ((Below.refl _ _).drew) (Blk.new wr #[.int .i64 KD, .int .i64 x1, .int .i64 x2, .int .i64 x3, .int .i64 0, .int .i64 0, .int .i64 0, .string ⟨#[]⟩, .string ⟨#[]⟩, .string ⟨#[]⟩] 48).lt
          have HB8 : Hid (Below w.heap.size w ((wr.alloc (.cells #[.int .i64 KD, .int .i64 x1, .int .i64 x2, .int .i64 x3, .int .i64 0, .int .i64 0, .int .i64 0, .string ⟨#[]⟩, .string ⟨#[]⟩, .string ⟨#[]⟩] 48)).drew)) := (HB7.out.alloc HB7.out.size _).drew
          have hz8 : ((wr.alloc (.cells #[.int .i64 KD, .int .i64 x1, .int .i64 x2, .int .i64 x3, .int .i64 0, .int .i64 0, .int .i64 0, .string ⟨#[]⟩, .string ⟨#[]⟩, .string ⟨#[]⟩] 48)).drew).heap.size = wr.heap.size + 1 := by simp
          clear BS7 BR7 BN7 HB7 y0 y1 y2
          generalize ((wr.alloc (.cells #[.int .i64 KD, .int .i64 x1, .int .i64 x2, .int .i64 x3, .int .i64 0, .int .i64 0, .int .i64 0, .string ⟨#[]⟩, .string ⟨#[]⟩, .string ⟨#[]⟩] 48)).drew) = w8 at *
          have s0 : w8.cell? ⟨w.heap.size, 0, none⟩ = some (.int .i64 sv) := BS8.out.cell 0
          have s1 : w8.cell? ⟨w.heap.size, 1, none⟩ = some (.int .i64 cc) := BS8.out.cell 1
          have s2 : w8.cell? ⟨w.heap.size, 2, none⟩ = some (.int .i64 el) := BS8.out.cell 2
          have s3 : w8.cell? ⟨w.heap.size, 3, none⟩ = some (.int .i64 b) := BS8.out.cell 3
          have s4 : w8.cell? ⟨w.heap.size, 4, none⟩ = some (.int .i64 r) := BS8.out.cell 4
          have s5 : w8.cell? ⟨w.heap.size, 5, none⟩ = some (.int .i64 d) := BS8.out.cell 5
          have HSo : Hid (Calls Tryz.prog 36 #[.agg #[.int .i64 sv, .int .i64 cc, .int .i64 el, .int .i64 b, .int .i64 r, .int .i64 d], .agg #[.int .i64 KD, .int .i64 x1, .int .i64 x2, .int .i64 x3, .int .i64 0, .int .i64 0, .int .i64 0, .string ⟨#[]⟩, .string ⟨#[]⟩, .string ⟨#[]⟩]] w8 fun e w' => e = .returned (.bool (stOk sv cc ⟨KD, x1, x2, x3, 0, 0, 0, ⟨#[]⟩, ⟨#[]⟩, ⟨#[]⟩⟩)) ∧ Below w8.heap.size w8 w') := l7stepOk_any sv cc el b r d ⟨KD, x1, x2, x3, 0, 0, 0, ⟨#[]⟩, ⟨#[]⟩, ⟨#[]⟩⟩ ⟨Nat.zero_le _, Nat.zero_le _, Nat.zero_le _⟩ w8
          have G4 : Hid True := trivial
          have G5 : Hid True := trivial
          cases hok : stOk sv cc ⟨KD, x1, x2, x3, 0, 0, 0, ⟨#[]⟩, ⟨#[]⟩, ⟨#[]⟩⟩
          · have HQ2 : (ac, ax) = (7, zS) := by rw [HQ.out, if_neg (by rw [hok]; decide)]
            obtain ⟨rfl, rfl⟩ := Prod.mk.inj HQ2
            rw [hok] at HSo
            clear HQ HQ2 hok
            go_wp2_with (first
              | (have hBA := G4; refine gate_ld 48 (.tmp 13) rfl ?_; clear hBA; refine wpl_load_blk rfl 48 (.tmp 13) rfl wr.heap.size rfl BX8.out Tryz.underlying48 rfl sizeStP rfl ?_; clear G4)
              | (go_at_call 36; refine Calls.mono HSo.out ?_; rintro e w5 ⟨rfl, hb5⟩; have BR5 : Hid (Blk w5 (w.heap.size + 1) #[.int .i64 0, .int .i64 0, .int .i64 0, .int .i64 0, .int .i64 0, .int .i64 0, .int .i64 0, .string ⟨#[]⟩, .string ⟨#[]⟩, .string ⟨#[]⟩] 48) := BR8.out.below hb5 BR8.out.lt; have BN5 : Hid (Blk w5 (w.heap.size + 1 + 1) #[.int .i64 0, .int .i64 0, .int .i64 0, .int .i64 0, .int .i64 0, .int .i64 0, .int .i64 0, .string ⟨#[]⟩, .string ⟨#[]⟩, .string ⟨#[]⟩] 48) := BN8.out.below hb5 BN8.out.lt; have BX5 : Hid (Blk w5 wr.heap.size #[.int .i64 KD, .int .i64 x1, .int .i64 x2, .int .i64 x3, .int .i64 0, .int .i64 0, .int .i64 0, .string ⟨#[]⟩, .string ⟨#[]⟩, .string ⟨#[]⟩] 48) := BX8.out.below hb5 BX8.out.lt; have HB5 : Hid (Below w.heap.size w w5) := HB8.out.trans (hb5.mono (by omega)); clear hb5)
              | (have hBA := G2; refine gate_ld 48 (.tmp 8) rfl ?_; clear hBA; refine wpl_load_blk rfl 48 (.tmp 8) rfl (w.heap.size + 1 + 1) rfl BN5.out Tryz.underlying48 rfl sizeStP rfl ?_; clear G2)
              | (have hBA := G3; refine gate_st 48 (.tmp 6) _ rfl ?_; clear hBA; refine wpl_store_blk rfl 48 (.tmp 6) _ rfl (w.heap.size + 1) rfl rfl BR5.out sizeStP rfl rfl (by simp [Value.oneCell']) ?_; clear G3))
            have cb := (BR5.out.row #[.int .i64 0, .int .i64 0, .int .i64 0, .int .i64 0, .int .i64 0, .int .i64 0, .int .i64 0, .string ⟨#[]⟩, .string ⟨#[]⟩, .string ⟨#[]⟩]).cell
            exact bodyPost_ret (v := .tuple #[.agg #[.int .i64 0, .int .i64 0, .int .i64 0, .int .i64 0, .int .i64 0, .int .i64 0, .int .i64 0, .string ⟨#[]⟩, .string ⟨#[]⟩, .string ⟨#[]⟩], .int .i64 7]) (by simp [results, Tryz.results17, go_sem, cb]) rfl ⟨rfl, below_row HB5.out (by omega) _⟩
          · have HQ2 : (ac, ax) = (0, ⟨KD, x1, x2, x3, 0, 0, 0, ⟨#[]⟩, ⟨#[]⟩, ⟨#[]⟩⟩) := by rw [HQ.out, if_pos hok]
            obtain ⟨rfl, rfl⟩ := Prod.mk.inj HQ2
            rw [hok] at HSo
            clear HQ HQ2 hok
            go_wp2_with (first
              | (have hBA := G4; refine gate_ld 48 (.tmp 13) rfl ?_; clear hBA; refine wpl_load_blk rfl 48 (.tmp 13) rfl wr.heap.size rfl BX8.out Tryz.underlying48 rfl sizeStP rfl ?_; clear G4)
              | (go_at_call 36; refine Calls.mono HSo.out ?_; rintro e w5 ⟨rfl, hb5⟩; have BR5 : Hid (Blk w5 (w.heap.size + 1) #[.int .i64 0, .int .i64 0, .int .i64 0, .int .i64 0, .int .i64 0, .int .i64 0, .int .i64 0, .string ⟨#[]⟩, .string ⟨#[]⟩, .string ⟨#[]⟩] 48) := BR8.out.below hb5 BR8.out.lt; have BN5 : Hid (Blk w5 (w.heap.size + 1 + 1) #[.int .i64 0, .int .i64 0, .int .i64 0, .int .i64 0, .int .i64 0, .int .i64 0, .int .i64 0, .string ⟨#[]⟩, .string ⟨#[]⟩, .string ⟨#[]⟩] 48) := BN8.out.below hb5 BN8.out.lt; have BX5 : Hid (Blk w5 wr.heap.size #[.int .i64 KD, .int .i64 x1, .int .i64 x2, .int .i64 x3, .int .i64 0, .int .i64 0, .int .i64 0, .string ⟨#[]⟩, .string ⟨#[]⟩, .string ⟨#[]⟩] 48) := BX8.out.below hb5 BX8.out.lt; have HB5 : Hid (Below w.heap.size w w5) := HB8.out.trans (hb5.mono (by omega)); clear hb5)
              | (have hBA := G5; refine gate_ld 48 (.tmp 13) rfl ?_; clear hBA; refine wpl_load_blk rfl 48 (.tmp 13) rfl wr.heap.size rfl BX5.out Tryz.underlying48 rfl sizeStP rfl ?_; clear G5)
              | (have hBA := G3; refine gate_st 48 (.tmp 6) _ rfl ?_; clear hBA; refine wpl_store_blk rfl 48 (.tmp 6) _ rfl (w.heap.size + 1) rfl rfl BR5.out sizeStP rfl rfl (by simp [Value.oneCell']) ?_; clear G3))
            have cb := (BR5.out.row #[.int .i64 KD, .int .i64 x1, .int .i64 x2, .int .i64 x3, .int .i64 0, .int .i64 0, .int .i64 0, .string ⟨#[]⟩, .string ⟨#[]⟩, .string ⟨#[]⟩]).cell
            exact bodyPost_ret (v := .tuple #[.agg #[.int .i64 KD, .int .i64 x1, .int .i64 x2, .int .i64 x3, .int .i64 0, .int .i64 0, .int .i64 0, .string ⟨#[]⟩, .string ⟨#[]⟩, .string ⟨#[]⟩], .int .i64 0]) (by simp [results, Tryz.results17, go_sem, cb]) rfl ⟨rfl, below_row HB5.out (by omega) _⟩
end Go.Proofs.YtanpindbhdeomaaGreatDoor
