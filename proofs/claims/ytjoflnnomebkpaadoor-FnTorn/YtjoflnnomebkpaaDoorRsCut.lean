/-
  spec.l2cut.
-/
import Derived.Test.YtjoflnnomebkpaaDoorGround
import Derived.Test.YtjoflnnomebkpaaDoorRcFrame
namespace Go.Proofs.YtjoflnnomebkpaaDoor
open Go.RowKit
set_option linter.unusedVariables false
set_option linter.unusedSimpArgs false

/-- the code and the end that spec.l2cut gives at g -/
def cutP (l : List Int) (g : Nat) : Int × Nat := if g = l.length then (-1, g) else if cutC (l.drop g) ≠ 0 then (((cutC (l.drop g) : Nat) : Int), g) else (0, g + cutN (l.drop g))
set_option maxHeartbeats 4000000 in
set_option maxRecDepth 100000 in
theorem l2cut_any (a : Option Addr) (c : Nat) (l : List Int) (g : Nat) (w : World) (hv : Bs w (.slice a l.length c) l) (hg : g ≤ l.length) (hL : l.length ≤ 1048576) :
    Calls Tryd.prog 76 #[.slice a l.length c, .int .i64 (g : Int)] w fun e w' => e = .returned (.tuple #[.int .i64 (cutP l g).1, .int .i64 ((cutP l g).2 : Nat)]) ∧ w' = w := by
  by_cases h0 : g = l.length
  · have hP : cutP l g = (-1, g) := by unfold cutP; rw [if_pos h0]
    rw [hP]
    have h0' : ((g : Int) == (l.length : Int)) = true := by simp [h0]
    clear hv hP
    go_enter Tryd.func76, Tryd.ntmps76
    go_wp2
    go_ret2
    exact ⟨rfl, rfl⟩
  have hP : cutP l g = if cutC (l.drop g) ≠ 0 then (((cutC (l.drop g) : Nat) : Int), g) else (0, g + cutN (l.drop g)) := by unfold cutP; rw [if_neg h0]
  have h0' : ((g : Int) == (l.length : Int)) = false := by rw [beq_eq_false_iff_ne]; omega
  have hdl : (l.drop g).length = l.length - g := List.length_drop
  by_cases h1 : l.length - g ≤ 8
  · have hC : cutC (l.drop g) = 1 := by unfold cutC; rw [if_pos (by omega)]
    rw [hP, hC, if_pos (by decide)]
    have h1' : (l.length : Int) - (g : Int) < 9 := by omega
    clear hv hP hC
    go_enter Tryd.func76, Tryd.ntmps76
    go_wp2
    go_ret2
    exact ⟨rfl, rfl⟩
  have h1' : ¬ (l.length : Int) - (g : Int) < 9 := by omega
  obtain ⟨hm, h8, a', cap, e, hcell⟩ := hv
  injection e with e1 e2 e3
  subst e1 e3
  obtain ⟨b, off, rfl, hj⟩ := hcell 0 (by omega)
  have k0 := hj (g + 0) (by omega)
  have k1 := hj (g + 1) (by omega)
  have k2 := hj (g + 2) (by omega)
  have k3 := hj (g + 3) (by omega)
  have b0 := byte_at h8 (g + 0)
  have b1 := byte_at h8 (g + 1)
  have b2 := byte_at h8 (g + 2)
  have b3 := byte_at h8 (g + 3)
  have hW : wordN (l.drop g) 0 = l[g + 0]?.getD 0 + l[g + 1]?.getD 0 * 256 + l[g + 2]?.getD 0 * 65536 + l[g + 3]?.getD 0 * 16777216 := by
    unfold wordN
    simp only [List.getElem?_drop, Nat.zero_add]
  have hC : cutC (l.drop g) = if inB (8 + wordN (l.drop g) 0) 9 16384 = false then 2 else if (l.length : Int) - g < 8 + wordN (l.drop g) 0 then 1 else 0 := by
    unfold cutC
    rw [if_neg (by omega), hdl]
    congr 3
    omega
  have hN : cutN (l.drop g) = (8 + wordN (l.drop g) 0).toNat := rfl
  generalize cutC (l.drop g) = CC at *
  generalize cutN (l.drop g) = CN at *
  generalize wordN (l.drop g) 0 = W0 at *
  generalize l[g + 0]?.getD 0 = x0 at *
  generalize l[g + 1]?.getD 0 = x1 at *
  generalize l[g + 2]?.getD 0 = x2 at *
  generalize l[g + 3]?.getD 0 = x3 at *
  have i3 : ((g : Int) + 3).toNat = g + 3 := by omega
  have i2 : ((g : Int) + 2).toNat = g + 2 := by omega
  have i1 : ((g : Int) + 1).toNat = g + 1 := by omega
  have p3 : (g : Int) + 3 < (l.length : Int) := by omega
  have p2 : (g : Int) + 2 < (l.length : Int) := by omega
  have p1 : (g : Int) + 1 < (l.length : Int) := by omega
  have p0 : (g : Int) < (l.length : Int) := by omega
  have q3 : 0 ≤ (g : Int) + 3 := by omega
  have q2 : 0 ≤ (g : Int) + 2 := by omega
  have q1 : 0 ≤ (g : Int) + 1 := by omega
  rw [Nat.add_zero] at k0
  have hWW : ((x3 * 256 + x2) * 256 + x1) * 256 + x0 = W0 := by omega
  have HP : Hid (cutP l g = if CC ≠ 0 then (((CC : Nat) : Int), g) else (0, g + CN)) := hP
  have HC : Hid (CC = if inB (8 + W0) 9 16384 = false then 2 else if (l.length : Int) - g < 8 + W0 then 1 else 0) := hC
  have HN : Hid (CN = (8 + W0).toNat) := hN
  have HWW : Hid (((x3 * 256 + x2) * 256 + x1) * 256 + x0 = W0) := hWW
  clear hP hC hN hWW hW hj hcell h8 hm hdl
  generalize cutP l g = PP at HP ⊢
  go_enter Tryd.func76, Tryd.ntmps76
  go_wp2
  refine wp_loop_rounds 5 ?_
  rw [rounds_succ]
  go_wp2
  rw [rounds_succ]
  go_wp2
  rw [rounds_succ]
  go_wp2
  rw [rounds_succ]
  go_wp2
  rw [rounds_succ]
  rw [HWW.out]
  have hw0 : 0 ≤ W0 ∧ W0 ≤ 4294967295 := by have := HWW.out; omega
  clear k0 k1 k2 k3 b0 b1 b2 b3 HWW
  by_cases c1 : W0 = 0
  · have hCC : CC = 2 := by rw [HC.out, if_pos (by rw [inB_not]; omega)]
    have hPP : PP = (2, g) := by rw [HP.out, hCC]; rfl
    clear hCC
    subst hPP
    have c1' : (W0 == 0) = true := by simp [c1]
    clear c1 HP HC HN
    go_wp2
    go_ret2
    exact ⟨rfl, rfl⟩
  have c1' : (W0 == 0) = false := by rw [beq_eq_false_iff_ne]; exact c1
  by_cases c2 : 16376 < W0
  · have hCC : CC = 2 := by rw [HC.out, if_pos (by rw [inB_not]; omega)]
    have hPP : PP = (2, g) := by rw [HP.out, hCC]; rfl
    clear hCC
    subst hPP
    clear c1 HP HC HN
    go_wp2
    go_ret2
    exact ⟨rfl, rfl⟩
  have hin : inB (8 + W0) 9 16384 = true := by rw [inB_iff]; omega
  by_cases c3 : (l.length : Int) < (g : Int) + 8 + W0
  · have hCC : CC = 1 := by rw [HC.out, if_neg (by rw [hin]; decide), if_pos (by omega)]
    have hPP : PP = (1, g) := by rw [HP.out, hCC]; rfl
    clear hCC
    subst hPP
    clear c1 HP HC HN hin
    go_wp2
    go_ret2
    exact ⟨rfl, rfl⟩
  · have hCC : CC = 0 := by rw [HC.out, if_neg (by rw [hin]; decide), if_neg (by omega)]
    have hPP : PP = (0, g + CN) := by rw [HP.out, hCC]; rfl
    clear hCC
    have e1 : ((g + CN : Nat) : Int) = (g : Int) + 8 + W0 := by have := HN.out; omega
    subst hPP
    show Code.wp _ _ _ _ _
    have HE : Hid ((g : Int) + (CN : Int) = (g : Int) + 8 + W0) := (by omega : (g : Int) + (CN : Int) = (g : Int) + 8 + W0)
    clear c1 HP HC HN hin e1
    go_wp2
    go_ret2
    exact ⟨by rw [HE.out] <;> rfl, rfl⟩
end Go.Proofs.YtjoflnnomebkpaaDoor
