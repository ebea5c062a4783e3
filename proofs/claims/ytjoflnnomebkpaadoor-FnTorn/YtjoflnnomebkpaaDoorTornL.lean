/-
  FnTorn, plain: the disks.
-/
import Derived.Test.YtjoflnnomebkpaaDoorGround2
import Derived.Test.YtjoflnnomebkpaaDoorDkPure
import Derived.Test.YtjoflnnomebkpaaDoorRtImpl
namespace Go.Proofs.YtjoflnnomebkpaaDoor
open Go.RowKit
set_option linter.unusedVariables false
set_option linter.unusedSimpArgs false

theorem recsB_of {s : Stt} {rs : List Rec} (h : okS s rs = true) (hl : rs.length ≤ 8192) : recsB rs = true := by
  simp only [recsB, Bool.and_eq_true, decide_eq_true_eq, List.all_eq_true]
  exact ⟨hl, okS_mem rs s h⟩
theorem planL_zero {t v t' v' : Int} {l l' : List Ent} (h : planC t v l t' v' l' = 0) : planL t v l t' v' l' = planAll t v l t' v' l' := by
  unfold planL
  rw [if_pos h]
/-- the records are written, and there is room -/
theorem torn_write {t v t' v' : Int} {l l' : List Ent} (h : planC t v l t' v' l' = 0) (hl : l'.length ≤ 60) (D : List Int) (y : Int) (hD : D.length ≤ 100000) (hy : 0 ≤ y ∧ y ≤ D.length) :
    dwCode 1048576 y D (planL t v l t' v' l') = 0 ∧ dwC 1048576 y D = 1048576 ∧ dwY 1048576 y D = y ∧ dwL 1048576 y D (planL t v l t' v' l') = D ++ framesL (planL t v l t' v' l') ∧ (framesL (planL t v l t' v' l')).length ≤ 25296 := by
  rw [planL_zero h]
  have hok := (plan_ok h).1
  have hlen := planAll_len t v l t' v' l'
  have hr := recsB_of hok (by omega)
  have hF := framesL_le _ (okS_mem _ _ hok)
  have hd : diskB 1048576 y D.length = true := diskB_mk (by omega)
  have ht : takeB 1048576 D (planAll t v l t' v' l') = true := by
    simp only [takeB, hr, Bool.true_and, decide_eq_true_eq, enc_true hr]
    omega
  have h1 := dw_true hd ht
  have h2 := dwL_disk (rs := planAll t v l t' v' l') hd
  rw [enc_true hr] at h1
  exact ⟨h1.1, h2.1, h2.2.1, h1.2, by omega⟩
theorem torn_crash (F1 F2 : List Int) (j : Nat) (hl : F1.length + F2.length ≤ 100000) :
    crashC 1048576 F1.length (F1 ++ F2) j = 1048576 ∧ crashY 1048576 F1.length (F1 ++ F2) j = F1.length ∧ crashL 1048576 F1.length (F1 ++ F2) j = F1 ++ F2.take j := by
  have hd : diskB 1048576 (F1.length : Int) (F1 ++ F2).length = true := diskB_mk (by rw [List.length_append]; omega)
  have h := crash_ok (j : Int) hd
  refine ⟨h.1, h.2.1, ?_⟩
  rw [h.2.2.1]
  have hn : crashN (F1.length : Int) (F1 ++ F2).length (j : Int) = F1.length + min j F2.length := by
    unfold crashN
    rw [List.length_append]
    omega
  rw [hn, List.take_append, List.take_of_length_le (by omega), show F1.length + min j F2.length - F1.length = min j F2.length by omega]
  congr 1
  rcases Nat.le_total j F2.length with h | h
  · rw [Nat.min_eq_left h]
  · rw [Nat.min_eq_right h, List.take_of_length_le (Nat.le_refl _), List.take_of_length_le h]
theorem torn_sync (F1 : List Int) (hl : F1.length ≤ 100000) : syncC 1048576 0 F1 = 1048576 ∧ syncY 1048576 0 F1 = F1.length ∧ syncL 1048576 0 F1 = F1 := by
  have h := sync_ok (c := 1048576) (y := 0) (l := F1) (diskB_mk (by omega))
  exact ⟨h.1, h.2.1, h.2.2.1⟩
/-- a state that FnTorn allows -/
def TornOk (t v : Int) (l : List Ent) (t' v' : Int) (l' : List Ent) (S : Stt) : Prop :=
  ((S.t = t ∧ S.v = v) ∨ (S.t = t' ∧ S.v = v')) ∧ (S.log = l ∨ (comK S.log l' = S.log.length ∧ comK l l' ≤ S.log.length))
theorem torn_rest {t v t' v' : Int} {l l' : List Ent} (h : planC t v l t' v' l' = 0) (j : Nat) (F1 F2 : List Int) (e1 : F1 = framesL (planL 0 0 [] t v l)) (e2 : F2 = framesL (planL t v l t' v' l')) (hl : F1.length + F2.length ≤ 100000) :
    rtK 1048576 F1.length (F1 ++ F2.take j) = 0 ∧ rtC 1048576 F1.length (F1 ++ F2.take j) = 1048576 ∧ F1.length ≤ rtY 1048576 F1.length (F1 ++ F2.take j) ∧ (rtL 1048576 F1.length (F1 ++ F2.take j)).length = rtY 1048576 F1.length (F1 ++ F2.take j) ∧ rtY 1048576 F1.length (F1 ++ F2.take j) ≤ 100000 ∧
      TornOk t v l t' v' l' (rtS 1048576 F1.length (F1 ++ F2.take j)) ∧ (rtS 1048576 F1.length (F1 ++ F2.take j)).log.length ≤ 100000 ∧ (F2.length ≤ j → rtS 1048576 F1.length (F1 ++ F2.take j) = ⟨t', v', l'⟩) := by
  obtain ⟨a, b, L, f1, f2, f3, f4, f5⟩ := torn_any h j
  rw [planL_zero (plan_first (planC_zero h).1)] at e1
  rw [planL_zero h] at e2
  rw [← e1, ← e2] at f1 f4
  rw [← e2] at f5
  have hlen : (F1 ++ F2.take j).length ≤ 100000 := by rw [List.length_append, List.length_take]; omega
  have hge : F1.length ≤ (F1 ++ F2.take j).length := by rw [List.length_append]; omega
  have hg := rcv_good (F1 ++ F2.take j)
  have hlg := rcvLog_len (F1 ++ F2.take j)
  generalize F1 ++ F2.take j = X at *
  have hd : diskB 1048576 (F1.length : Int) X.length = true := diskB_mk (by omega)
  have hK : rtK 1048576 F1.length X = 0 := by
    unfold rtK
    rw [if_pos hd, if_neg (by omega)]
  have hS : rtS 1048576 F1.length X = ⟨a, b, L⟩ := by unfold rtS; rw [if_pos hK, f1]
  have hY : rtY 1048576 F1.length X = (rcv X).2.1 := by unfold rtY; rw [if_pos hK]
  have hLn : (rtL 1048576 F1.length X).length = (rcv X).2.1 := by unfold rtL; rw [if_pos hK, List.length_take]; omega
  rw [f1] at hlg
  rw [hS, hY, hLn]
  refine ⟨hK, by unfold rtC; rw [if_pos hK], f4, rfl, by omega, ⟨f2, f3⟩, Nat.le_trans hlg hlen, fun hj => ?_⟩
  obtain ⟨g1, g2, g3⟩ := f5 hj
  rw [g1, g2, g3]
end Go.Proofs.YtjoflnnomebkpaaDoor
