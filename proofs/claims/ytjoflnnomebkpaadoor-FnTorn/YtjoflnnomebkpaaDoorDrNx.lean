/-
  spec.l2drawNext.
-/
import Derived.Test.YtjoflnnomebkpaaDoorDrU
namespace Go.Proofs.YtjoflnnomebkpaaDoor
open Go.RowKit
set_option linter.unusedVariables false
set_option linter.unusedSimpArgs false

/-- term, vote, where the draws stand -/
def nxP (l : List Int) (k : Nat) (t vo : Int) : Int × Int × Nat :=
  if pickV l k 2 = 0 ∧ t < 1073741824 then (min (t + 1 + ((pickV l (k + 1) 2 : Nat) : Int)) 1073741824, ((pickV l (k + 1 + 1) 8 : Nat) : Int), k + 1 + 1 + 1) else if 0 < t ∧ vo = 0 then (t, ((pickV l (k + 1) 8 : Nat) : Int), k + 1 + 1) else (t, vo, k + 1)
/-- how many entries are kept -/
def nxQ (l : List Int) (k n : Nat) : Nat × Nat := if pickV l k 2 = 0 then (pickV l (k + 1) (n + 1), k + 1 + pickK (n + 1)) else (n, k + 1)
def lowV (L : List Ent) (j : Nat) : Int := if j = 0 then 1 else (L[j - 1]?.map (·.t)).getD 1
/-- the new entries -/
def nxE (l : List Int) (k : Nat) (T low : Int) (n : Nat) : List Ent × Nat :=
  if 0 < T then ((entsD l (k + 1) low (pickV l k (n + 1))).1.map (clipE T), (entsD l (k + 1) low (pickV l k (n + 1))).2.1) else ([], k)
def nxT (l : List Int) (k : Nat) (t vo : Int) (L : List Ent) (n : Nat) : Int := (nxP l k t vo).1
def nxV (l : List Int) (k : Nat) (t vo : Int) (L : List Ent) (n : Nat) : Int := (nxP l k t vo).2.1
def nxL (l : List Int) (k : Nat) (t vo : Int) (L : List Ent) (n : Nat) : List Ent :=
  L.take (nxQ l (nxP l k t vo).2.2 L.length).1 ++ (nxE l (nxQ l (nxP l k t vo).2.2 L.length).2 (nxP l k t vo).1 (lowV L (nxQ l (nxP l k t vo).2.2 L.length).1) n).1
def nxK (l : List Int) (k : Nat) (t vo : Int) (L : List Ent) (n : Nat) : Nat :=
  (nxE l (nxQ l (nxP l k t vo).2.2 L.length).2 (nxP l k t vo).1 (lowV L (nxQ l (nxP l k t vo).2.2 L.length).1) n).2

theorem lowV_succ (L : List Ent) (j : Nat) (h : j < L.length) : lowV L (j + 1) = L[j].t := by
  unfold lowV
  rw [if_neg (by omega)]
  simp [List.getElem?_eq_getElem h]
theorem infoStb : (Tryd.prog.info? 39).map (·.size) = some 3 := by kernel_rfl

set_option maxHeartbeats 16000000 in
set_option maxRecDepth 100000 in
theorem l2drawNext_any (g : Nat) (w : World) (v : Value) (l : List Int) (k : Nat) (t vo : Int) (a : Option Addr) (cap : Nat) (L : List Ent) (n B0 : Nat) (hL : l.length ≤ 1048576) (hk : k ≤ 500000000) (hn : n ≤ 200) (ht : 0 ≤ t ∧ t ≤ 1073741824) (hLL : L.length + n ≤ 4000) (hLt : ∀ e ∈ L, 0 ≤ e.t ∧ e.t ≤ 1073741824)
    (hO : OwnE w B0 (.slice a L.length cap) L) (hB0 : g < B0) (h : Src w g v l k) :
    Calls Tryd.prog 54 #[.pointer (some ⟨g, 0, none⟩), .agg #[.int .i64 t, .int .i64 vo, .slice a L.length cap], .int .i64 n] w fun r w' => ∃ ea ec, r = .returned (.agg #[.int .i64 (nxT l k t vo L n), .int .i64 (nxV l k t vo L n), .slice ea (nxL l k t vo L n).length ec]) ∧ OwnE w' w.heap.size (.slice ea (nxL l k t vo L n).length ec) (nxL l k t vo L n) ∧ Src w' g v l (nxK l k t vo L n) ∧ w.grownBy w' (some g) := by
  have HO : Hid (OwnE w B0 (.slice a L.length cap) L) := hO
  have HLt : Hid (∀ e ∈ L, 0 ≤ e.t ∧ e.t ≤ 1073741824) := hLt
  have HD0 : Hid (Dr w (((w.alloc (.cells #[.int .i64 t, .int .i64 vo, .slice a L.length cap] 39)).alloc (.cells #[.int .i64 0, .int .i64 0, .slice none 0 0] 39)).alloc (.cells #[.int .i64 t, .int .i64 vo, .slice none 0 0] 39)) g v l k [(w.heap.size, #[.int .i64 t, .int .i64 vo, .slice a L.length cap], 39), (w.heap.size + 1, #[.int .i64 0, .int .i64 0, .slice none 0 0], 39), (w.heap.size + 1 + 1, #[.int .i64 t, .int .i64 vo, .slice none 0 0], 39)]) := by
    have hX := (((Dr.start h).new #[.int .i64 t, .int .i64 vo, .slice a L.length cap] 39 (noU8_of rfl)).new #[.int .i64 0, .int .i64 0, .slice none 0 0] 39 (noU8_of rfl)).new #[.int .i64 t, .int .i64 vo, .slice none 0 0] 39 (noU8_of rfl)
    have hY : Dr w (((w.alloc (.cells #[.int .i64 t, .int .i64 vo, .slice a L.length cap] 39)).alloc (.cells #[.int .i64 0, .int .i64 0, .slice none 0 0] 39)).alloc (.cells #[.int .i64 t, .int .i64 vo, .slice none 0 0] 39)) g v l k [(w.heap.size, #[.int .i64 t, .int .i64 vo, .slice a L.length cap], 39), (w.heap.size + 1, #[.int .i64 0, .int .i64 0, .slice none 0 0], 39), (w.heap.size + 1 + 1, #[.int .i64 t, .int .i64 vo, .slice none 0 0], 39)] := by simpa using hX
    exact hY
  have hg0 : g < w.heap.size := h.lt
  obtain ⟨ht0, htM⟩ := ht
  clear h hO hLt
  have hP : nxP l k t vo = if pickV l k 2 = 0 ∧ t < 1073741824 then (min (t + 1 + ((pickV l (k + 1) 2 : Nat) : Int)) 1073741824, ((pickV l (k + 1 + 1) 8 : Nat) : Int), k + 1 + 1 + 1) else if 0 < t ∧ vo = 0 then (t, ((pickV l (k + 1) 8 : Nat) : Int), k + 1 + 1) else (t, vo, k + 1) := rfl
  obtain ⟨T, V, K2, hE⟩ : ∃ T V K2, nxP l k t vo = (T, V, K2) := ⟨_, _, _, rfl⟩
  unfold nxT nxV nxL nxK
  rw [hE]
  dsimp only
  rw [hE] at hP
  have HPE : Hid ((T, V, K2) = if pickV l k 2 = 0 ∧ t < 1073741824 then (min (t + 1 + ((pickV l (k + 1) 2 : Nat) : Int)) 1073741824, ((pickV l (k + 1 + 1) 8 : Nat) : Int), k + 1 + 1 + 1) else if 0 < t ∧ vo = 0 then (t, ((pickV l (k + 1) 8 : Nat) : Int), k + 1 + 1) else (t, vo, k + 1)) := hP
  clear hP hE
  obtain ⟨kp, K4, hE⟩ : ∃ kp K4, nxQ l K2 L.length = (kp, K4) := ⟨_, _, rfl⟩
  rw [hE]
  dsimp only
  have HQ : Hid ((kp, K4) = if pickV l K2 2 = 0 then (pickV l (K2 + 1) (L.length + 1), K2 + 1 + pickK (L.length + 1)) else (L.length, K2 + 1)) := hE.symm.trans rfl
  clear hE
  obtain ⟨EN, K6, hE⟩ : ∃ EN K6, nxE l K4 T (lowV L kp) n = (EN, K6) := ⟨_, _, rfl⟩
  rw [hE]
  dsimp only
  have HEN : Hid ((EN, K6) = if 0 < T then ((entsD l (K4 + 1) (lowV L kp) (pickV l K4 (n + 1))).1.map (clipE T), (entsD l (K4 + 1) (lowV L kp) (pickV l K4 (n + 1))).2.1) else ([], K4)) := hE.symm.trans rfl
  clear hE
  obtain ⟨cA, hcA⟩ : ∃ cA : Bool, cA = decide (pickV l k 2 = 0 ∧ t < 1073741824) := ⟨_, rfl⟩
  obtain ⟨cB, hcB⟩ : ∃ cB : Bool, cB = decide (0 < t ∧ vo = 0) := ⟨_, rfl⟩
  have HcA : Hid (cA = decide (pickV l k 2 = 0 ∧ t < 1073741824)) := hcA
  have HcB : Hid (cB = decide (0 < t ∧ vo = 0)) := hcB
  clear hcA hcB
  obtain ⟨p0, hp0⟩ : ∃ p0, p0 = pickV l k 2 := ⟨_, rfl⟩
  have b0 := pickV_lt l k 2 (by decide)
  rw [← hp0] at b0
  have Hp0 : Hid (p0 = pickV l k 2) := hp0
  clear hp0
  go_enter Tryd.func54, Tryd.ntmps54
  go_upto_region 2 with fail
  go_cut [26] (fun s26 wx => s26 = .bool cA ∧ Dr w wx g v l (k + 1) [(w.heap.size, #[.int .i64 t, .int .i64 vo, .slice a L.length cap], 39), (w.heap.size + 1, #[.int .i64 0, .int .i64 0, .slice none 0 0], 39), (w.heap.size + 1 + 1, #[.int .i64 t, .int .i64 vo, .slice none 0 0], 39)])
  case first =>
    rcases (show p0 = 0 ∨ p0 ≠ 0 by omega) with c0 | c0
    · subst c0
      by_cases c1 : t < 1073741824
      · go_wp2_with (go_at_call 44; refine (HD0.out.pick1 2 hL (by omega) (by decide) (by decide)).mono ?_; rintro e w1 ⟨rfl, hd1⟩; rw [← Hp0.out]; have HD1 : Hid (Dr w w1 g v l (k + 1) [(w.heap.size, #[.int .i64 t, .int .i64 vo, .slice a L.length cap], 39), (w.heap.size + 1, #[.int .i64 0, .int .i64 0, .slice none 0 0], 39), (w.heap.size + 1 + 1, #[.int .i64 t, .int .i64 vo, .slice none 0 0], 39)]) := hd1; have ce := (hd1.blk 0 rfl).cell; have fe := (hd1.blk 0 rfl).free; clear hd1)
        go_meet
        exact ⟨by rw [HcA.out, ← Hp0.out]; simp [c1], HD1.out⟩
      · have c2 : decide (t < 1073741824) = false := by simpa using c1
        go_wp2_with (go_at_call 44; refine (HD0.out.pick1 2 hL (by omega) (by decide) (by decide)).mono ?_; rintro e w1 ⟨rfl, hd1⟩; rw [← Hp0.out]; have HD1 : Hid (Dr w w1 g v l (k + 1) [(w.heap.size, #[.int .i64 t, .int .i64 vo, .slice a L.length cap], 39), (w.heap.size + 1, #[.int .i64 0, .int .i64 0, .slice none 0 0], 39), (w.heap.size + 1 + 1, #[.int .i64 t, .int .i64 vo, .slice none 0 0], 39)]) := hd1; have ce := (hd1.blk 0 rfl).cell; have fe := (hd1.blk 0 rfl).free; clear hd1)
        go_meet
        exact ⟨by rw [HcA.out, ← Hp0.out]; simp [c1], HD1.out⟩
    · have c2 : ((p0 : Int) == 0) = false := by rw [beq_eq_false_iff_ne]; omega
      go_wp2_with (go_at_call 44; refine (HD0.out.pick1 2 hL (by omega) (by decide) (by decide)).mono ?_; rintro e w1 ⟨rfl, hd1⟩; rw [← Hp0.out]; have HD1 : Hid (Dr w w1 g v l (k + 1) [(w.heap.size, #[.int .i64 t, .int .i64 vo, .slice a L.length cap], 39), (w.heap.size + 1, #[.int .i64 0, .int .i64 0, .slice none 0 0], 39), (w.heap.size + 1 + 1, #[.int .i64 t, .int .i64 vo, .slice none 0 0], 39)]) := hd1; have ce := (hd1.blk 0 rfl).cell; have fe := (hd1.blk 0 rfl).free; clear hd1)
      go_meet
      exact ⟨by rw [HcA.out, ← Hp0.out]; simp [c0], HD1.out⟩
  case rest =>
    obtain ⟨rfl, hdc⟩ := hcut
    have HD1 : Hid (Dr w wc g v l (k + 1) [(w.heap.size, #[.int .i64 t, .int .i64 vo, .slice a L.length cap], 39), (w.heap.size + 1, #[.int .i64 0, .int .i64 0, .slice none 0 0], 39), (w.heap.size + 1 + 1, #[.int .i64 t, .int .i64 vo, .slice none 0 0], 39)]) := hdc
    have ce := (hdc.blk 0 rfl).cell
    have fe := (hdc.blk 0 rfl).free
    clear hdc HD0
    go_upto_if 26 with fail
    go_cut [26] (fun s26 wx => Dr w wx g v l K2 [(w.heap.size, #[.int .i64 t, .int .i64 vo, .slice a L.length cap], 39), (w.heap.size + 1, #[.int .i64 0, .int .i64 0, .slice none 0 0], 39), (w.heap.size + 1 + 1, #[.int .i64 T, .int .i64 V, .slice none 0 0], 39)])
    case first =>
      cases cA
      · have HcA' : Hid (¬ (pickV l k 2 = 0 ∧ t < 1073741824)) := (of_decide_eq_false HcA.out.symm : ¬ (pickV l k 2 = 0 ∧ t < 1073741824))
        rw [if_neg HcA'.out] at HPE
        rcases (show t = 0 ∨ 0 < t by omega) with c0 | c0
        · rw [if_neg (by omega)] at HPE
          have hgt : decide (0 < t) = false := by simp; omega
          go_wp2_with fail
          go_meet
          have hPE := HPE.out; injection hPE with e1 e2; injection e2 with e2 e3; subst e1 e2 e3; exact HD1.out
        · have hgt : decide (0 < t) = true := by simpa using c0
          by_cases c1 : vo = 0
          · have hv0 : (vo == 0) = true := by simpa using c1
            rw [if_pos ⟨c0, c1⟩] at HPE
            clear c1
            go_wp2_with (go_at_call 44; refine (HD1.out.pick1 8 hL (by omega) (by decide) (by decide)).mono ?_; rintro e w4 ⟨rfl, hd4⟩; have HD4 : Hid (Dr w w4 g v l (k + 1 + 1) [(w.heap.size, #[.int .i64 t, .int .i64 vo, .slice a L.length cap], 39), (w.heap.size + 1, #[.int .i64 0, .int .i64 0, .slice none 0 0], 39), (w.heap.size + 1 + 1, #[.int .i64 t, .int .i64 vo, .slice none 0 0], 39)]) := hd4; have ce4 := (hd4.blk 2 rfl).cell; have fe4 := (hd4.blk 2 rfl).free; clear hd4)
            go_meet
            have hx := HD4.out.set 2 rfl 1 (by simp) (.int .i64 ((pickV l (k + 1) 8 : Nat) : Int)) rfl; have hPE := HPE.out; injection hPE with e1 e2; injection e2 with e2 e3; subst e1 e2 e3; exact hx
          · have hv0 : (vo == 0) = false := by simpa using c1
            rw [if_neg (fun h => c1 h.2)] at HPE
            go_wp2_with fail
            go_meet
            have hPE := HPE.out; injection hPE with e1 e2; injection e2 with e2 e3; subst e1 e2 e3; exact HD1.out
      · have HcA' : Hid (pickV l k 2 = 0 ∧ t < 1073741824) := (of_decide_eq_true HcA.out.symm : pickV l k 2 = 0 ∧ t < 1073741824)
        obtain ⟨hp0, ht1⟩ := HcA'.out
        rw [if_pos ⟨hp0, ht1⟩] at HPE
        obtain ⟨p1, hp1⟩ : ∃ p1, p1 = pickV l (k + 1) 2 := ⟨_, rfl⟩
        have b1 := pickV_lt l (k + 1) 2 (by decide)
        rw [← hp1] at b1 HPE
        have Hp1 : Hid (p1 = pickV l (k + 1) 2) := hp1
        clear hp1 hp0 HcA'
        go_upto_region 3 with fail
        go_region_with (first
          | (go_at_call 44; refine (HD1.out.drew.pick1 2 hL (by omega) (by decide) (by decide)).mono ?_; rintro e w2 ⟨rfl, hd2⟩; rw [← Hp1.out]; have HD2 : Hid (Dr w w2 g v l (k + 1 + 1) [(w.heap.size, #[.int .i64 t, .int .i64 vo, .slice a L.length cap], 39), (w.heap.size + 1, #[.int .i64 0, .int .i64 0, .slice none 0 0], 39), (w.heap.size + 1 + 1, #[.int .i64 t, .int .i64 vo, .slice none 0 0], 39)]) := hd2; have ce2 := (hd2.blk 0 rfl).cell; have fe2 := (hd2.blk 0 rfl).free; have ce3 := (hd2.blk 2 rfl).cell; have fe3 := (hd2.blk 2 rfl).free; clear hd2)
          | (go_at_call 77; refine (l1min_any _ _ _).mono ?_; rintro e w3 ⟨rfl, hw3⟩; subst w3))
        all_goals go_wp2_with (go_at_call 44; refine (Dr.pick1 (HD2.out.set 2 rfl 0 (by simp) (.int .i64 (min (t + 1 + (p1 : Int)) 1073741824)) rfl) 8 hL (by omega) (by decide) (by decide)).mono ?_; rintro e w4 ⟨rfl, hd4⟩; have HD4 : Hid (Dr w w4 g v l (k + 1 + 1 + 1) [(w.heap.size, #[.int .i64 t, .int .i64 vo, .slice a L.length cap], 39), (w.heap.size + 1, #[.int .i64 0, .int .i64 0, .slice none 0 0], 39), (w.heap.size + 1 + 1, #[.int .i64 (min (t + 1 + (p1 : Int)) 1073741824), .int .i64 vo, .slice none 0 0], 39)]) := hd4; have ce4 := (hd4.blk 2 rfl).cell; have fe4 := (hd4.blk 2 rfl).free; clear hd4)
        all_goals go_meet
        all_goals (have hx := HD4.out.set 2 rfl 1 (by simp) (.int .i64 ((pickV l (k + 1 + 1) 8 : Nat) : Int)) rfl; have hPE := HPE.out; injection hPE with e1 e2; injection e2 with e2 e3; subst e1 e2 e3; exact hx)

    case rest =>
      have HD3 : Hid (Dr w wc g v l K2 [(w.heap.size, #[.int .i64 t, .int .i64 vo, .slice a L.length cap], 39), (w.heap.size + 1, #[.int .i64 0, .int .i64 0, .slice none 0 0], 39), (w.heap.size + 1 + 1, #[.int .i64 T, .int .i64 V, .slice none 0 0], 39)]) := hcut
      have ce := (hcut.blk 0 rfl).cell
      have fe := (hcut.blk 0 rfl).free
      clear hcut HD1 HcA HcB Hp0
      have hK2 : K2 ≤ k + 3 := by
        have hPE := HPE.out
        split at hPE
        · injection hPE with e1 e2; injection e2 with e2 e3; omega
        · split at hPE
          · injection hPE with e1 e2; injection e2 with e2 e3; omega
          · injection hPE with e1 e2; injection e2 with e2 e3; omega
      have hT : 0 ≤ T ∧ T ≤ 1073741824 := by
        have hPE := HPE.out
        split at hPE
        · injection hPE with e1 e2; omega
        · split at hPE
          · injection hPE with e1 e2; omega
          · injection hPE with e1 e2; omega
      obtain ⟨hT0, hTM⟩ := hT
      clear HPE
      obtain ⟨p2, hp2⟩ : ∃ p2, p2 = pickV l K2 2 := ⟨_, rfl⟩
      have b2 := pickV_lt l K2 2 (by decide)
      rw [← hp2] at b2 HQ
      have Hp2 : Hid (p2 = pickV l K2 2) := hp2
      clear hp2
      obtain ⟨Ln, hLn⟩ : ∃ Ln, Ln = L.length := ⟨_, rfl⟩
      have HLn : Hid (Ln = L.length) := hLn
      go_upto_if 54 with (go_at_call 44; refine (HD3.out.pick1 2 hL (by omega) (by decide) (by decide)).mono ?_; rintro e w4 ⟨rfl, hd4⟩; rw [← Hp2.out]; have HD4 : Hid (Dr w w4 g v l (K2 + 1) [(w.heap.size, #[.int .i64 t, .int .i64 vo, .slice a L.length cap], 39), (w.heap.size + 1, #[.int .i64 0, .int .i64 0, .slice none 0 0], 39), (w.heap.size + 1 + 1, #[.int .i64 T, .int .i64 V, .slice none 0 0], 39)]) := hd4; clear hd4)
      go_cut [8] (fun s8 wx => s8 = .int .i64 ((kp : Nat) : Int) ∧ Dr w wx g v l K4 [(w.heap.size, #[.int .i64 t, .int .i64 vo, .slice a L.length cap], 39), (w.heap.size + 1, #[.int .i64 0, .int .i64 0, .slice none 0 0], 39), (w.heap.size + 1 + 1, #[.int .i64 T, .int .i64 V, .slice none 0 0], 39)])
      case first =>
        rcases (show p2 = 0 ∨ p2 ≠ 0 by omega) with c0 | c0
        · subst c0
          rw [if_pos rfl] at HQ
          have hPE := HQ.out
          injection hPE with e1 e2
          have HPL : Hid (Calls Tryd.prog 44 #[.pointer (some ⟨g, 0, none⟩), .int .i64 ((L.length : Int) + 1)] w4 fun e w' => e = .returned (.int .i64 (kp : Nat)) ∧ Dr w w' g v l K4 [(w.heap.size, #[.int .i64 t, .int .i64 vo, .slice a L.length cap], 39), (w.heap.size + 1, #[.int .i64 0, .int .i64 0, .slice none 0 0], 39), (w.heap.size + 1 + 1, #[.int .i64 T, .int .i64 V, .slice none 0 0], 39)]) := by
            rw [e1, e2]
            exact HD4.out.pick (L.length + 1) hL (by omega) (by omega) (by omega)
          clear e1 e2
          go_wp2_with (go_at_call 44; refine HPL.out.mono ?_; rintro e w5 ⟨rfl, hd5⟩)
          go_meet
          exact ⟨rfl, hd5⟩
        · have c2 : ((p2 : Int) == 0) = false := by rw [beq_eq_false_iff_ne]; omega
          rw [if_neg c0] at HQ
          have hPE := HQ.out
          injection hPE with e1 e2
          go_wp2_with fail
          go_meet
          exact ⟨by rw [e1], by rw [e2]; exact HD4.out⟩
      case rest =>
        obtain ⟨rfl, hdc⟩ := hcut
        have HD5 : Hid (Dr w wc g v l K4 [(w.heap.size, #[.int .i64 t, .int .i64 vo, .slice a L.length cap], 39), (w.heap.size + 1, #[.int .i64 0, .int .i64 0, .slice none 0 0], 39), (w.heap.size + 1 + 1, #[.int .i64 T, .int .i64 V, .slice none 0 0], 39)]) := hdc
        have hz5 := hdc.lt 2 rfl
        clear hdc HD4 ce fe
        obtain ⟨WB, hWB⟩ : ∃ WB, WB = wc := ⟨_, rfl⟩
        subst hWB
        have hkp : kp ≤ L.length := by
          have hPE := HQ.out
          split at hPE
          · injection hPE with e1 e2; have := pickV_lt l (K2 + 1) (L.length + 1) (by omega); omega
          · injection hPE with e1 e2; omega
        have hK4 : K4 ≤ K2 + 5 := by
          have hPE := HQ.out
          have := pickK_le (L.length + 1)
          split at hPE
          · injection hPE with e1 e2; omega
          · injection hPE with e1 e2; omega
        clear HQ Hp2 HD3
        go_wp2_with fail
        go_loopw [9, 10, 11] (fun lo es iv wr => ∃ j : Nat, j ≤ kp ∧ iv = .int .i64 j ∧ lo = .int .i64 (lowV L j) ∧ OwnE wr WB.heap.size es (L.take j) ∧ Dr w wr g v l K4 [(w.heap.size, #[.int .i64 t, .int .i64 vo, .slice a L.length cap], 39), (w.heap.size + 1, #[.int .i64 0, .int .i64 0, .slice none 0 0], 39), (w.heap.size + 1 + 1, #[.int .i64 T, .int .i64 V, .slice none 0 0], 39)] ∧ WB.heap.size ≤ wr.heap.size) (fun _ _ i _ => kp - (intOf i).toNat)
        case atStart => exact ⟨0, Nat.zero_le _, rfl, rfl, OwnE.made _ _ (Nat.le_refl _), HD5.out.other _, by simp⟩
        case round =>
          obtain ⟨j, hj, rfl, rfl, ho, hd, hz⟩ := hrel
          have HOr : Hid (OwnE wr WB.heap.size u10 (L.take j)) := ho
          have HDr : Hid (Dr w wr g v l K4 [(w.heap.size, #[.int .i64 t, .int .i64 vo, .slice a L.length cap], 39), (w.heap.size + 1, #[.int .i64 0, .int .i64 0, .slice none 0 0], 39), (w.heap.size + 1 + 1, #[.int .i64 T, .int .i64 V, .slice none 0 0], 39)]) := hd
          have hlen : (L.take j).length = j := by rw [List.length_take]; omega
          obtain ⟨ea, ec, he⟩ := ho.shape
          rw [hlen] at he
          subst he
          have HLr : Hid (OwnE wr B0 (.slice a L.length cap) L) := HO.out.grown hd.grown hB0
          have ce := (hd.blk 0 rfl).cell
          have fe := (hd.blk 0 rfl).free
          clear ho hd HD5
          by_cases hlt : j < kp
          · have hjL : j < L.length := by omega
            have hjL' : (j : Int) < (L.length : Int) := by omega
            obtain ⟨b, off, ha, d0, d1, d2, d3, d4, d5, d6⟩ := esAt (HLr.out.es (by unfold maxLen; omega)) hjL
            have HFI : Hid (L[j].fits) := HLr.out.1 _ (List.getElem_mem hjL)
            have HLow : Hid (lowV L (j + 1) = L[j].t) := lowV_succ L j hjL
            have HTk : Hid (L.take (j + 1) = L.take j ++ [L[j]]) := (List.take_succ_eq_append_getElem hjL : L.take (j + 1) = L.take j ++ [L[j]])
            have hcell0 : ∀ u : World, OwnE u B0 (.slice a L.length cap) L → u.cell? ⟨b, off + j * 7, none⟩ = some (.int .i64 L[j].t) := fun u hu => by
              obtain ⟨b', off', ha', c0, _⟩ := esAt (hu.es (by unfold maxLen; omega)) hjL
              rw [ha] at ha'
              injection ha' with ha'
              injection ha' with f1 f2
              subst f1 f2
              exact c0
            have HC0 : Hid (∀ u : World, OwnE u B0 (.slice a L.length cap) L → u.cell? ⟨b, off + j * 7, none⟩ = some (.int .i64 L[j].t)) := hcell0
            clear hcell0
            subst ha
            generalize L[j] = y at *
            go_wp2_with (at_builtin; refine wpl_appendE rfl (.tmp 65) (.tmp 71) rfl y HFI.out (l := L.take j) (B := WB.heap.size) (HOr.out.below ((Below.refl _ _).alloc (Nat.le_refl _) _)) rfl wr.heap.size 1 (entAt_at wr y) rfl (by rw [hlen]; omega) (by simp; omega) ?_; intro v9 w9 ho9 hg9; have HB9 : Hid (Below WB.heap.size wr w9) := ((Below.refl _ _).alloc hz _).trans (growE hg9 (HOr.out.below ((Below.refl _ _).alloc (Nat.le_refl _) _)) (by simp; omega)); have HO9 : Hid (OwnE w9 WB.heap.size v9 (L.take j ++ [y])) := ho9; have HD9 : Hid (Dr w w9 g v l K4 [(w.heap.size, #[.int .i64 t, .int .i64 vo, .slice (some ⟨b, off, none⟩) L.length cap], 39), (w.heap.size + 1, #[.int .i64 0, .int .i64 0, .slice none 0 0], 39), (w.heap.size + 1 + 1, #[.int .i64 T, .int .i64 V, .slice none 0 0], 39)]) := HDr.out.belowB HB9.out (by omega) (by simp; omega); have HL9 : Hid (OwnE w9 B0 (.slice (some ⟨b, off, none⟩) L.length cap) L) := HO.out.grown HD9.out.grown hB0; have cc0 := HC0.out w9 HL9.out; have ce9 := (HD9.out.blk 0 rfl).cell; clear ho9 hg9)
            go_roundw
            case rel => exact ⟨j + 1, by omega, by go_num, by rw [HLow.out], by rw [HTk.out]; exact HO9.out, HD9.out, by have := HB9.out.size; omega⟩
            case measure => simp [intOf]; omega
          · obtain rfl : j = kp := by omega
            have hlowb : 0 ≤ lowV L j ∧ lowV L j ≤ 1073741824 := by
              rcases Nat.eq_zero_or_pos j with h0 | h0
              · subst h0; unfold lowV; rw [if_pos rfl]; omega
              · have h1 := lowV_succ L (j - 1) (by omega)
                rw [show j - 1 + 1 = j by omega] at h1
                rw [h1]
                exact HLt.out _ (List.getElem_mem _)
            obtain ⟨lw, hlw⟩ : ∃ lw, lw = lowV L j := ⟨_, rfl⟩
            rw [← hlw] at hlowb HEN
            have Hlw : Hid (lw = lowV L j) := hlw
            obtain ⟨hl0, hlM⟩ := hlowb
            rw [← hlw]
            clear hlw
            have ce2 := (HDr.out.blk 2 rfl).cell
            have hz2 := HDr.out.lt 2 rfl
            go_upto_if 81 with fail
            go_cut [10] (fun s10 wx => OwnE wx WB.heap.size s10 (L.take j ++ EN) ∧ Dr w wx g v l K6 [(w.heap.size, #[.int .i64 t, .int .i64 vo, .slice a L.length cap], 39), (w.heap.size + 1, #[.int .i64 0, .int .i64 0, .slice none 0 0], 39), (w.heap.size + 1 + 1, #[.int .i64 T, .int .i64 V, .slice none 0 0], 39)])
            case first =>
              by_cases c0 : 0 < T
              · rw [if_pos c0] at HEN
                have c1 : decide (0 < T) = true := by simpa using c0
                have hm := pickV_lt l K4 (n + 1) (by omega)
                obtain ⟨m, hmm⟩ : ∃ m, m = pickV l K4 (n + 1) := ⟨_, rfl⟩
                rw [← hmm] at hm HEN
                have HPN : Hid (Calls Tryd.prog 44 #[.pointer (some ⟨g, 0, none⟩), .int .i64 ((n : Int) + 1)] wr fun e w' => e = .returned (.int .i64 (m : Nat)) ∧ Dr w w' g v l (K4 + 1) [(w.heap.size, #[.int .i64 t, .int .i64 vo, .slice a L.length cap], 39), (w.heap.size + 1, #[.int .i64 0, .int .i64 0, .slice none 0 0], 39), (w.heap.size + 1 + 1, #[.int .i64 T, .int .i64 V, .slice none 0 0], 39)] ∧ wr.grownBy w' (some g)) := by
                  rw [hmm]
                  exact HDr.out.pickG (n + 1) hL (by omega) (by omega) (by omega)
                clear hmm
                have hDl := entsD_len l (K4 + 1) lw m
                have hDk := entsD_k l (K4 + 1) lw m
                obtain ⟨D, KD, TD, hD⟩ : ∃ D KD TD, entsD l (K4 + 1) lw m = (D, KD, TD) := ⟨_, _, _, rfl⟩
                have HEs : Hid (∀ (u : World), Src u g v l (K4 + 1) → Calls Tryd.prog 87 #[.pointer (some ⟨g, 0, none⟩), .int .i64 m, .int .i64 lw] u fun r w' => ∃ ev, r = .returned ev ∧ OwnE w' u.heap.size ev D ∧ Src w' g v l KD ∧ u.grownBy w' (some g)) := fun u hu => by
                  have := l1drawEntries_any g u v l (K4 + 1) m lw hL (by omega) (by omega) ⟨hl0, hlM⟩ hu
                  rw [hD] at this
                  exact this
                rw [hD] at HEN hDl hDk
                clear hD
                dsimp only at hDl hDk
                have hPE := HEN.out
                injection hPE with e1 e2
                have He1 : Hid (EN = D.map (clipE T)) := e1
                have hKD : KD = K6 := e2.symm
                subst hKD
                clear e1 e2 HEN Hlw
                go_wp2_with (first
                  | (go_at_call 44; refine HPN.out.mono ?_; rintro e w5 ⟨rfl, hd5, hg5⟩; have HD5 : Hid (Dr w w5 g v l (K4 + 1) [(w.heap.size, #[.int .i64 t, .int .i64 vo, .slice a L.length cap], 39), (w.heap.size + 1, #[.int .i64 0, .int .i64 0, .slice none 0 0], 39), (w.heap.size + 1 + 1, #[.int .i64 T, .int .i64 V, .slice none 0 0], 39)]) := hd5; have HO5 : Hid (OwnE w5 WB.heap.size (.slice ea j ec) (L.take j)) := HOr.out.grown hg5 (by omega); have HEQ5 : Hid (WB.heap.size ≤ w5.heap.size) := Nat.le_trans hz hg5.size; clear hd5 hg5)
                  | (go_at_call 87; refine (HEs.out _ HD5.out.src).mono ?_; rintro e w6 ⟨mv, rfl, ho6, hs6, hg6⟩; have HD6 : Hid (Dr w w6 g v l KD [(w.heap.size, #[.int .i64 t, .int .i64 vo, .slice a L.length cap], 39), (w.heap.size + 1, #[.int .i64 0, .int .i64 0, .slice none 0 0], 39), (w.heap.size + 1 + 1, #[.int .i64 T, .int .i64 V, .slice none 0 0], 39)]) := HD5.out.call hs6 hg6; have HO6 : Hid (OwnE w6 WB.heap.size (.slice ea j ec) (L.take j)) := HO5.out.grown hg6 (by omega); have HM6 : Hid (OwnE w6 w5.heap.size mv D) := ho6; have HEQ6 : Hid (w5.heap.size ≤ w6.heap.size) := hg6.size; clear ho6 hs6 hg6))
                subst hDl
                obtain ⟨ma, mc, hmv⟩ := HM6.out.shape
                subst hmv
                have hz6 := HD6.out.lt 2 rfl
                have hz5' := HO5.out.2.lt
                have HNE : Hid (∀ q, (Value.slice ea j ec).ownBlock = some q → (Value.slice ma D.length mc).ownBlock ≠ some q) := fun q h1 h2 => (by have := (HO5.out.2.lt q h1).2; have := (HM6.out.2.lt q h2).1; omega)
                have hzc6 : WB.heap.size ≤ w6.heap.size := by have := HEQ5.out; have := HEQ6.out; omega
                clear HD5 HO5 HDr HOr HLr HPN HEs hz5' ce2
                go_loopw [10, 13] (fun es iv wr => ∃ i : Nat, i ≤ D.length ∧ iv = .int .i64 i ∧ OwnE wr WB.heap.size es (L.take j ++ (D.take i).map (clipE T)) ∧ OwnE wr WB.heap.size (.slice ma D.length mc) ((D.take i).map (clipE T) ++ D.drop i) ∧ Dr w wr g v l KD [(w.heap.size, #[.int .i64 t, .int .i64 vo, .slice a L.length cap], 39), (w.heap.size + 1, #[.int .i64 0, .int .i64 0, .slice none 0 0], 39), (w.heap.size + 1 + 1, #[.int .i64 T, .int .i64 V, .slice none 0 0], 39)] ∧ (∀ q, es.ownBlock = some q → (Value.slice ma D.length mc).ownBlock ≠ some q) ∧ WB.heap.size ≤ wr.heap.size) (fun _ i _ => D.length - (intOf i).toNat)
                case atStart => exact ⟨0, Nat.zero_le _, rfl, by simpa using HO6.out, by simpa using HM6.out.le (by have := HEQ5.out; omega), HD6.out, HNE.out, hzc6⟩
                case round =>
                  obtain ⟨i, hi, rfl, ho, hm, hd, hne, hzr⟩ := hrel
                  obtain ⟨ea2, ec2, he⟩ := ho.shape
                  have hl1 : (L.take j ++ (D.take i).map (clipE T)).length = j + i := by rw [List.length_append, hlen, List.length_map, List.length_take]; omega
                  rw [hl1] at he
                  subst he
                  have hM1 : ((D.take i).map (clipE T) ++ D.drop i).length = D.length := by rw [List.length_append, List.length_map, List.length_take, List.length_drop]; omega
                  have HO7 : Hid (OwnE wr WB.heap.size (.slice ea2 (j + i) ec2) (L.take j ++ (D.take i).map (clipE T))) := ho
                  have HM7 : Hid (OwnE wr WB.heap.size (.slice ma D.length mc) ((D.take i).map (clipE T) ++ D.drop i)) := hm
                  have HD7 : Hid (Dr w wr g v l KD [(w.heap.size, #[.int .i64 t, .int .i64 vo, .slice a L.length cap], 39), (w.heap.size + 1, #[.int .i64 0, .int .i64 0, .slice none 0 0], 39), (w.heap.size + 1 + 1, #[.int .i64 T, .int .i64 V, .slice none 0 0], 39)]) := hd
                  have HN7 : Hid (∀ q, (Value.slice ea2 (j + i) ec2).ownBlock = some q → (Value.slice ma D.length mc).ownBlock ≠ some q) := hne
                  have ce2 := (hd.blk 2 rfl).cell
                  clear ho hm hd hne HD6 HO6 HM6 HNE
                  have h96 : (j : Int) + (i : Int) < 4096 := by omega
                  have h96' : decide ((j : Int) + (i : Int) < 4096) = true := by simpa using h96
                  by_cases hlt : i < D.length
                  · have hlt' : (i : Int) < (D.length : Int) := by omega
                    have hltb : decide ((i : Int) < (D.length : Int)) = true := by simpa using hlt'
                    obtain ⟨q, ha, ⟨d0, d1, d2, d3, d4, d5, d6⟩, fz⟩ := ownAt HM7.out hM1.symm (k := i) (by omega) (by unfold maxLen; omega)
                    have hMi : ((D.take i).map (clipE T) ++ D.drop i)[i]'(by omega) = D[i] := by
                      rw [List.getElem_append_right (by simp; omega)]
                      simp [List.length_take, Nat.min_eq_left (Nat.le_of_lt hlt)]
                    rw [hMi] at d0 d1 d2 d3 d4 d5 d6
                    subst ha
                    have HMS : Hid (∀ y, ((D.take i).map (clipE T) ++ D.drop i).set i y = (D.take i).map (clipE T) ++ y :: D.drop (i + 1)) := fun y => by
                      rw [List.set_append, if_neg (by simp; omega)]
                      congr 1
                      rw [List.length_map, List.length_take, Nat.min_eq_left (Nat.le_of_lt hlt), Nat.sub_self, List.drop_eq_getElem_cons hlt, List.set_cons_zero]
                    have HMN : Hid ((D.take (i + 1)).map (clipE T) = (D.take i).map (clipE T) ++ [clipE T D[i]]) := (by rw [List.take_succ_eq_append_getElem hlt, List.map_append]; rfl : (D.take (i + 1)).map (clipE T) = (D.take i).map (clipE T) ++ [clipE T D[i]])
                    obtain ⟨y, hy⟩ : ∃ y, y = D[i] := ⟨_, rfl⟩
                    rw [← hy] at d0 d1 d2 d3 d4 d5 d6 HMN
                    have HY : Hid (D.drop i = y :: D.drop (i + 1)) := (by rw [hy]; exact List.drop_eq_getElem_cons hlt : D.drop i = y :: D.drop (i + 1))
                    have HYM : Hid (setTE T (((D.take i).map (clipE T) ++ D.drop i)[i]'(by omega)) = setTE T y) := (by rw [hMi, hy] : setTE T (((D.take i).map (clipE T) ++ D.drop i)[i]'(by omega)) = setTE T y)
                    clear hMi hy
                    go_upto_region 22 with fail
                    go_cut [107] (fun s107 wx => s107 = .bool (decide (T < y.t)) ∧ ∃ nq, wx = wr.drewN nq)
                    case first =>
                      go_quiet (fail)
                      go_wp2
                      go_meet
                      exact ⟨rfl, _, rfl⟩
                    case rest =>
                      obtain ⟨rfl, nq, rfl⟩ := hcut
                      have HOA : Hid (OwnE (wr.drewN nq) WB.heap.size (.slice ea2 (j + i) ec2) (L.take j ++ (D.take i).map (clipE T))) := HO7.out.below ⟨rfl, rfl, rfl, Nat.le_refl _, fun _ _ => rfl⟩
                      have HMA : Hid (OwnE (wr.drewN nq) WB.heap.size (.slice (some ⟨q, 0, none⟩) D.length mc) ((D.take i).map (clipE T) ++ D.drop i)) := HM7.out.below ⟨rfl, rfl, rfl, Nat.le_refl _, fun _ _ => rfl⟩
                      have HDA : Hid (Dr w (wr.drewN nq) g v l KD [(w.heap.size, #[.int .i64 t, .int .i64 vo, .slice a L.length cap], 39), (w.heap.size + 1, #[.int .i64 0, .int .i64 0, .slice none 0 0], 39), (w.heap.size + 1 + 1, #[.int .i64 T, .int .i64 V, .slice none 0 0], 39)]) := HD7.out.drewN nq
                      go_upto_if 107 with fail
                      go_cut [107] (fun _ wx => OwnE wx WB.heap.size (.slice ea2 (j + i) ec2) (L.take j ++ (D.take i).map (clipE T)) ∧ OwnE wx WB.heap.size (.slice (some ⟨q, 0, none⟩) D.length mc) ((D.take i).map (clipE T) ++ clipE T y :: D.drop (i + 1)) ∧ Dr w wx g v l KD [(w.heap.size, #[.int .i64 t, .int .i64 vo, .slice a L.length cap], 39), (w.heap.size + 1, #[.int .i64 0, .int .i64 0, .slice none 0 0], 39), (w.heap.size + 1 + 1, #[.int .i64 T, .int .i64 V, .slice none 0 0], 39)] ∧ WB.heap.size ≤ wx.heap.size)
                      case first =>
                        by_cases cT : T < y.t
                        · have cT' : decide (T < y.t) = true := by simpa using cT
                          have hcl : clipE T y = setTE T y := by unfold clipE; rw [if_pos cT]
                          have HCL : Hid (clipE T y = setTE T y) := hcl
                          clear hcl
                          go_wp2_with fail
                          go_meet
                          have hMM := HMA.out.setT hM1.symm i (by omega) T
                          rw [HYM.out, HMS.out, ← HCL.out] at hMM
                          have hqc := (HMA.out.2.lt q rfl)
                          refine ⟨HOA.out.block fun q' hq' => ?_, hMM, ?_, by simpa [World.setCell] using hzr⟩
                          · exact Below.heap_setCell _ _ _ _ (fun e => HN7.out q' hq' (by show some q = some q'; rw [e]))
                          · exact HDA.out.belowB (B := WB.heap.size) ((Below.refl _ _).setCell (p := ⟨q, i * 7, none⟩) hqc.1 _) (by omega) (by simp; omega)
                        · have cT' : decide (T < y.t) = false := by simpa using cT
                          have hcl : clipE T y = y := by unfold clipE; rw [if_neg cT]
                          go_wp2_with fail
                          go_meet
                          exact ⟨HOA.out, by rw [hcl, ← HY.out]; exact HMA.out, HDA.out, hzr⟩
                      case rest =>
                        obtain ⟨ho, hm, hd, hzx⟩ := hcut
                        have HOC : Hid (OwnE wc WB.heap.size (.slice ea2 (j + i) ec2) (L.take j ++ (D.take i).map (clipE T))) := ho
                        have HMC : Hid (OwnE wc WB.heap.size (.slice (some ⟨q, 0, none⟩) D.length mc) ((D.take i).map (clipE T) ++ clipE T y :: D.drop (i + 1))) := hm
                        have HDC : Hid (Dr w wc g v l KD [(w.heap.size, #[.int .i64 t, .int .i64 vo, .slice a L.length cap], 39), (w.heap.size + 1, #[.int .i64 0, .int .i64 0, .slice none 0 0], 39), (w.heap.size + 1 + 1, #[.int .i64 T, .int .i64 V, .slice none 0 0], 39)]) := hd
                        have hM2 : ((D.take i).map (clipE T) ++ clipE T y :: D.drop (i + 1)).length = D.length := by simp [List.length_take]; omega
                        obtain ⟨q', ha, ⟨x0, x1, x2, x3, x4, x5, x6⟩, fx⟩ := ownAt hm hM2.symm (k := i) (by omega) (by unfold maxLen; omega)
                        injection ha with ha
                        injection ha with ha _
                        subst ha
                        have hMi : ((D.take i).map (clipE T) ++ clipE T y :: D.drop (i + 1))[i]'(by omega) = clipE T y := by
                          rw [List.getElem_append_right (by simp; omega)]
                          simp [List.length_take, Nat.min_eq_left (Nat.le_of_lt hlt)]
                        rw [hMi] at x0 x1 x2 x3 x4 x5 x6
                        have HFY : Hid ((clipE T y).fits) := hm.1 _ (List.mem_append_right _ (List.mem_cons_self ..))
                        clear hMi ho hm hd d0 d1 d2 d3 d4 d5 d6 HOA HMA HDA ce2 fz
                        obtain ⟨z, hz'⟩ : ∃ z, z = clipE T y := ⟨_, rfl⟩
                        rw [← hz'] at x0 x1 x2 x3 x4 x5 x6 HFY HMC HMN
                        clear hz'
                        go_wp2_with (at_builtin; refine wpl_appendE rfl (.tmp 114) (.tmp 119) rfl z HFY.out (l := L.take j ++ (D.take i).map (clipE T)) (B := WB.heap.size) (HOC.out.below ((Below.refl _ _).alloc (Nat.le_refl _) _)) rfl wc.heap.size 1 (entAt_at wc z) rfl (by rw [hl1]; omega) (by simp; omega) ?_; intro v9 w9 ho9 hg9; have HB9 : Hid (Below WB.heap.size wc w9) := ((Below.refl _ _).alloc hzx _).trans (growE hg9 (HOC.out.below ((Below.refl _ _).alloc (Nat.le_refl _) _)) (by simp; omega)); have HO9 : Hid (OwnE w9 WB.heap.size v9 (L.take j ++ (D.take i).map (clipE T) ++ [z])) := ho9; have HM9 : Hid (OwnE w9 WB.heap.size (.slice (some ⟨q, 0, none⟩) D.length mc) ((D.take i).map (clipE T) ++ z :: D.drop (i + 1))) := (HMC.out.below ((Below.refl _ _).alloc (Nat.le_refl _) _)).block (fun q2 hq2 => hg9.g.block q2 (by have := (HMC.out.2.lt q2 hq2).2; simp; omega) (fun e => HN7.out q2 e.symm hq2)); have HN9 : Hid (∀ q2, v9.ownBlock = some q2 → (Value.slice (some ⟨q, 0, none⟩) D.length mc).ownBlock ≠ some q2) := farGrew hg9 HN7.out (fun q2 h2 => by have := (HMC.out.2.lt q2 h2).2; simp; omega); have HD9 : Hid (Dr w w9 g v l KD [(w.heap.size, #[.int .i64 t, .int .i64 vo, .slice a L.length cap], 39), (w.heap.size + 1, #[.int .i64 0, .int .i64 0, .slice none 0 0], 39), (w.heap.size + 1 + 1, #[.int .i64 T, .int .i64 V, .slice none 0 0], 39)]) := HDC.out.belowB HB9.out (by omega) (by simp; omega); clear ho9 hg9)
                        go_roundw
                        case rel =>
                          exact ⟨i + 1, by omega, by go_num, by rw [HMN.out, ← List.append_assoc]; exact HO9.out, by rw [HMN.out, List.append_assoc]; exact HM9.out, HD9.out, HN9.out, by have := HB9.out.size; omega⟩
                        case measure => simp [intOf]; omega
                  · obtain rfl : i = D.length := by omega
                    have hltb : decide ((D.length : Int) < (D.length : Int)) = false := by simp
                    go_wp2_with fail
                    go_meet
                    refine ⟨?_, HD7.out⟩
                    have := HO7.out
                    rw [List.take_length, ← He1.out] at this
                    exact this
              · rw [if_neg c0] at HEN
                have c1 : decide (0 < T) = false := by simpa using c0
                have hPE := HEN.out
                injection hPE with e1 e2
                subst e1 e2
                go_wp2_with fail
                go_meet
                exact ⟨by rw [List.append_nil]; exact HOr.out, HDr.out⟩
            case rest =>
              obtain ⟨ho, hd⟩ := hcut
              obtain ⟨fa, fc, he⟩ := ho.shape
              obtain ⟨nl, hNL⟩ : ∃ nl, nl = (L.take j ++ EN).length := ⟨_, rfl⟩
              rw [← hNL] at he
              subst he
              have HNL : Hid (nl = (L.take j ++ EN).length) := hNL
              clear hNL
              have HOF : Hid (OwnE wc WB.heap.size (.slice fa nl fc) (L.take j ++ EN)) := ho
              have h1 := hd.set 2 rfl 2 (by simp) (.slice fa nl fc) rfl
              have h2 := h1.set 1 rfl 0 (by simp) (.int .i64 T) rfl
              have h3 := h2.set 1 rfl 1 (by simp) (.int .i64 V) rfl
              have h4 := h3.set 1 rfl 2 (by simp) (.slice fa nl fc) rfl
              have HDF : Hid (Dr w ((((wc.setCell ⟨w.heap.size + 1 + 1, 2, none⟩ (.slice fa nl fc)).setCell ⟨w.heap.size + 1, 0, none⟩ (.int .i64 T)).setCell ⟨w.heap.size + 1, 1, none⟩ (.int .i64 V)).setCell ⟨w.heap.size + 1, 2, none⟩ (.slice fa nl fc)) g v l K6 [(w.heap.size, #[.int .i64 t, .int .i64 vo, .slice a L.length cap], 39), (w.heap.size + 1, #[.int .i64 T, .int .i64 V, .slice fa nl fc], 39), (w.heap.size + 1 + 1, #[.int .i64 T, .int .i64 V, .slice fa nl fc], 39)]) := h4
              have ce1 := (hd.blk 1 rfl).cell
              have fe1 := (hd.blk 1 rfl).free
              have ce2' := (hd.blk 2 rfl).cell
              have fe2' := (hd.blk 2 rfl).free
              clear h1 h2 h3 h4 ho hd HDr HOr HLr HEN ce2
              go_wp2_with fail
              exact bodyPost_ret (results_blk Tryd.results54 rfl (HDF.out.blk 1 rfl) Tryd.underlying39 rfl infoStb rfl) rfl ⟨fa, fc, by rw [← HNL.out], by rw [← HNL.out]; exact ((ownE_set (ownE_set (ownE_set (ownE_set HOF.out _ _ _ (by omega)) _ _ _ (by omega)) _ _ _ (by omega)) _ _ _ (by omega)).le (by omega)), HDF.out.src, HDF.out.grown⟩
end Go.Proofs.YtjoflnnomebkpaaDoor
