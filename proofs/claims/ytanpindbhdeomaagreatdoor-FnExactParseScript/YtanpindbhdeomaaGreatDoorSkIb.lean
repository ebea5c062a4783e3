/-
  The tables of a script's words; impl.stepFits.
-/
import Derived.Test.YtanpindbhdeomaaGreatDoorSkIa0
import Derived.Test.YtanpindbhdeomaaGreatDoorSOf
import Derived.Test.YtanpindbhdeomaaGreatDoorRowBase
import Derived.Test.YtanpindbhdeomaaGreatDoorGround
namespace Go.Proofs.YtanpindbhdeomaaGreatDoor
open Go.RowKit
set_option linter.unusedVariables false
set_option linter.unusedSimpArgs false

/-- the tables, as a world holds them -/
structure Tabs (w : World) : Prop where
  f0 : ∀ kd : Int, 1 ≤ kd → kd ≤ 14 → w.cell? ⟨0, kd.toNat * 4, none⟩ = some (.string (sOf (wordK kd)))
  f1 : ∀ kd : Int, 1 ≤ kd → kd ≤ 14 → w.cell? ⟨0, kd.toNat * 4 + 1, none⟩ = some (.int .i64 (nk0 kd))
  f2 : ∀ kd : Int, 1 ≤ kd → kd ≤ 14 → w.cell? ⟨0, kd.toNat * 4 + 2, none⟩ = some (.int .i64 (nk1 kd))
  f3 : ∀ kd : Int, 1 ≤ kd → kd ≤ 14 → w.cell? ⟨0, kd.toNat * 4 + 3, none⟩ = some (.int .i64 (nk2 kd))
  ws : ∀ op : Int, 1 ≤ op → op ≤ 4 → w.cell? ⟨2, op.toNat, none⟩ = some (.string (sOf (opK op)))
theorem Tabs.lt {w : World} (h : Tabs w) : 0 < w.heap.size := cell_lt (h.f0 1 (by omega) (by omega))
theorem Tabs.lt' {w : World} (h : Tabs w) : 2 < w.heap.size := cell_lt (h.ws 1 (by omega) (by omega))
theorem Tabs.below {w w' : World} (h : Tabs w) (hb : Below w.heap.size w w') : Tabs w' := by
  have q1 := h.lt
  have q2 := h.lt'
  refine ⟨fun kd a b => ?_, fun kd a b => ?_, fun kd a b => ?_, fun kd a b => ?_, fun op a b => ?_⟩
  · exact (hb.cell (p := ⟨0, _, none⟩) q1).trans (h.f0 kd a b)
  · exact (hb.cell (p := ⟨0, _, none⟩) q1).trans (h.f1 kd a b)
  · exact (hb.cell (p := ⟨0, _, none⟩) q1).trans (h.f2 kd a b)
  · exact (hb.cell (p := ⟨0, _, none⟩) q1).trans (h.f3 kd a b)
  · exact (hb.cell (p := ⟨2, _, none⟩) q2).trans (h.ws op a b)
theorem kd_casesI {kd : Int} (h1 : 1 ≤ kd) (h2 : kd ≤ 14) : kd = 1 ∨ kd = 2 ∨ kd = 3 ∨ kd = 4 ∨ kd = 5 ∨ kd = 6 ∨ kd = 7 ∨ kd = 8 ∨ kd = 9 ∨ kd = 10 ∨ kd = 11 ∨ kd = 12 ∨ kd = 13 ∨ kd = 14 := by omega
set_option maxRecDepth 100000 in
theorem form_at (kd : Int) (h1 : 1 ≤ kd) (h2 : kd ≤ 14) (u : World) : (Instr.indexAt 93 (.pointer (some ⟨0, 0, none⟩)) (.int .i64 kd)).run Tryz.prog u = .ok (.pointer (some ⟨0, kd.toNat * 4, none⟩)) u := by
  rcases kd_casesI h1 h2 with rfl | rfl | rfl | rfl | rfl | rfl | rfl | rfl | rfl | rfl | rfl | rfl | rfl | rfl <;> simp [go_sem]
set_option maxRecDepth 100000 in
theorem word_at (op : Int) (h1 : 1 ≤ op) (h2 : op ≤ 4) (u : World) : (Instr.indexAt 105 (.pointer (some ⟨2, 0, none⟩)) (.int .i64 op)).run Tryz.prog u = .ok (.pointer (some ⟨2, op.toNat, none⟩)) u := by
  rcases (show op = 1 ∨ op = 2 ∨ op = 3 ∨ op = 4 by omega) with rfl | rfl | rfl | rfl <;> simp [go_sem]
theorem siz_nilI (k : ByteArray) : k.size = 0 ↔ k.toList = [] := by
  rw [ByteArray.toList_eq]
  exact List.length_eq_zero_iff (l := k.data.toList)
theorem nk_le (kd : Int) : (0 ≤ nk0 kd ∧ nk0 kd ≤ 7) ∧ (0 ≤ nk1 kd ∧ nk1 kd ≤ 7) ∧ (0 ≤ nk2 kd ∧ nk2 kd ≤ 7) := by
  unfold nk0 nk1 nk2
  refine ⟨?_, ?_, ?_⟩ <;> (repeat' split) <;> omega

set_option maxHeartbeats 8000000 in
set_option maxRecDepth 100000 in
theorem stepFits_any (kd xa xb xc cl sq op : Int) (k v o : ByteArray) (hk : k.size ≤ 1048576) (hv : v.size ≤ 1048576) (ho : o.size ≤ 1048576) (sv cc el b r d : Int) (w : World) (ht : Tabs w) :
    Calls Tryz.prog 50 #[.agg #[.int .i64 kd, .int .i64 xa, .int .i64 xb, .int .i64 xc, .int .i64 cl, .int .i64 sq, .int .i64 op, .string k, .string v, .string o], .agg #[.int .i64 sv, .int .i64 cc, .int .i64 el, .int .i64 b, .int .i64 r, .int .i64 d]] w fun e w' => e = .returned (.bool (stOk sv cc ⟨kd, xa, xb, xc, cl, sq, op, k, v, o⟩)) ∧ Below w.heap.size w w' := by
  have HE : Hid (stOk sv cc ⟨kd, xa, xb, xc, cl, sq, op, k, v, o⟩ = (inB kd 1 14 && inB xa (nLo (nk0 kd)) (nHi sv cc (nk0 kd)) && inB xb (nLo (nk1 kd)) (nHi sv cc (nk1 kd)) && inB xc (nLo (nk2 kd)) (nHi sv cc (nk2 kd)) && (if kd = 11 then decide (cl = 0) && decide (sq = 0) && decide (callF 1 1 op k.size v.size o.size = 0) else decide (cl = 0) && decide (sq = 0) && decide (op = 0) && decide (k.size = 0) && decide (v.size = 0) && decide (o.size = 0)))) := rfl
  generalize stOk sv cc ⟨kd, xa, xb, xc, cl, sq, op, k, v, o⟩ = E at HE ⊢
  have HT : Hid (Tabs w) := ht
  clear ht
  cases hin : inB kd 1 14
  · rw [hin] at HE
    have HEf : Hid (E = false) := by unfold Hid; rw [HE.out]; simp
    clear HE
    go_enter Tryz.func50, Tryz.ntmps50
    go_wp2_with (go_at_call 43; refine (within_any _ _ _ _).mono ?_; rintro e w' ⟨rfl, rfl⟩)
    all_goals go_ret
    all_goals exact ⟨by rw [HEf.out]; rfl, ((Below.refl _ _).alloc (Nat.le_refl _) _).alloc (by simp) _⟩
  obtain ⟨k1, k2⟩ := (inB_iff _ _ _).1 hin
  rw [hin] at HE
  have hfa := form_at kd k1 k2
  have f0 : ∀ o1 o2 : Obj, ((w.alloc o1).alloc o2).cell? ⟨0, kd.toNat * 4, none⟩ = some (.string (sOf (wordK kd))) := fun o1 o2 => (HT.out.below (((Below.refl _ _).alloc (Nat.le_refl _) _).alloc (by simp) _)).f0 kd k1 k2
  have f1 : ∀ o1 o2 : Obj, ((w.alloc o1).alloc o2).cell? ⟨0, kd.toNat * 4 + 1, none⟩ = some (.int .i64 (nk0 kd)) := fun o1 o2 => (HT.out.below (((Below.refl _ _).alloc (Nat.le_refl _) _).alloc (by simp) _)).f1 kd k1 k2
  have f2 : ∀ o1 o2 : Obj, ((w.alloc o1).alloc o2).cell? ⟨0, kd.toNat * 4 + 2, none⟩ = some (.int .i64 (nk1 kd)) := fun o1 o2 => (HT.out.below (((Below.refl _ _).alloc (Nat.le_refl _) _).alloc (by simp) _)).f2 kd k1 k2
  have f3 : ∀ o1 o2 : Obj, ((w.alloc o1).alloc o2).cell? ⟨0, kd.toNat * 4 + 3, none⟩ = some (.int .i64 (nk2 kd)) := fun o1 o2 => (HT.out.below (((Below.refl _ _).alloc (Nat.le_refl _) _).alloc (by simp) _)).f3 kd k1 k2
  obtain ⟨nb0, nb1, nb2⟩ := nk_le kd
  have HR0 : Hid (∀ u, Calls Tryz.prog 67 #[.int .i64 (nk0 kd), .agg #[.int .i64 sv, .int .i64 cc, .int .i64 el, .int .i64 b, .int .i64 r, .int .i64 d]] u fun e w' => e = .returned (.tuple #[.int .i64 (nLo (nk0 kd)), .int .i64 (nHi sv cc (nk0 kd))]) ∧ Below u.heap.size u w') := fun u => rangeOf_any _ sv cc el b r d nb0.1 nb0.2 u
  have HR1 : Hid (∀ u, Calls Tryz.prog 67 #[.int .i64 (nk1 kd), .agg #[.int .i64 sv, .int .i64 cc, .int .i64 el, .int .i64 b, .int .i64 r, .int .i64 d]] u fun e w' => e = .returned (.tuple #[.int .i64 (nLo (nk1 kd)), .int .i64 (nHi sv cc (nk1 kd))]) ∧ Below u.heap.size u w') := fun u => rangeOf_any _ sv cc el b r d nb1.1 nb1.2 u
  have HR2 : Hid (∀ u, Calls Tryz.prog 67 #[.int .i64 (nk2 kd), .agg #[.int .i64 sv, .int .i64 cc, .int .i64 el, .int .i64 b, .int .i64 r, .int .i64 d]] u fun e w' => e = .returned (.tuple #[.int .i64 (nLo (nk2 kd)), .int .i64 (nHi sv cc (nk2 kd))]) ∧ Below u.heap.size u w') := fun u => rangeOf_any _ sv cc el b r d nb2.1 nb2.2 u
  clear nb0 nb1 nb2 HT
  have HAs : Hid (∀ u, Calls Tryz.prog 68 #[.agg #[.int .i64 cl, .int .i64 sq, .int .i64 op, .string k, .string v, .string o]] u fun e w' => e = .returned (.bool (decide (cl = 0) && decide (sq = 0) && decide (callF 1 1 op k.size v.size o.size = 0))) ∧ Below u.heap.size u w') := fun u => askFits_any cl sq op k v o hk hv ho u
  have HCm : Hid ((if kd = 11 then decide (cl = 0) && decide (sq = 0) && decide (callF 1 1 op k.size v.size o.size = 0) else decide (cl = 0) && decide (sq = 0) && decide (op = 0) && decide (k.size = 0) && decide (v.size = 0) && decide (o.size = 0)) = (if kd = 11 then decide (cl = 0) && decide (sq = 0) && decide (callF 1 1 op k.size v.size o.size = 0) else decide (cl = 0) && decide (sq = 0) && decide (op = 0) && decide (k.size = 0) && decide (v.size = 0) && decide (o.size = 0))) := rfl
  generalize hcm : (if kd = 11 then decide (cl = 0) && decide (sq = 0) && decide (callF 1 1 op k.size v.size o.size = 0) else decide (cl = 0) && decide (sq = 0) && decide (op = 0) && decide (k.size = 0) && decide (v.size = 0) && decide (o.size = 0)) = cm at HE
  have HCM : Hid (cm = (if kd = 11 then decide (cl = 0) && decide (sq = 0) && decide (callF 1 1 op k.size v.size o.size = 0) else decide (cl = 0) && decide (sq = 0) && decide (op = 0) && decide (k.size = 0) && decide (v.size = 0) && decide (o.size = 0))) := hcm.symm
  clear hcm HCm
  generalize (decide (cl = 0) && decide (sq = 0) && decide (callF 1 1 op k.size v.size o.size = 0)) = af at HAs HCM
  generalize kd.toNat * 4 = K at hfa f0 f1 f2 f3
  generalize nLo (nk0 kd) = l0 at HE HR0
  generalize nHi sv cc (nk0 kd) = h0 at HE HR0
  generalize nLo (nk1 kd) = l1 at HE HR1
  generalize nHi sv cc (nk1 kd) = h1 at HE HR1
  generalize nLo (nk2 kd) = l2 at HE HR2
  generalize nHi sv cc (nk2 kd) = h2 at HE HR2
  generalize nk0 kd = n0 at *
  generalize nk1 kd = n1 at *
  generalize nk2 kd = n2 at *
  generalize sOf (wordK kd) = wd at *
  obtain ⟨r0, hr0⟩ : ∃ x, inB xa l0 h0 = x := ⟨_, rfl⟩
  obtain ⟨r1, hr1⟩ : ∃ x, inB xb l1 h1 = x := ⟨_, rfl⟩
  obtain ⟨r2, hr2⟩ : ∃ x, inB xc l2 h2 = x := ⟨_, rfl⟩
  rw [hr0, hr1, hr2] at HE
  clear k1 k2
  go_enter Tryz.func50, Tryz.ntmps50
  go_wp2_with (go_at_call 43; refine (within_any _ _ _ _).mono ?_; rintro e w' ⟨rfl, rfl⟩)
  clear f0 f1 f2 f3 hfa
  have HB2 : Hid (Below w.heap.size w (((w.alloc (.cells #[.int .i64 kd, .int .i64 xa, .int .i64 xb, .int .i64 xc, .int .i64 cl, .int .i64 sq, .int .i64 op, .string k, .string v, .string o] 48)).alloc (.cells #[.int .i64 sv, .int .i64 cc, .int .i64 el, .int .i64 b, .int .i64 r, .int .i64 d] 23)).alloc (.cells #[.string wd, .int .i64 n0, .int .i64 n1, .int .i64 n2] 92))) := (((Below.refl _ _).alloc (Nat.le_refl _) _).alloc (by simp) _).alloc (by simp <;> omega) _
  have hz2 : (((w.alloc (.cells #[.int .i64 kd, .int .i64 xa, .int .i64 xb, .int .i64 xc, .int .i64 cl, .int .i64 sq, .int .i64 op, .string k, .string v, .string o] 48)).alloc (.cells #[.int .i64 sv, .int .i64 cc, .int .i64 el, .int .i64 b, .int .i64 r, .int .i64 d] 23)).alloc (.cells #[.string wd, .int .i64 n0, .int .i64 n1, .int .i64 n2] 92)).heap.size = w.heap.size + 3 := by simp
  have cS0 : (((w.alloc (.cells #[.int .i64 kd, .int .i64 xa, .int .i64 xb, .int .i64 xc, .int .i64 cl, .int .i64 sq, .int .i64 op, .string k, .string v, .string o] 48)).alloc (.cells #[.int .i64 sv, .int .i64 cc, .int .i64 el, .int .i64 b, .int .i64 r, .int .i64 d] 23)).alloc (.cells #[.string wd, .int .i64 n0, .int .i64 n1, .int .i64 n2] 92)).cell? ⟨w.heap.size, 0, none⟩ = some (.int .i64 kd) := by simp [go_sem]
  have cS1 : (((w.alloc (.cells #[.int .i64 kd, .int .i64 xa, .int .i64 xb, .int .i64 xc, .int .i64 cl, .int .i64 sq, .int .i64 op, .string k, .string v, .string o] 48)).alloc (.cells #[.int .i64 sv, .int .i64 cc, .int .i64 el, .int .i64 b, .int .i64 r, .int .i64 d] 23)).alloc (.cells #[.string wd, .int .i64 n0, .int .i64 n1, .int .i64 n2] 92)).cell? ⟨w.heap.size, 1, none⟩ = some (.int .i64 xa) := by simp [go_sem]
  have cS2 : (((w.alloc (.cells #[.int .i64 kd, .int .i64 xa, .int .i64 xb, .int .i64 xc, .int .i64 cl, .int .i64 sq, .int .i64 op, .string k, .string v, .string o] 48)).alloc (.cells #[.int .i64 sv, .int .i64 cc, .int .i64 el, .int .i64 b, .int .i64 r, .int .i64 d] 23)).alloc (.cells #[.string wd, .int .i64 n0, .int .i64 n1, .int .i64 n2] 92)).cell? ⟨w.heap.size, 2, none⟩ = some (.int .i64 xb) := by simp [go_sem]
  have cS3 : (((w.alloc (.cells #[.int .i64 kd, .int .i64 xa, .int .i64 xb, .int .i64 xc, .int .i64 cl, .int .i64 sq, .int .i64 op, .string k, .string v, .string o] 48)).alloc (.cells #[.int .i64 sv, .int .i64 cc, .int .i64 el, .int .i64 b, .int .i64 r, .int .i64 d] 23)).alloc (.cells #[.string wd, .int .i64 n0, .int .i64 n1, .int .i64 n2] 92)).cell? ⟨w.heap.size, 3, none⟩ = some (.int .i64 xc) := by simp [go_sem]
  have cS4 : (((w.alloc (.cells #[.int .i64 kd, .int .i64 xa, .int .i64 xb, .int .i64 xc, .int .i64 cl, .int .i64 sq, .int .i64 op, .string k, .string v, .string o] 48)).alloc (.cells #[.int .i64 sv, .int .i64 cc, .int .i64 el, .int .i64 b, .int .i64 r, .int .i64 d] 23)).alloc (.cells #[.string wd, .int .i64 n0, .int .i64 n1, .int .i64 n2] 92)).cell? ⟨w.heap.size, 4, none⟩ = some (.int .i64 cl) := by simp [go_sem]
  have cS5 : (((w.alloc (.cells #[.int .i64 kd, .int .i64 xa, .int .i64 xb, .int .i64 xc, .int .i64 cl, .int .i64 sq, .int .i64 op, .string k, .string v, .string o] 48)).alloc (.cells #[.int .i64 sv, .int .i64 cc, .int .i64 el, .int .i64 b, .int .i64 r, .int .i64 d] 23)).alloc (.cells #[.string wd, .int .i64 n0, .int .i64 n1, .int .i64 n2] 92)).cell? ⟨w.heap.size, 5, none⟩ = some (.int .i64 sq) := by simp [go_sem]
  have cS6 : (((w.alloc (.cells #[.int .i64 kd, .int .i64 xa, .int .i64 xb, .int .i64 xc, .int .i64 cl, .int .i64 sq, .int .i64 op, .string k, .string v, .string o] 48)).alloc (.cells #[.int .i64 sv, .int .i64 cc, .int .i64 el, .int .i64 b, .int .i64 r, .int .i64 d] 23)).alloc (.cells #[.string wd, .int .i64 n0, .int .i64 n1, .int .i64 n2] 92)).cell? ⟨w.heap.size, 6, none⟩ = some (.int .i64 op) := by simp [go_sem]
  have cS7 : (((w.alloc (.cells #[.int .i64 kd, .int .i64 xa, .int .i64 xb, .int .i64 xc, .int .i64 cl, .int .i64 sq, .int .i64 op, .string k, .string v, .string o] 48)).alloc (.cells #[.int .i64 sv, .int .i64 cc, .int .i64 el, .int .i64 b, .int .i64 r, .int .i64 d] 23)).alloc (.cells #[.string wd, .int .i64 n0, .int .i64 n1, .int .i64 n2] 92)).cell? ⟨w.heap.size, 7, none⟩ = some (.string k) := by simp [go_sem]
  have cS8 : (((w.alloc (.cells #[.int .i64 kd, .int .i64 xa, .int .i64 xb, .int .i64 xc, .int .i64 cl, .int .i64 sq, .int .i64 op, .string k, .string v, .string o] 48)).alloc (.cells #[.int .i64 sv, .int .i64 cc, .int .i64 el, .int .i64 b, .int .i64 r, .int .i64 d] 23)).alloc (.cells #[.string wd, .int .i64 n0, .int .i64 n1, .int .i64 n2] 92)).cell? ⟨w.heap.size, 8, none⟩ = some (.string v) := by simp [go_sem]
  have cS9 : (((w.alloc (.cells #[.int .i64 kd, .int .i64 xa, .int .i64 xb, .int .i64 xc, .int .i64 cl, .int .i64 sq, .int .i64 op, .string k, .string v, .string o] 48)).alloc (.cells #[.int .i64 sv, .int .i64 cc, .int .i64 el, .int .i64 b, .int .i64 r, .int .i64 d] 23)).alloc (.cells #[.string wd, .int .i64 n0, .int .i64 n1, .int .i64 n2] 92)).cell? ⟨w.heap.size, 9, none⟩ = some (.string o) := by simp [go_sem]
  have cU0 : (((w.alloc (.cells #[.int .i64 kd, .int .i64 xa, .int .i64 xb, .int .i64 xc, .int .i64 cl, .int .i64 sq, .int .i64 op, .string k, .string v, .string o] 48)).alloc (.cells #[.int .i64 sv, .int .i64 cc, .int .i64 el, .int .i64 b, .int .i64 r, .int .i64 d] 23)).alloc (.cells #[.string wd, .int .i64 n0, .int .i64 n1, .int .i64 n2] 92)).cell? ⟨w.heap.size + 1, 0, none⟩ = some (.int .i64 sv) := by simp [go_sem]
  have cU1 : (((w.alloc (.cells #[.int .i64 kd, .int .i64 xa, .int .i64 xb, .int .i64 xc, .int .i64 cl, .int .i64 sq, .int .i64 op, .string k, .string v, .string o] 48)).alloc (.cells #[.int .i64 sv, .int .i64 cc, .int .i64 el, .int .i64 b, .int .i64 r, .int .i64 d] 23)).alloc (.cells #[.string wd, .int .i64 n0, .int .i64 n1, .int .i64 n2] 92)).cell? ⟨w.heap.size + 1, 1, none⟩ = some (.int .i64 cc) := by simp [go_sem]
  have cU2 : (((w.alloc (.cells #[.int .i64 kd, .int .i64 xa, .int .i64 xb, .int .i64 xc, .int .i64 cl, .int .i64 sq, .int .i64 op, .string k, .string v, .string o] 48)).alloc (.cells #[.int .i64 sv, .int .i64 cc, .int .i64 el, .int .i64 b, .int .i64 r, .int .i64 d] 23)).alloc (.cells #[.string wd, .int .i64 n0, .int .i64 n1, .int .i64 n2] 92)).cell? ⟨w.heap.size + 1, 2, none⟩ = some (.int .i64 el) := by simp [go_sem]
  have cU3 : (((w.alloc (.cells #[.int .i64 kd, .int .i64 xa, .int .i64 xb, .int .i64 xc, .int .i64 cl, .int .i64 sq, .int .i64 op, .string k, .string v, .string o] 48)).alloc (.cells #[.int .i64 sv, .int .i64 cc, .int .i64 el, .int .i64 b, .int .i64 r, .int .i64 d] 23)).alloc (.cells #[.string wd, .int .i64 n0, .int .i64 n1, .int .i64 n2] 92)).cell? ⟨w.heap.size + 1, 3, none⟩ = some (.int .i64 b) := by simp [go_sem]
  have cU4 : (((w.alloc (.cells #[.int .i64 kd, .int .i64 xa, .int .i64 xb, .int .i64 xc, .int .i64 cl, .int .i64 sq, .int .i64 op, .string k, .string v, .string o] 48)).alloc (.cells #[.int .i64 sv, .int .i64 cc, .int .i64 el, .int .i64 b, .int .i64 r, .int .i64 d] 23)).alloc (.cells #[.string wd, .int .i64 n0, .int .i64 n1, .int .i64 n2] 92)).cell? ⟨w.heap.size + 1, 4, none⟩ = some (.int .i64 r) := by simp [go_sem]
  have cU5 : (((w.alloc (.cells #[.int .i64 kd, .int .i64 xa, .int .i64 xb, .int .i64 xc, .int .i64 cl, .int .i64 sq, .int .i64 op, .string k, .string v, .string o] 48)).alloc (.cells #[.int .i64 sv, .int .i64 cc, .int .i64 el, .int .i64 b, .int .i64 r, .int .i64 d] 23)).alloc (.cells #[.string wd, .int .i64 n0, .int .i64 n1, .int .i64 n2] 92)).cell? ⟨w.heap.size + 1, 5, none⟩ = some (.int .i64 d) := by simp [go_sem]
  have cM0 : (((w.alloc (.cells #[.int .i64 kd, .int .i64 xa, .int .i64 xb, .int .i64 xc, .int .i64 cl, .int .i64 sq, .int .i64 op, .string k, .string v, .string o] 48)).alloc (.cells #[.int .i64 sv, .int .i64 cc, .int .i64 el, .int .i64 b, .int .i64 r, .int .i64 d] 23)).alloc (.cells #[.string wd, .int .i64 n0, .int .i64 n1, .int .i64 n2] 92)).cell? ⟨w.heap.size + 1 + 1, 1, none⟩ = some (.int .i64 n0) := by simp [go_sem]
  have cM1 : (((w.alloc (.cells #[.int .i64 kd, .int .i64 xa, .int .i64 xb, .int .i64 xc, .int .i64 cl, .int .i64 sq, .int .i64 op, .string k, .string v, .string o] 48)).alloc (.cells #[.int .i64 sv, .int .i64 cc, .int .i64 el, .int .i64 b, .int .i64 r, .int .i64 d] 23)).alloc (.cells #[.string wd, .int .i64 n0, .int .i64 n1, .int .i64 n2] 92)).cell? ⟨w.heap.size + 1 + 1, 2, none⟩ = some (.int .i64 n1) := by simp [go_sem]
  have cM2 : (((w.alloc (.cells #[.int .i64 kd, .int .i64 xa, .int .i64 xb, .int .i64 xc, .int .i64 cl, .int .i64 sq, .int .i64 op, .string k, .string v, .string o] 48)).alloc (.cells #[.int .i64 sv, .int .i64 cc, .int .i64 el, .int .i64 b, .int .i64 r, .int .i64 d] 23)).alloc (.cells #[.string wd, .int .i64 n0, .int .i64 n1, .int .i64 n2] 92)).cell? ⟨w.heap.size + 1 + 1, 3, none⟩ = some (.int .i64 n2) := by simp [go_sem]
  generalize (((w.alloc (.cells #[.int .i64 kd, .int .i64 xa, .int .i64 xb, .int .i64 xc, .int .i64 cl, .int .i64 sq, .int .i64 op, .string k, .string v, .string o] 48)).alloc (.cells #[.int .i64 sv, .int .i64 cc, .int .i64 el, .int .i64 b, .int .i64 r, .int .i64 d] 23)).alloc (.cells #[.string wd, .int .i64 n0, .int .i64 n1, .int .i64 n2] 92)) = w2 at *
  have HN : Hid (∀ wr, Below w2.heap.size w2 wr → Below w.heap.size w wr) := fun wr h => HB2.out.trans (h.mono (by omega))
  have ix0 : ∀ x : World, (Instr.index 90 (.agg #[.int .i64 xa, .int .i64 xb, .int .i64 xc]) (.int .i64 0)).run Tryz.prog x = .ok (.int .i64 xa) x := fun _ => by kernel_rfl
  have ix1 : ∀ x : World, (Instr.index 90 (.agg #[.int .i64 xa, .int .i64 xb, .int .i64 xc]) (.int .i64 1)).run Tryz.prog x = .ok (.int .i64 xb) x := fun _ => by kernel_rfl
  have ix2 : ∀ x : World, (Instr.index 90 (.agg #[.int .i64 xa, .int .i64 xb, .int .i64 xc]) (.int .i64 2)).run Tryz.prog x = .ok (.int .i64 xc) x := fun _ => by kernel_rfl
  go_loopw [25] (fun i wr => ∃ j : Nat, j ≤ 3 ∧ i = .int .i64 j ∧ (1 ≤ j → r0 = true) ∧ (2 ≤ j → r1 = true) ∧ (3 ≤ j → r2 = true) ∧ Below w2.heap.size w2 wr) (fun i _ => 3 - (intOf i).toNat)
  case atStart => exact ⟨0, by omega, rfl, fun h => absurd h (by omega), fun h => absurd h (by omega), fun h => absurd h (by omega), Below.refl _ _⟩
  case round =>
    obtain ⟨j, hj, rfl, q0, q1, q2, hB⟩ := hrel
    have HB : Hid (Below w2.heap.size w2 wr) := hB
    have hzr := hB.size
    replace cS0 := (hB.cell (p := ⟨w.heap.size, 0, none⟩) (show w.heap.size < w2.heap.size by omega)).trans cS0
    replace cS1 := (hB.cell (p := ⟨w.heap.size, 1, none⟩) (show w.heap.size < w2.heap.size by omega)).trans cS1
    replace cS2 := (hB.cell (p := ⟨w.heap.size, 2, none⟩) (show w.heap.size < w2.heap.size by omega)).trans cS2
    replace cS3 := (hB.cell (p := ⟨w.heap.size, 3, none⟩) (show w.heap.size < w2.heap.size by omega)).trans cS3
    replace cS4 := (hB.cell (p := ⟨w.heap.size, 4, none⟩) (show w.heap.size < w2.heap.size by omega)).trans cS4
    replace cS5 := (hB.cell (p := ⟨w.heap.size, 5, none⟩) (show w.heap.size < w2.heap.size by omega)).trans cS5
    replace cS6 := (hB.cell (p := ⟨w.heap.size, 6, none⟩) (show w.heap.size < w2.heap.size by omega)).trans cS6
    replace cS7 := (hB.cell (p := ⟨w.heap.size, 7, none⟩) (show w.heap.size < w2.heap.size by omega)).trans cS7
    replace cS8 := (hB.cell (p := ⟨w.heap.size, 8, none⟩) (show w.heap.size < w2.heap.size by omega)).trans cS8
    replace cS9 := (hB.cell (p := ⟨w.heap.size, 9, none⟩) (show w.heap.size < w2.heap.size by omega)).trans cS9
    replace cU0 := (hB.cell (p := ⟨w.heap.size + 1, 0, none⟩) (show w.heap.size + 1 < w2.heap.size by omega)).trans cU0
    replace cU1 := (hB.cell (p := ⟨w.heap.size + 1, 1, none⟩) (show w.heap.size + 1 < w2.heap.size by omega)).trans cU1
    replace cU2 := (hB.cell (p := ⟨w.heap.size + 1, 2, none⟩) (show w.heap.size + 1 < w2.heap.size by omega)).trans cU2
    replace cU3 := (hB.cell (p := ⟨w.heap.size + 1, 3, none⟩) (show w.heap.size + 1 < w2.heap.size by omega)).trans cU3
    replace cU4 := (hB.cell (p := ⟨w.heap.size + 1, 4, none⟩) (show w.heap.size + 1 < w2.heap.size by omega)).trans cU4
    replace cU5 := (hB.cell (p := ⟨w.heap.size + 1, 5, none⟩) (show w.heap.size + 1 < w2.heap.size by omega)).trans cU5
    replace cM0 := (hB.cell (p := ⟨w.heap.size + 1 + 1, 1, none⟩) (show w.heap.size + 1 + 1 < w2.heap.size by omega)).trans cM0
    replace cM1 := (hB.cell (p := ⟨w.heap.size + 1 + 1, 2, none⟩) (show w.heap.size + 1 + 1 < w2.heap.size by omega)).trans cM1
    replace cM2 := (hB.cell (p := ⟨w.heap.size + 1 + 1, 3, none⟩) (show w.heap.size + 1 + 1 < w2.heap.size by omega)).trans cM2
    clear hB
    rcases (show j = 0 ∨ j = 1 ∨ j = 2 ∨ j = 3 by omega) with rfl | rfl | rfl | rfl
    · go_wp2
      go_region_held3 (fun w' => w'.cell? ⟨w.heap.size + 1, 0, none⟩ = some (.int .i64 sv) ∧ w'.cell? ⟨w.heap.size + 1, 1, none⟩ = some (.int .i64 cc) ∧ w'.cell? ⟨w.heap.size + 1, 2, none⟩ = some (.int .i64 el) ∧ w'.cell? ⟨w.heap.size + 1, 3, none⟩ = some (.int .i64 b) ∧ w'.cell? ⟨w.heap.size + 1, 4, none⟩ = some (.int .i64 r) ∧ w'.cell? ⟨w.heap.size + 1, 5, none⟩ = some (.int .i64 d) ∧ w'.cell? ⟨w.heap.size + 1 + 1, 1, none⟩ = some (.int .i64 n0) ∧ w'.cell? ⟨w.heap.size + 1 + 1, 2, none⟩ = some (.int .i64 n1) ∧ w'.cell? ⟨w.heap.size + 1 + 1, 3, none⟩ = some (.int .i64 n2)) (simp [*, go_sem])
        (first
          | (go_at_call 67; refine Calls.mono (HR0.out _) ?_; rintro e w3 ⟨rfl, hb3⟩; have z1 := fun (q : Nat) => hb3.cell (p := ⟨w.heap.size + 1, q, none⟩) (show w.heap.size + 1 < wr.heap.size by omega); have z2 := fun (q : Nat) => hb3.cell (p := ⟨w.heap.size + 1 + 1, q, none⟩) (show w.heap.size + 1 + 1 < wr.heap.size by omega)))
      have HB3 : Hid (Below w2.heap.size w2 w3) := HB.out.trans ((((Below.refl _ _).drew).trans (hb3.mono (Nat.le_refl _))).mono hzr)
      cases r0
      · go_wp2_with (go_at_call 43; refine (within_any _ _ _ _).mono ?_; rintro e w' ⟨rfl, rfl⟩)
        all_goals go_ret
        all_goals exact ⟨by rw [HE.out]; simp, HN.out _ HB3.out⟩
      · go_wp2_with (go_at_call 43; refine (within_any _ _ _ _).mono ?_; rintro e w' ⟨rfl, rfl⟩)
        go_roundw
        case rel => exact ⟨1, by omega, by go_num, fun _ => (by trivial), fun h => absurd h (by omega), fun h => absurd h (by omega), HB3.out⟩
        case measure => simp [intOf]
    · go_wp2
      go_region_held3 (fun w' => w'.cell? ⟨w.heap.size + 1, 0, none⟩ = some (.int .i64 sv) ∧ w'.cell? ⟨w.heap.size + 1, 1, none⟩ = some (.int .i64 cc) ∧ w'.cell? ⟨w.heap.size + 1, 2, none⟩ = some (.int .i64 el) ∧ w'.cell? ⟨w.heap.size + 1, 3, none⟩ = some (.int .i64 b) ∧ w'.cell? ⟨w.heap.size + 1, 4, none⟩ = some (.int .i64 r) ∧ w'.cell? ⟨w.heap.size + 1, 5, none⟩ = some (.int .i64 d) ∧ w'.cell? ⟨w.heap.size + 1 + 1, 1, none⟩ = some (.int .i64 n0) ∧ w'.cell? ⟨w.heap.size + 1 + 1, 2, none⟩ = some (.int .i64 n1) ∧ w'.cell? ⟨w.heap.size + 1 + 1, 3, none⟩ = some (.int .i64 n2)) (simp [*, go_sem])
        (first
          | (go_at_call 67; refine Calls.mono (HR1.out _) ?_; rintro e w3 ⟨rfl, hb3⟩; have z1 := fun (q : Nat) => hb3.cell (p := ⟨w.heap.size + 1, q, none⟩) (show w.heap.size + 1 < wr.heap.size by omega); have z2 := fun (q : Nat) => hb3.cell (p := ⟨w.heap.size + 1 + 1, q, none⟩) (show w.heap.size + 1 + 1 < wr.heap.size by omega)))
      have HB3 : Hid (Below w2.heap.size w2 w3) := HB.out.trans ((((Below.refl _ _).drew).trans (hb3.mono (Nat.le_refl _))).mono hzr)
      cases r1
      · go_wp2_with (go_at_call 43; refine (within_any _ _ _ _).mono ?_; rintro e w' ⟨rfl, rfl⟩)
        all_goals go_ret
        all_goals exact ⟨by rw [HE.out]; simp, HN.out _ HB3.out⟩
      · go_wp2_with (go_at_call 43; refine (within_any _ _ _ _).mono ?_; rintro e w' ⟨rfl, rfl⟩)
        go_roundw
        case rel => exact ⟨2, by omega, by go_num, fun _ => q0 (by omega), fun _ => (by trivial), fun h => absurd h (by omega), HB3.out⟩
        case measure => simp [intOf]
    · go_wp2
      go_region_held3 (fun w' => w'.cell? ⟨w.heap.size + 1, 0, none⟩ = some (.int .i64 sv) ∧ w'.cell? ⟨w.heap.size + 1, 1, none⟩ = some (.int .i64 cc) ∧ w'.cell? ⟨w.heap.size + 1, 2, none⟩ = some (.int .i64 el) ∧ w'.cell? ⟨w.heap.size + 1, 3, none⟩ = some (.int .i64 b) ∧ w'.cell? ⟨w.heap.size + 1, 4, none⟩ = some (.int .i64 r) ∧ w'.cell? ⟨w.heap.size + 1, 5, none⟩ = some (.int .i64 d) ∧ w'.cell? ⟨w.heap.size + 1 + 1, 1, none⟩ = some (.int .i64 n0) ∧ w'.cell? ⟨w.heap.size + 1 + 1, 2, none⟩ = some (.int .i64 n1) ∧ w'.cell? ⟨w.heap.size + 1 + 1, 3, none⟩ = some (.int .i64 n2)) (simp [*, go_sem])
        (first
          | (go_at_call 67; refine Calls.mono (HR2.out _) ?_; rintro e w3 ⟨rfl, hb3⟩; have z1 := fun (q : Nat) => hb3.cell (p := ⟨w.heap.size + 1, q, none⟩) (show w.heap.size + 1 < wr.heap.size by omega); have z2 := fun (q : Nat) => hb3.cell (p := ⟨w.heap.size + 1 + 1, q, none⟩) (show w.heap.size + 1 + 1 < wr.heap.size by omega)))
      have HB3 : Hid (Below w2.heap.size w2 w3) := HB.out.trans ((((Below.refl _ _).drew).trans (hb3.mono (Nat.le_refl _))).mono hzr)
      cases r2
      · go_wp2_with (go_at_call 43; refine (within_any _ _ _ _).mono ?_; rintro e w' ⟨rfl, rfl⟩)
        all_goals go_ret
        all_goals exact ⟨by rw [HE.out]; simp, HN.out _ HB3.out⟩
      · go_wp2_with (go_at_call 43; refine (within_any _ _ _ _).mono ?_; rintro e w' ⟨rfl, rfl⟩)
        go_roundw
        case rel => exact ⟨3, by omega, by go_num, fun _ => q0 (by omega), fun _ => q1 (by omega), fun _ => (by trivial), HB3.out⟩
        case measure => simp [intOf]
    · have e0 := q0 (by omega)
      have e1 := q1 (by omega)
      have e2 := q2 (by omega)
      subst e0 e1 e2
      clear q0 q1 q2
      by_cases h11 : kd = 11
      · subst h11
        go_wp2_with (go_at_call 68; refine (HAs.out _).mono ?_; rintro e w4 ⟨rfl, hb4⟩)
        go_ret
        exact ⟨by rw [HE.out, HCM.out]; simp, (HN.out _ HB.out).trans (hb4.mono (by have := HB2.out.size; omega))⟩
      · have h11' : (kd == 11) = false := by simpa using h11
        go_wp2
        all_goals go_ret
        all_goals exact ⟨by rw [HE.out, HCM.out, if_neg h11]; go_light; simp only [siz_nilI]; simp_all, HN.out _ HB.out⟩
end Go.Proofs.YtanpindbhdeomaaGreatDoor
