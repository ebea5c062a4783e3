/-
  impl.numbersOf and impl.askTexts: slices of pointers into a step.
-/
import Derived.Test.YtanpindbhdeomaaGreatDoorSkIb
import Derived.Test.YtanpindbhdeomaaGreatDoorSkTx
namespace Go.Proofs.YtanpindbhdeomaaGreatDoor
open Go.RowKit
set_option linter.unusedVariables false
set_option linter.unusedSimpArgs false

/-- a pointer tq the i-th cell of block q -/
def ptC (q : Nat) (i : Nat) : List Value := [.pointer (some ⟨q, i, none⟩)]
theorem ptILaw (q : Nat) : GLaw (ptC q) 1 77 74 := {
  und := Tryz.underlying74
  info := by
    obtain ⟨i0, hi, hz0, hz1, hz2⟩ := info_parts (show (Tryz.prog.info? 77).map (fun i => (i.zero, i.size, i.bytes)) = some (some (.pointer none), 1, 8) by kernel_rfl)
    exact ⟨i0, _, _, hi, hz0, hz1, hz2, rfl, by decide⟩
  pos := by decide
  len := fun _ => rfl
  one := fun a u hu => by
    simp only [ptC, List.mem_cons, List.not_mem_nil, or_false] at hu
    subst hu; rfl }
theorem ptTLaw (q : Nat) : GLaw (ptC q) 1 96 94 := {
  und := Tryz.underlying94
  info := by
    obtain ⟨i0, hi, hz0, hz1, hz2⟩ := info_parts (show (Tryz.prog.info? 96).map (fun i => (i.zero, i.size, i.bytes)) = some (some (.pointer none), 1, 8) by kernel_rfl)
    exact ⟨i0, _, _, hi, hz0, hz1, hz2, rfl, by decide⟩
  pos := by decide
  len := fun _ => rfl
  one := fun a u hu => by
    simp only [ptC, List.mem_cons, List.not_mem_nil, or_false] at hu
    subst hu; rfl }
theorem nk_cnt (kd : Int) (h1 : 1 ≤ kd) (h2 : kd ≤ 14) : ¬ nk0 kd = 0 ∧ ((nk1 kd = 0 ∧ nk2 kd = 0 ∧ cntK kd = 1) ∨ (¬ nk1 kd = 0 ∧ nk2 kd = 0 ∧ cntK kd = 2) ∨ (¬ nk1 kd = 0 ∧ ¬ nk2 kd = 0 ∧ cntK kd = 3)) := by
  rcases kd_casesI h1 h2 with rfl | rfl | rfl | rfl | rfl | rfl | rfl | rfl | rfl | rfl | rfl | rfl | rfl | rfl <;> decide

set_option maxHeartbeats 4000000 in
set_option maxRecDepth 100000 in
theorem numbersOf_1 (kd : Int) (C : Array Value) (q : Nat) (w : World) (hb : Blk w q C 48) (hC : C[0]? = some (.int .i64 kd)) (ht : Tabs w) (k1 : 1 ≤ kd) (k2 : kd ≤ 14) (z0 : ¬ nk0 kd = 0) (z1 : nk1 kd = 0) (z2 : nk2 kd = 0) :
    Calls Tryz.prog 49 #[.pointer (some ⟨q, 0, none⟩)] w fun e w' => ∃ v, e = .returned v ∧ OwnG (ptC q) 1 77 w' w.heap.size v [1] ∧ Below w.heap.size w w' := by
  have hlq := hb.lt
  have HW1 : Hid (∀ wr, Below (w.heap.size + 1) (w.alloc (.cells #[.pointer (some ⟨q, 1, none⟩), .pointer (some ⟨q, 2, none⟩), .pointer (some ⟨q, 3, none⟩)] 77)) wr → Below w.heap.size w wr) := fun wr h => ((Below.refl _ _).alloc (Nat.le_refl _) _).trans (h.mono (by omega))
  have hfa := form_at kd k1 k2
  have HC0 : Hid (∀ wr, Below (w.heap.size + 1) (w.alloc (.cells #[.pointer (some ⟨q, 1, none⟩), .pointer (some ⟨q, 2, none⟩), .pointer (some ⟨q, 3, none⟩)] 77)) wr → wr.cell? ⟨q, 0, none⟩ = some (.int .i64 kd) ∧ wr.cell? ⟨0, kd.toNat * 4 + 1, none⟩ = some (.int .i64 (nk0 kd)) ∧ wr.cell? ⟨0, kd.toNat * 4 + 2, none⟩ = some (.int .i64 (nk1 kd)) ∧ wr.cell? ⟨0, kd.toNat * 4 + 3, none⟩ = some (.int .i64 (nk2 kd))) := fun wr h => by
    have h1 := HW1.out wr h
    have h2 := ht.below h1
    exact ⟨((hb.below h1 hlq).cell 0).trans hC, h2.f1 kd k1 k2, h2.f2 kd k1 k2, h2.f3 kd k1 k2⟩
  have HP : Hid (∀ wr, Below (w.heap.size + 1) (w.alloc (.cells #[.pointer (some ⟨q, 1, none⟩), .pointer (some ⟨q, 2, none⟩), .pointer (some ⟨q, 3, none⟩)] 77)) wr → wr.cell? ⟨w.heap.size, 0, none⟩ = some (.pointer (some ⟨q, 1, none⟩)) ∧ wr.cell? ⟨w.heap.size, 1, none⟩ = some (.pointer (some ⟨q, 2, none⟩)) ∧ wr.cell? ⟨w.heap.size, 2, none⟩ = some (.pointer (some ⟨q, 3, none⟩))) := fun wr h => by
    have h1 := (Blk.new w #[.pointer (some ⟨q, 1, none⟩), .pointer (some ⟨q, 2, none⟩), .pointer (some ⟨q, 3, none⟩)] 77).below h (by omega)
    exact ⟨h1.cell 0, h1.cell 1, h1.cell 2⟩
  clear hb ht
  generalize kd.toNat * 4 = K at *
  have y0 : (nk0 kd == 0) = false := by simpa using z0
  rw [z1] at HC0
  rw [z2] at HC0
  generalize nk0 kd = n0 at *
  clear z1
  clear z2
  clear z0
  go_enter Tryz.func49, Tryz.ntmps49
  go_wp2
  go_region
  go_wp2
  go_loopw [3, 17] (fun vt i wr => ∃ j : Nat, j ≤ 3 ∧ i = .int .i64 j ∧ OwnG (ptC q) 1 77 wr (w.heap.size + 1) vt (([1] : List Nat).take j) ∧ Below (w.heap.size + 1) (w.alloc (.cells #[.pointer (some ⟨q, 1, none⟩), .pointer (some ⟨q, 2, none⟩), .pointer (some ⟨q, 3, none⟩)] 77)) wr ∧ w.heap.size + 1 ≤ wr.heap.size) (fun _ i _ => 3 - (intOf i).toNat)
  case atStart => exact ⟨0, by omega, rfl, OwnG.nil _ _ _ _ _, by first | exact (Below.refl _ _).drew | exact (Below.refl _ _).drew.drew | exact (Below.refl _ _).drew.drew.drew, by simp⟩
  case round =>
    obtain ⟨j, hj, rfl, hO, hB, hz⟩ := hrel
    obtain ⟨c0, t0, t1, t2⟩ := HC0.out wr hB
    obtain ⟨p0, p1, p2⟩ := HP.out wr hB
    have HO : Hid (OwnG (ptC q) 1 77 wr (w.heap.size + 1) _ (([1] : List Nat).take j)) := hO
    have HB : Hid (Below (w.heap.size + 1) (w.alloc (.cells #[.pointer (some ⟨q, 1, none⟩), .pointer (some ⟨q, 2, none⟩), .pointer (some ⟨q, 3, none⟩)] 77)) wr) := hB
    clear hO hB
    rcases (show j = 0 ∨ j = 1 ∨ j = 2 ∨ j = 3 by omega) with rfl | rfl | rfl | rfl
    · go_wp2_with (at_builtin; refine wpl_appendG (ptILaw q) rfl (.tmp 32) (.tmp 34) rfl 1 (HO.out.below ((Below.refl _ _).alloc (Nat.le_refl _) _)) rfl (wr.heap.size) 1 (Blk.new _ _ _).range rfl (by simp) (by simp; omega) ?_; intro v2 w2 ho2 hg2; have HB2 : Hid (Below (w.heap.size + 1) (w.alloc (.cells #[.pointer (some ⟨q, 1, none⟩), .pointer (some ⟨q, 2, none⟩), .pointer (some ⟨q, 3, none⟩)] 77)) w2) := (HB.out.alloc hz _).trans (growG hg2 (HO.out.below ((Below.refl _ _).alloc (Nat.le_refl _) _)) (by simp; omega)); have hz2 : w.heap.size + 1 ≤ w2.heap.size := (by have := hg2.g.size; simp at this; omega))
      go_roundw
      case rel => exact ⟨1, by omega, by go_num, by simpa using ho2, HB2.out, hz2⟩
      case measure => simp [intOf]
    · go_wp2
      go_roundw
      case rel => exact ⟨2, by omega, by go_num, by simpa using HO.out, HB.out, hz⟩
      case measure => simp [intOf]
    · go_wp2
      go_roundw
      case rel => exact ⟨3, by omega, by go_num, by simpa using HO.out, HB.out, hz⟩
      case measure => simp [intOf]
    · go_wp2
      go_ret
      exact ⟨_, rfl, by simpa using HO.out.le (by omega), HW1.out wr HB.out⟩

set_option maxHeartbeats 4000000 in
set_option maxRecDepth 100000 in
theorem numbersOf_2 (kd : Int) (C : Array Value) (q : Nat) (w : World) (hb : Blk w q C 48) (hC : C[0]? = some (.int .i64 kd)) (ht : Tabs w) (k1 : 1 ≤ kd) (k2 : kd ≤ 14) (z0 : ¬ nk0 kd = 0) (z1 : ¬ nk1 kd = 0) (z2 : nk2 kd = 0) :
    Calls Tryz.prog 49 #[.pointer (some ⟨q, 0, none⟩)] w fun e w' => ∃ v, e = .returned v ∧ OwnG (ptC q) 1 77 w' w.heap.size v [1, 2] ∧ Below w.heap.size w w' := by
  have hlq := hb.lt
  have HW1 : Hid (∀ wr, Below (w.heap.size + 1) (w.alloc (.cells #[.pointer (some ⟨q, 1, none⟩), .pointer (some ⟨q, 2, none⟩), .pointer (some ⟨q, 3, none⟩)] 77)) wr → Below w.heap.size w wr) := fun wr h => ((Below.refl _ _).alloc (Nat.le_refl _) _).trans (h.mono (by omega))
  have hfa := form_at kd k1 k2
  have HC0 : Hid (∀ wr, Below (w.heap.size + 1) (w.alloc (.cells #[.pointer (some ⟨q, 1, none⟩), .pointer (some ⟨q, 2, none⟩), .pointer (some ⟨q, 3, none⟩)] 77)) wr → wr.cell? ⟨q, 0, none⟩ = some (.int .i64 kd) ∧ wr.cell? ⟨0, kd.toNat * 4 + 1, none⟩ = some (.int .i64 (nk0 kd)) ∧ wr.cell? ⟨0, kd.toNat * 4 + 2, none⟩ = some (.int .i64 (nk1 kd)) ∧ wr.cell? ⟨0, kd.toNat * 4 + 3, none⟩ = some (.int .i64 (nk2 kd))) := fun wr h => by
    have h1 := HW1.out wr h
    have h2 := ht.below h1
    exact ⟨((hb.below h1 hlq).cell 0).trans hC, h2.f1 kd k1 k2, h2.f2 kd k1 k2, h2.f3 kd k1 k2⟩
  have HP : Hid (∀ wr, Below (w.heap.size + 1) (w.alloc (.cells #[.pointer (some ⟨q, 1, none⟩), .pointer (some ⟨q, 2, none⟩), .pointer (some ⟨q, 3, none⟩)] 77)) wr → wr.cell? ⟨w.heap.size, 0, none⟩ = some (.pointer (some ⟨q, 1, none⟩)) ∧ wr.cell? ⟨w.heap.size, 1, none⟩ = some (.pointer (some ⟨q, 2, none⟩)) ∧ wr.cell? ⟨w.heap.size, 2, none⟩ = some (.pointer (some ⟨q, 3, none⟩))) := fun wr h => by
    have h1 := (Blk.new w #[.pointer (some ⟨q, 1, none⟩), .pointer (some ⟨q, 2, none⟩), .pointer (some ⟨q, 3, none⟩)] 77).below h (by omega)
    exact ⟨h1.cell 0, h1.cell 1, h1.cell 2⟩
  clear hb ht
  generalize kd.toNat * 4 = K at *
  have y0 : (nk0 kd == 0) = false := by simpa using z0
  have y1 : (nk1 kd == 0) = false := by simpa using z1
  rw [z2] at HC0
  generalize nk0 kd = n0 at *
  generalize nk1 kd = n1 at *
  clear z1
  clear z2
  clear z0
  go_enter Tryz.func49, Tryz.ntmps49
  go_wp2
  go_region
  go_wp2
  go_loopw [3, 17] (fun vt i wr => ∃ j : Nat, j ≤ 3 ∧ i = .int .i64 j ∧ OwnG (ptC q) 1 77 wr (w.heap.size + 1) vt (([1, 2] : List Nat).take j) ∧ Below (w.heap.size + 1) (w.alloc (.cells #[.pointer (some ⟨q, 1, none⟩), .pointer (some ⟨q, 2, none⟩), .pointer (some ⟨q, 3, none⟩)] 77)) wr ∧ w.heap.size + 1 ≤ wr.heap.size) (fun _ i _ => 3 - (intOf i).toNat)
  case atStart => exact ⟨0, by omega, rfl, OwnG.nil _ _ _ _ _, by first | exact (Below.refl _ _).drew | exact (Below.refl _ _).drew.drew | exact (Below.refl _ _).drew.drew.drew, by simp⟩
  case round =>
    obtain ⟨j, hj, rfl, hO, hB, hz⟩ := hrel
    obtain ⟨c0, t0, t1, t2⟩ := HC0.out wr hB
    obtain ⟨p0, p1, p2⟩ := HP.out wr hB
    have HO : Hid (OwnG (ptC q) 1 77 wr (w.heap.size + 1) _ (([1, 2] : List Nat).take j)) := hO
    have HB : Hid (Below (w.heap.size + 1) (w.alloc (.cells #[.pointer (some ⟨q, 1, none⟩), .pointer (some ⟨q, 2, none⟩), .pointer (some ⟨q, 3, none⟩)] 77)) wr) := hB
    clear hO hB
    rcases (show j = 0 ∨ j = 1 ∨ j = 2 ∨ j = 3 by omega) with rfl | rfl | rfl | rfl
    · go_wp2_with (at_builtin; refine wpl_appendG (ptILaw q) rfl (.tmp 32) (.tmp 34) rfl 1 (HO.out.below ((Below.refl _ _).alloc (Nat.le_refl _) _)) rfl (wr.heap.size) 1 (Blk.new _ _ _).range rfl (by simp) (by simp; omega) ?_; intro v2 w2 ho2 hg2; have HB2 : Hid (Below (w.heap.size + 1) (w.alloc (.cells #[.pointer (some ⟨q, 1, none⟩), .pointer (some ⟨q, 2, none⟩), .pointer (some ⟨q, 3, none⟩)] 77)) w2) := (HB.out.alloc hz _).trans (growG hg2 (HO.out.below ((Below.refl _ _).alloc (Nat.le_refl _) _)) (by simp; omega)); have hz2 : w.heap.size + 1 ≤ w2.heap.size := (by have := hg2.g.size; simp at this; omega))
      go_roundw
      case rel => exact ⟨1, by omega, by go_num, by simpa using ho2, HB2.out, hz2⟩
      case measure => simp [intOf]
    · go_wp2_with (at_builtin; refine wpl_appendG (ptILaw q) rfl (.tmp 32) (.tmp 34) rfl 2 (HO.out.below ((Below.refl _ _).alloc (Nat.le_refl _) _)) rfl (wr.heap.size) 1 (Blk.new _ _ _).range rfl (by simp) (by simp; omega) ?_; intro v2 w2 ho2 hg2; have HB2 : Hid (Below (w.heap.size + 1) (w.alloc (.cells #[.pointer (some ⟨q, 1, none⟩), .pointer (some ⟨q, 2, none⟩), .pointer (some ⟨q, 3, none⟩)] 77)) w2) := (HB.out.alloc hz _).trans (growG hg2 (HO.out.below ((Below.refl _ _).alloc (Nat.le_refl _) _)) (by simp; omega)); have hz2 : w.heap.size + 1 ≤ w2.heap.size := (by have := hg2.g.size; simp at this; omega))
      go_roundw
      case rel => exact ⟨2, by omega, by go_num, by simpa using ho2, HB2.out, hz2⟩
      case measure => simp [intOf]
    · go_wp2
      go_roundw
      case rel => exact ⟨3, by omega, by go_num, by simpa using HO.out, HB.out, hz⟩
      case measure => simp [intOf]
    · go_wp2
      go_ret
      exact ⟨_, rfl, by simpa using HO.out.le (by omega), HW1.out wr HB.out⟩

set_option maxHeartbeats 4000000 in
set_option maxRecDepth 100000 in
theorem numbersOf_3 (kd : Int) (C : Array Value) (q : Nat) (w : World) (hb : Blk w q C 48) (hC : C[0]? = some (.int .i64 kd)) (ht : Tabs w) (k1 : 1 ≤ kd) (k2 : kd ≤ 14) (z0 : ¬ nk0 kd = 0) (z1 : ¬ nk1 kd = 0) (z2 : ¬ nk2 kd = 0) :
    Calls Tryz.prog 49 #[.pointer (some ⟨q, 0, none⟩)] w fun e w' => ∃ v, e = .returned v ∧ OwnG (ptC q) 1 77 w' w.heap.size v [1, 2, 3] ∧ Below w.heap.size w w' := by
  have hlq := hb.lt
  have HW1 : Hid (∀ wr, Below (w.heap.size + 1) (w.alloc (.cells #[.pointer (some ⟨q, 1, none⟩), .pointer (some ⟨q, 2, none⟩), .pointer (some ⟨q, 3, none⟩)] 77)) wr → Below w.heap.size w wr) := fun wr h => ((Below.refl _ _).alloc (Nat.le_refl _) _).trans (h.mono (by omega))
  have hfa := form_at kd k1 k2
  have HC0 : Hid (∀ wr, Below (w.heap.size + 1) (w.alloc (.cells #[.pointer (some ⟨q, 1, none⟩), .pointer (some ⟨q, 2, none⟩), .pointer (some ⟨q, 3, none⟩)] 77)) wr → wr.cell? ⟨q, 0, none⟩ = some (.int .i64 kd) ∧ wr.cell? ⟨0, kd.toNat * 4 + 1, none⟩ = some (.int .i64 (nk0 kd)) ∧ wr.cell? ⟨0, kd.toNat * 4 + 2, none⟩ = some (.int .i64 (nk1 kd)) ∧ wr.cell? ⟨0, kd.toNat * 4 + 3, none⟩ = some (.int .i64 (nk2 kd))) := fun wr h => by
    have h1 := HW1.out wr h
    have h2 := ht.below h1
    exact ⟨((hb.below h1 hlq).cell 0).trans hC, h2.f1 kd k1 k2, h2.f2 kd k1 k2, h2.f3 kd k1 k2⟩
  have HP : Hid (∀ wr, Below (w.heap.size + 1) (w.alloc (.cells #[.pointer (some ⟨q, 1, none⟩), .pointer (some ⟨q, 2, none⟩), .pointer (some ⟨q, 3, none⟩)] 77)) wr → wr.cell? ⟨w.heap.size, 0, none⟩ = some (.pointer (some ⟨q, 1, none⟩)) ∧ wr.cell? ⟨w.heap.size, 1, none⟩ = some (.pointer (some ⟨q, 2, none⟩)) ∧ wr.cell? ⟨w.heap.size, 2, none⟩ = some (.pointer (some ⟨q, 3, none⟩))) := fun wr h => by
    have h1 := (Blk.new w #[.pointer (some ⟨q, 1, none⟩), .pointer (some ⟨q, 2, none⟩), .pointer (some ⟨q, 3, none⟩)] 77).below h (by omega)
    exact ⟨h1.cell 0, h1.cell 1, h1.cell 2⟩
  clear hb ht
  generalize kd.toNat * 4 = K at *
  have y0 : (nk0 kd == 0) = false := by simpa using z0
  have y1 : (nk1 kd == 0) = false := by simpa using z1
  have y2 : (nk2 kd == 0) = false := by simpa using z2
  generalize nk0 kd = n0 at *
  generalize nk1 kd = n1 at *
  clear z1
  generalize nk2 kd = n2 at *
  clear z2
  clear z0
  go_enter Tryz.func49, Tryz.ntmps49
  go_wp2
  go_region
  go_wp2
  go_loopw [3, 17] (fun vt i wr => ∃ j : Nat, j ≤ 3 ∧ i = .int .i64 j ∧ OwnG (ptC q) 1 77 wr (w.heap.size + 1) vt (([1, 2, 3] : List Nat).take j) ∧ Below (w.heap.size + 1) (w.alloc (.cells #[.pointer (some ⟨q, 1, none⟩), .pointer (some ⟨q, 2, none⟩), .pointer (some ⟨q, 3, none⟩)] 77)) wr ∧ w.heap.size + 1 ≤ wr.heap.size) (fun _ i _ => 3 - (intOf i).toNat)
  case atStart => exact ⟨0, by omega, rfl, OwnG.nil _ _ _ _ _, by first | exact (Below.refl _ _).drew | exact (Below.refl _ _).drew.drew | exact (Below.refl _ _).drew.drew.drew, by simp⟩
  case round =>
    obtain ⟨j, hj, rfl, hO, hB, hz⟩ := hrel
    obtain ⟨c0, t0, t1, t2⟩ := HC0.out wr hB
    obtain ⟨p0, p1, p2⟩ := HP.out wr hB
    have HO : Hid (OwnG (ptC q) 1 77 wr (w.heap.size + 1) _ (([1, 2, 3] : List Nat).take j)) := hO
    have HB : Hid (Below (w.heap.size + 1) (w.alloc (.cells #[.pointer (some ⟨q, 1, none⟩), .pointer (some ⟨q, 2, none⟩), .pointer (some ⟨q, 3, none⟩)] 77)) wr) := hB
    clear hO hB
    rcases (show j = 0 ∨ j = 1 ∨ j = 2 ∨ j = 3 by omega) with rfl | rfl | rfl | rfl
    · go_wp2_with (at_builtin; refine wpl_appendG (ptILaw q) rfl (.tmp 32) (.tmp 34) rfl 1 (HO.out.below ((Below.refl _ _).alloc (Nat.le_refl _) _)) rfl (wr.heap.size) 1 (Blk.new _ _ _).range rfl (by simp) (by simp; omega) ?_; intro v2 w2 ho2 hg2; have HB2 : Hid (Below (w.heap.size + 1) (w.alloc (.cells #[.pointer (some ⟨q, 1, none⟩), .pointer (some ⟨q, 2, none⟩), .pointer (some ⟨q, 3, none⟩)] 77)) w2) := (HB.out.alloc hz _).trans (growG hg2 (HO.out.below ((Below.refl _ _).alloc (Nat.le_refl _) _)) (by simp; omega)); have hz2 : w.heap.size + 1 ≤ w2.heap.size := (by have := hg2.g.size; simp at this; omega))
      go_roundw
      case rel => exact ⟨1, by omega, by go_num, by simpa using ho2, HB2.out, hz2⟩
      case measure => simp [intOf]
    · go_wp2_with (at_builtin; refine wpl_appendG (ptILaw q) rfl (.tmp 32) (.tmp 34) rfl 2 (HO.out.below ((Below.refl _ _).alloc (Nat.le_refl _) _)) rfl (wr.heap.size) 1 (Blk.new _ _ _).range rfl (by simp) (by simp; omega) ?_; intro v2 w2 ho2 hg2; have HB2 : Hid (Below (w.heap.size + 1) (w.alloc (.cells #[.pointer (some ⟨q, 1, none⟩), .pointer (some ⟨q, 2, none⟩), .pointer (some ⟨q, 3, none⟩)] 77)) w2) := (HB.out.alloc hz _).trans (growG hg2 (HO.out.below ((Below.refl _ _).alloc (Nat.le_refl _) _)) (by simp; omega)); have hz2 : w.heap.size + 1 ≤ w2.heap.size := (by have := hg2.g.size; simp at this; omega))
      go_roundw
      case rel => exact ⟨2, by omega, by go_num, by simpa using ho2, HB2.out, hz2⟩
      case measure => simp [intOf]
    · go_wp2_with (at_builtin; refine wpl_appendG (ptILaw q) rfl (.tmp 32) (.tmp 34) rfl 3 (HO.out.below ((Below.refl _ _).alloc (Nat.le_refl _) _)) rfl (wr.heap.size) 1 (Blk.new _ _ _).range rfl (by simp) (by simp; omega) ?_; intro v2 w2 ho2 hg2; have HB2 : Hid (Below (w.heap.size + 1) (w.alloc (.cells #[.pointer (some ⟨q, 1, none⟩), .pointer (some ⟨q, 2, none⟩), .pointer (some ⟨q, 3, none⟩)] 77)) w2) := (HB.out.alloc hz _).trans (growG hg2 (HO.out.below ((Below.refl _ _).alloc (Nat.le_refl _) _)) (by simp; omega)); have hz2 : w.heap.size + 1 ≤ w2.heap.size := (by have := hg2.g.size; simp at this; omega))
      go_roundw
      case rel => exact ⟨3, by omega, by go_num, by simpa using ho2, HB2.out, hz2⟩
      case measure => simp [intOf]
    · go_wp2
      go_ret
      exact ⟨_, rfl, by simpa using HO.out.le (by omega), HW1.out wr HB.out⟩

theorem numbersOf_any (kd : Int) (C : Array Value) (q : Nat) (w : World) (hb : Blk w q C 48) (hC : C[0]? = some (.int .i64 kd)) (ht : Tabs w) (k1 : 1 ≤ kd) (k2 : kd ≤ 14) :
    Calls Tryz.prog 49 #[.pointer (some ⟨q, 0, none⟩)] w fun e w' => ∃ v, e = .returned v ∧ OwnG (ptC q) 1 77 w' w.heap.size v ([1, 2, 3].take (cntK kd)) ∧ Below w.heap.size w w' := by
  obtain ⟨z0, ⟨z1, z2, hc⟩ | ⟨z1, z2, hc⟩ | ⟨z1, z2, hc⟩⟩ := nk_cnt kd k1 k2
  · rw [hc]; exact numbersOf_1 kd C q w hb hC ht k1 k2 z0 z1 z2
  · rw [hc]; exact numbersOf_2 kd C q w hb hC ht k1 k2 z0 z1 z2
  · rw [hc]; exact numbersOf_3 kd C q w hb hC ht k1 k2 z0 z1 z2

def askP (op : Int) : List Nat := if op = 2 then [7, 8] else if op = 4 then [7, 9, 8] else if op = 1 ∨ op = 3 then [7] else []
set_option maxHeartbeats 4000000 in
set_option maxRecDepth 100000 in
theorem askTexts_any (op : Int) (q : Nat) (w : World) (hc : w.cell? ⟨q, 6, none⟩ = some (.int .i64 op)) (h0 : 0 ≤ op) (h4 : op ≤ 4) :
    Calls Tryz.prog 65 #[.pointer (some ⟨q, 4, none⟩)] w fun e w' => ∃ v, e = .returned v ∧ OwnG (ptC q) 1 96 w' w.heap.size v (askP op) ∧ Below w.heap.size w w' := by
  rcases (show op = 0 ∨ op = 1 ∨ op = 3 ∨ op = 2 ∨ op = 4 by omega) with rfl | rfl | rfl | rfl | rfl
  · go_enter Tryz.func65, Tryz.ntmps65
    go_wp2
    go_ret
    exact ⟨_, rfl, OwnG.nil _ _ _ _ _, Below.refl _ _⟩
  · go_enter Tryz.func65, Tryz.ntmps65
    go_wp2
    go_ret
    exact ⟨_, rfl, OwnG.lit (ptTLaw q) w _ [7] #[.pointer (some ⟨q, 7, none⟩)] rfl (by simp [maxLen]) (Nat.le_refl _), (Below.refl _ _).alloc (Nat.le_refl _) _⟩
  · go_enter Tryz.func65, Tryz.ntmps65
    go_wp2
    go_ret
    exact ⟨_, rfl, OwnG.lit (ptTLaw q) w _ [7] #[.pointer (some ⟨q, 7, none⟩)] rfl (by simp [maxLen]) (Nat.le_refl _), (Below.refl _ _).alloc (Nat.le_refl _) _⟩
  · go_enter Tryz.func65, Tryz.ntmps65
    go_wp2
    go_region
    go_wp2
    go_ret
    exact ⟨_, rfl, OwnG.lit (ptTLaw q) w _ [7, 8] #[.pointer (some ⟨q, 7, none⟩), .pointer (some ⟨q, 8, none⟩)] rfl (by simp [maxLen]) (Nat.le_refl _), by first | exact ((Below.refl _ _).alloc (Nat.le_refl _) _).drew | exact ((Below.refl _ _).alloc (Nat.le_refl _) _).drew.drew | exact ((Below.refl _ _).alloc (Nat.le_refl _) _).drew.drew.drew⟩
  · go_enter Tryz.func65, Tryz.ntmps65
    go_wp2
    go_region
    go_wp2
    go_ret
    exact ⟨_, rfl, OwnG.lit (ptTLaw q) w _ [7, 9, 8] #[.pointer (some ⟨q, 7, none⟩), .pointer (some ⟨q, 9, none⟩), .pointer (some ⟨q, 8, none⟩)] rfl (by simp [maxLen]) (Nat.le_refl _), by first | exact ((Below.refl _ _).alloc (Nat.le_refl _) _).drew | exact ((Below.refl _ _).alloc (Nat.le_refl _) _).drew.drew | exact ((Below.refl _ _).alloc (Nat.le_refl _) _).drew.drew.drew⟩
end Go.Proofs.YtanpindbhdeomaaGreatDoor
