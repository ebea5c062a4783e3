/-
  spec.l7number, spec.l7numbers.
-/
import Derived.Test.YtanpindbhdeomaaGreatDoorGround
import Derived.Test.YtanpindbhdeomaaGreatDoorSkTx
import Derived.Test.YtanpindbhdeomaaGreatDoorSOf
import Derived.Test.YtanpindbhdeomaaGreatDoorRwIn
import Derived.Test.YtanpindbhdeomaaGreatDoorBlk
namespace Go.Proofs.YtanpindbhdeomaaGreatDoor
open Go.RowKit
set_option linter.unusedVariables false
set_option linter.unusedSimpArgs false

theorem numV_take {l : List UInt8} {k : Nat} (h : k < l.length) : numV (l.take (k + 1)) = numV (l.take k) * 10 + (l[k].toNat : Int) - 48 := by
  unfold numV
  rw [List.take_succ_eq_append_getElem h, List.foldl_append]
  rfl
theorem numV_le : ∀ (n : Nat) (l : List UInt8), l.length ≤ n → l.all dgB = true → 0 ≤ numV l ∧ numV l < 10 ^ n
  | 0, l, h, _ => by
    have : l = [] := List.length_eq_zero_iff.1 (by omega)
    subst this
    simp [numV]
  | n + 1, l, h, hd => by
    rcases List.eq_nil_or_concat l with rfl | ⟨r, x, rfl⟩
    · have : (0 : Int) < 10 ^ (n + 1) := Int.pow_pos (by omega)
      simp [numV]; omega
    · rw [List.concat_eq_append] at *
      rw [List.all_append] at hd
      simp only [Bool.and_eq_true, List.all_cons, List.all_nil, and_true] at hd
      have ih := numV_le n r (by simp at h; omega) hd.1
      have hx := hd.2
      unfold dgB at hx
      simp at hx
      have e : numV (r ++ [x]) = numV r * 10 + (x.toNat : Int) - 48 := by simp [numV]
      have e2 : (10 : Int) ^ (n + 1) = 10 ^ n * 10 := by rw [Int.pow_succ]
      rw [e, e2]
      omega
theorem numOk_parts {l : List UInt8} : numOk l = true ↔ 1 ≤ l.length ∧ l.length ≤ 10 ∧ (l.length = 1 ∨ l.head? ≠ some 48) ∧ l.all dgB = true := by
  unfold numOk
  simp only [Bool.and_eq_true, decide_eq_true_eq, Bool.or_eq_true, Bool.not_eq_true', beq_eq_false_iff_ne]
  constructor
  · rintro ⟨⟨⟨a, b⟩, c⟩, d⟩
    exact ⟨a, b, c, d⟩
  · rintro ⟨a, b, c, d⟩
    exact ⟨⟨⟨a, b⟩, c⟩, d⟩
theorem numOk_val {l : List UInt8} (h : numOk l = true) : 0 ≤ numV l ∧ numV l < 10000000000 := numV_le 10 l (numOk_parts.1 h).2.1 (numOk_parts.1 h).2.2.2

set_option maxHeartbeats 4000000 in
set_option maxRecDepth 100000 in
theorem l7number_any (l : List UInt8) (hl : l.length ≤ 65536) (w : World) :
    Calls Tryz.prog 37 #[.string (sOf l)] w fun e w' => e = .returned (.tuple #[.int .i64 (if numOk l = true then numV l else 0), .bool (numOk l)]) ∧ w' = w := by
  obtain ⟨S, hS⟩ : ∃ S, S = sOf l := ⟨_, rfl⟩
  have hss : S.size = l.length := by rw [hS, sOf_size]
  have HI : Hid (∀ k, (h : k < l.length) → ∀ u : World, (Instr.index 9 (.string S) (.int .i64 (k : Int))).run Tryz.prog u = .ok (.int .u8 (l[k].toNat : Int)) u) := fun k h u => by
    have h1 : (sOf l).data.toList = l := list_sOf l
    have h2 := idx_run S (k := k) (by rw [hS, h1]; exact h) u
    simpa [hS, h1] using h2
  rw [← hS]
  clear hS
  have HP : Hid (numOk l = true ↔ 1 ≤ l.length ∧ l.length ≤ 10 ∧ (l.length = 1 ∨ l.head? ≠ some 48) ∧ l.all dgB = true) := numOk_parts
  obtain ⟨V, hV⟩ : ∃ V : Int, V = if numOk l = true then numV l else 0 := ⟨_, rfl⟩
  have HV : Hid (V = if numOk l = true then numV l else 0) := hV
  rw [← hV]
  clear hV
  generalize numOk l = R at *
  have HF : Hid (¬ R = true → V = 0 ∧ R = false) := fun h => by
    have : R = false := by simpa using h
    exact ⟨by rw [HV.out, this]; rfl, this⟩
  by_cases h1 : l.length < 1
  · obtain ⟨rfl, rfl⟩ := HF.out (fun h => by have := (HP.out.1 h).1; omega)
    have h1' : (l.length : Int) < 1 := by omega
    clear HF HV HP HI
    go_enter Tryz.func37, Tryz.ntmps37
    go_wp2
    go_ret2
    exact ⟨rfl, rfl⟩
  have h1' : ¬ (l.length : Int) < 1 := by omega
  by_cases h2 : 10 < l.length
  · obtain ⟨rfl, rfl⟩ := HF.out (fun h => by have := (HP.out.1 h).2.1; omega)
    have h2' : (10 : Int) < (l.length : Int) := by omega
    clear HF HV HP HI
    go_enter Tryz.func37, Tryz.ntmps37
    go_wp2
    go_ret2
    exact ⟨rfl, rfl⟩
  have h2' : ¬ (10 : Int) < (l.length : Int) := by omega
  have hix0 : ∀ u : World, (Instr.index 9 (.string S) (.int .i64 0)).run Tryz.prog u = .ok (.int .u8 (l[0].toNat : Int)) u := HI.out 0 (by omega)
  have hh : l.head? = some l[0] := by rw [List.head?_eq_getElem?, List.getElem?_eq_getElem (by omega)]
  by_cases h3 : 1 < l.length ∧ l[0] = 48
  · obtain ⟨rfl, rfl⟩ := HF.out (fun h => by
      rcases (HP.out.1 h).2.2.1 with e | e
      · omega
      · exact e (by rw [hh, h3.2]))
    have h3' : (1 : Int) < (l.length : Int) := by omega
    have e48 : (l[0].toNat : Int) = 48 := by rw [h3.2]; rfl
    rw [e48] at hix0
    clear HF HV HP HI
    go_enter Tryz.func37, Tryz.ntmps37
    go_wp2
    go_ret2
    exact ⟨rfl, rfl⟩
  have HP2 : Hid (l.length = 1 ∨ l.head? ≠ some 48) := by
    by_cases h4 : 1 < l.length
    · exact .inr (by rw [hh]; intro e; exact h3 ⟨h4, by simpa using e⟩)
    · exact .inl (by omega)
  have h3c : ¬ (1 : Int) < (l.length : Int) ∨ ((1 : Int) < (l.length : Int) ∧ ((l[0].toNat : Int) == 48) = false) := by
    by_cases h4 : 1 < l.length
    · refine .inr ⟨by omega, ?_⟩
      rw [beq_eq_false_iff_ne]
      intro e
      exact h3 ⟨h4, UInt8.toNat.inj (by show l[0].toNat = 48; omega)⟩
    · exact .inl (by omega)
  have h1w : ¬ l.length < 1 := h1
  clear h3
  generalize hx0 : (l[0].toNat : Int) = x0 at hix0 h3c
  clear hx0 hh
  rcases h3c with h3c | ⟨h3d, h3c⟩
  · go_enter Tryz.func37, Tryz.ntmps37
    go_wp2
    go_loopw [4, 5] (fun v i wr => ∃ k : Nat, k ≤ l.length ∧ i = .int .i64 k ∧ v = .int .i64 (numV (l.take k)) ∧ (l.take k).all dgB = true ∧ wr = w) (fun _ i _ => l.length - (intOf i).toNat)
    case atStart => exact ⟨0, Nat.zero_le _, rfl, rfl, rfl, rfl⟩
    case round =>
      obtain ⟨k, hk, rfl, rfl, hA, rfl⟩ := hrel
      have HA : Hid ((l.take k).all dgB = true) := hA
      have hvb := numV_le 10 (l.take k) (by rw [List.length_take]; omega) hA
      clear hA
      by_cases hlt : k < l.length
      · have hix := HI.out k hlt
        have hnx : Hid (numV (l.take (k + 1)) = numV (l.take k) * 10 + (l[k].toNat : Int) - 48) := numV_take hlt
        have hkl : (k : Int) < (l.length : Int) := by omega
        have hxb : 0 ≤ (l[k].toNat : Int) ∧ (l[k].toNat : Int) ≤ 255 := by have := l[k].toNat_lt; omega
        have hN : Hid (dgB l[k] = true → (l.take (k + 1)).all dgB = true) := fun h => all_take_succ hlt _ HA.out h
        cases hd : dgB l[k]
        · have hno : l.all dgB = false := all_no hlt _ hd
          have HV0 : Hid (V = 0 ∧ R = false) := HF.out (fun h => by have := (HP.out.1 h).2.2.2; rw [hno] at this; cases this)
          have hrg : (l[k].toNat : Int) < 48 ∨ 57 < (l[k].toNat : Int) := by
            unfold dgB at hd
            simp at hd
            omega
          clear hnx hN hd hno
          generalize (l[k].toNat : Int) = x at *
          rcases hrg with hr | hr
          · go_wp2
            go_ret2
            exact ⟨by rw [HV0.out.1, HV0.out.2]; rfl, rfl⟩
          · have hr2 : ¬ x < 48 := by omega
            go_wp2
            go_ret2
            exact ⟨by rw [HV0.out.1, HV0.out.2]; rfl, rfl⟩
        · have hrg : ¬ (l[k].toNat : Int) < 48 ∧ ¬ 57 < (l[k].toNat : Int) := by
            unfold dgB at hd
            simp at hd
            omega
          obtain ⟨hr1, hr2⟩ := hrg
          have HN2 : Hid ((l.take (k + 1)).all dgB = true) := hN.out hd
          clear hN hd
          generalize numV (l.take k) = va at *
          generalize (l[k].toNat : Int) = x at *
          go_wp2
          go_roundw
          case rel => exact ⟨k + 1, by omega, by go_num, by go_light; rw [hnx.out], HN2.out, by trivial⟩
          case measure => simp [intOf]; omega
      · obtain rfl : k = l.length := by omega
        rw [List.take_length] at HA
        have hR : R = true := HP.out.2 ⟨by omega, by omega, HP2.out, HA.out⟩
        have hVV : V = numV l := by rw [HV.out, hR]; rfl
        go_wp2
        go_ret2
        exact ⟨by rw [hVV, hR, List.take_length]; rfl, rfl⟩
  · go_enter Tryz.func37, Tryz.ntmps37
    go_wp2
    go_loopw [4, 5] (fun v i wr => ∃ k : Nat, k ≤ l.length ∧ i = .int .i64 k ∧ v = .int .i64 (numV (l.take k)) ∧ (l.take k).all dgB = true ∧ wr = w) (fun _ i _ => l.length - (intOf i).toNat)
    case atStart => exact ⟨0, Nat.zero_le _, rfl, rfl, rfl, rfl⟩
    case round =>
      obtain ⟨k, hk, rfl, rfl, hA, rfl⟩ := hrel
      have HA : Hid ((l.take k).all dgB = true) := hA
      have hvb := numV_le 10 (l.take k) (by rw [List.length_take]; omega) hA
      clear hA
      by_cases hlt : k < l.length
      · have hix := HI.out k hlt
        have hnx : Hid (numV (l.take (k + 1)) = numV (l.take k) * 10 + (l[k].toNat : Int) - 48) := numV_take hlt
        have hkl : (k : Int) < (l.length : Int) := by omega
        have hxb : 0 ≤ (l[k].toNat : Int) ∧ (l[k].toNat : Int) ≤ 255 := by have := l[k].toNat_lt; omega
        have hN : Hid (dgB l[k] = true → (l.take (k + 1)).all dgB = true) := fun h => all_take_succ hlt _ HA.out h
        cases hd : dgB l[k]
        · have hno : l.all dgB = false := all_no hlt _ hd
          have HV0 : Hid (V = 0 ∧ R = false) := HF.out (fun h => by have := (HP.out.1 h).2.2.2; rw [hno] at this; cases this)
          have hrg : (l[k].toNat : Int) < 48 ∨ 57 < (l[k].toNat : Int) := by
            unfold dgB at hd
            simp at hd
            omega
          clear hnx hN hd hno
          generalize (l[k].toNat : Int) = x at *
          rcases hrg with hr | hr
          · go_wp2
            go_ret2
            exact ⟨by rw [HV0.out.1, HV0.out.2]; rfl, rfl⟩
          · have hr2 : ¬ x < 48 := by omega
            go_wp2
            go_ret2
            exact ⟨by rw [HV0.out.1, HV0.out.2]; rfl, rfl⟩
        · have hrg : ¬ (l[k].toNat : Int) < 48 ∧ ¬ 57 < (l[k].toNat : Int) := by
            unfold dgB at hd
            simp at hd
            omega
          obtain ⟨hr1, hr2⟩ := hrg
          have HN2 : Hid ((l.take (k + 1)).all dgB = true) := hN.out hd
          clear hN hd
          generalize numV (l.take k) = va at *
          generalize (l[k].toNat : Int) = x at *
          go_wp2
          go_roundw
          case rel => exact ⟨k + 1, by omega, by go_num, by go_light; rw [hnx.out], HN2.out, by trivial⟩
          case measure => simp [intOf]; omega
      · obtain rfl : k = l.length := by omega
        rw [List.take_length] at HA
        have hR : R = true := HP.out.2 ⟨by omega, by omega, HP2.out, HA.out⟩
        have hVV : V = numV l := by rw [HV.out, hR]; rfl
        go_wp2
        go_ret2
        exact ⟨by rw [hVV, hR, List.take_length]; rfl, rfl⟩

theorem numsV_take {ws : List (List UInt8)} {k : Nat} (h : k < ws.length) : (ws.take k).map numV ++ [numV ws[k]] = (ws.take (k + 1)).map numV := by
  rw [List.take_succ_eq_append_getElem h, List.map_append]; rfl
theorem all_takeP {α : Type} {l : List α} {k : Nat} (h : k < l.length) (p : α → Bool) (h1 : (l.take k).all p = true) (h2 : p l[k] = true) : (l.take (k + 1)).all p = true := by
  rw [List.take_succ_eq_append_getElem h, List.all_append, h1]; simp [h2]
theorem all_noP {α : Type} {l : List α} {k : Nat} (h : k < l.length) (p : α → Bool) (h2 : p l[k] = false) : l.all p = false := by
  rw [List.all_eq_false]
  exact ⟨l[k], List.getElem_mem h, by simp [h2]⟩
set_option maxHeartbeats 4000000 in
set_option maxRecDepth 100000 in
theorem l7numbers_any (v : Value) (ws : List (List UInt8)) (w : World) (hv : Sl txC 1 w v (ws.map sOf)) (hl : ws.length ≤ 70000) (hw : ∀ x ∈ ws, x.length ≤ 65536) :
    Calls Tryz.prog 18 #[v] w fun e w' => ∃ v', e = .returned (.tuple #[v', .bool (ws.all numOk)]) ∧ (ws.all numOk = true → OwnG inC 1 3 w' w.heap.size v' (ws.map numV)) ∧ Below w.heap.size w w' := by
  obtain ⟨hlm, a, cap, rfl, hc⟩ := hv
  have hml : (ws.map sOf).length = ws.length := List.length_map ..
  have HC : Hid (∀ i, i < ws.length → ∃ b off, a = some ⟨b, off, none⟩ ∧ ∀ j (h : j < ws.length), w.cell? ⟨b, off + j, none⟩ = some (.string (sOf ws[j]))) := fun i hi => by
    obtain ⟨b, off, e, hj⟩ := hc i (by omega)
    refine ⟨b, off, e, fun j h => ?_⟩
    have := hj j (by omega) 0 _ rfl
    simpa using this
  have HW : Hid (∀ x ∈ ws, x.length ≤ 65536) := hw
  obtain ⟨R, hR⟩ : ∃ R, R = ws.all numOk := ⟨_, rfl⟩
  have HR : Hid (R = ws.all numOk) := hR
  rw [← hR]
  rw [List.length_map]
  have HN : Hid (OwnG inC 1 3 (w.alloc (.cells #[] 3)) w.heap.size (.slice (some ⟨w.heap.size, 0, none⟩) 0 0) ([] : List Int)) := OwnG.made _ _ _ _ _ (Nat.le_refl _)
  clear hc hw hR hlm
  go_enter Tryz.func18, Tryz.ntmps18
  go_wp2
  go_loopw [4, 5] (fun v i wr => ∃ k : Nat, k ≤ ws.length ∧ i = .int .i64 k ∧ OwnG inC 1 3 wr w.heap.size v ((ws.take k).map numV) ∧ (ws.take k).all numOk = true ∧ Below w.heap.size w wr ∧ w.heap.size ≤ wr.heap.size) (fun _ i _ => ws.length - (intOf i).toNat)
  case atStart => exact ⟨0, Nat.zero_le _, rfl, HN.out, rfl, (Below.refl _ _).alloc (Nat.le_refl _) _, by simp⟩
  case round =>
    obtain ⟨k, hk, rfl, hO, hA, hB, hz⟩ := hrel
    have HO : Hid (OwnG inC 1 3 wr w.heap.size _ ((ws.take k).map numV)) := hO
    have HA : Hid ((ws.take k).all numOk = true) := hA
    have HB : Hid (Below w.heap.size w wr) := hB
    clear hO hA hB HN
    by_cases hlt : k < ws.length
    · obtain ⟨b, off, rfl, hj⟩ := HC.out k hlt
      have hcell : wr.cell? ⟨b, off + k, none⟩ = some (.string (sOf ws[k])) := (HB.out.cell (p := ⟨b, off + k, none⟩) (cell_lt (hj k hlt))).trans (hj k hlt)
      have HNu : Hid (∀ z, Calls Tryz.prog 37 #[.string (sOf ws[k])] z fun e w' => e = .returned (.tuple #[.int .i64 (if numOk ws[k] = true then numV ws[k] else 0), .bool (numOk ws[k])]) ∧ w' = z) := fun z => l7number_any ws[k] (HW.out _ (List.getElem_mem hlt)) z
      have HAn : Hid (numOk ws[k] = true → (ws.take (k + 1)).all numOk = true) := fun h => all_takeP hlt _ HA.out h
      have HAf : Hid (numOk ws[k] = false → ws.all numOk = false) := fun h => all_noP hlt _ h
      have HT : Hid ((ws.take k).map numV ++ [numV ws[k]] = (ws.take (k + 1)).map numV) := numsV_take hlt
      have hkl : (k : Int) < (ws.length : Int) := by omega
      have hl9 : ((ws.take k).map numV).length ≤ 70000 := by rw [List.length_map, List.length_take]; omega
      clear hj
      cases hnk : numOk ws[k]
      · rw [hnk] at HNu
        simp only [if_neg (show ¬ (false = true) by decide)] at HNu
        have hbad := HAf.out hnk
        clear hnk HAn HAf HT
        generalize sOf ws[k] = S at *
        go_wp2_with (go_at_call 37; refine (HNu.out _).mono ?_; rintro e w' ⟨rfl, hww⟩; have hww2 := hww.symm; subst hww2)
        go_ret2
        exact ⟨_, by rw [HR.out, hbad]; rfl, fun h => absurd (h.symm.trans (HR.out.trans hbad)) (by decide), HB.out⟩
      · rw [hnk] at HNu
        simp only [if_pos] at HNu
        have HAn2 : Hid ((ws.take (k + 1)).all numOk = true) := HAn.out hnk
        clear hnk HAn HAf
        generalize sOf ws[k] = S at *
        generalize numV ws[k] = n at *
        go_wp2_with (first
          | (go_at_call 37; refine (HNu.out _).mono ?_; rintro e w' ⟨rfl, hww⟩; have hww2 := hww.symm; subst hww2)
          | (at_builtin; refine wpl_appendG inLaw rfl (.tmp 26) (.tmp 28) rfl n (HO.out.below ((Below.refl _ _).alloc (Nat.le_refl _) _)) rfl (wr.heap.size) 1 (Blk.new _ _ _).range rfl (by omega) (by simp; omega) ?_; intro v2 w2 ho2 hg2; have HB2 : Hid (Below w.heap.size w w2) := (HB.out.alloc hz _).trans (growG hg2 (HO.out.below ((Below.refl _ _).alloc (Nat.le_refl _) _)) (by simp; omega)); have hz2 : w.heap.size ≤ w2.heap.size := (by have := hg2.g.size; simp at this; omega)))
        go_roundw
        case rel => exact ⟨k + 1, by omega, by go_num, by rw [← HT.out]; exact ho2, HAn2.out, HB2.out, hz2⟩
        case measure => simp [intOf]; omega
    · obtain rfl : k = ws.length := by omega
      rw [List.take_length] at HO HA
      go_wp2
      go_ret2
      exact ⟨_, by rw [HR.out, HA.out]; rfl, fun _ => HO.out, HB.out⟩
end Go.Proofs.YtanpindbhdeomaaGreatDoor
