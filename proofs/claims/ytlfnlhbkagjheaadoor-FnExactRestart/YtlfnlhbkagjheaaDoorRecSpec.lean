/-
  spec.l2recordOk.
-/
import Derived.Test.YtlfnlhbkagjheaaDoorGround
import Derived.Test.YtlfnlhbkagjheaaDoorEntFit
import Derived.Test.YtlfnlhbkagjheaaDoorL1in
import Derived.Deep.DeepCutAuto
namespace Go.Proofs.YtlfnlhbkagjheaaDoor
open Go.RowKit
set_option linter.unusedVariables false
set_option linter.unusedSimpArgs false

/-- an entry that is zero -/
def Ent.zero : Ent := ⟨0, 0, 0, 0, .empty, .empty, .empty⟩
def noEntB (e : Ent) : Bool := e.t == 0 && cmdEqB e Ent.zero
def hardB (r : Rec) : Bool := inB r.tm 0 1073741824 && (inB r.vo 0 7 && (decide (0 < r.tm) || r.vo == 0))
/-- a record is well-formed -/
def recB (r : Rec) : Bool :=
  if r.ki = 1 then r.ix == 0 && (noEntB r.e && hardB r)
  else if r.tm ≠ 0 ∨ r.vo ≠ 0 then false
  else if r.ki = 2 then inB r.ix 1 4096 && entB r.e
  else r.ki == 3 && (noEntB r.e && inB r.ix 0 4096)
theorem noEnt_iff (e : Ent) : noEntB e = true ↔ e = Ent.zero := by
  obtain ⟨t, cl, sq, op, k, v, o⟩ := e
  simp only [noEntB, Bool.and_eq_true, beq_iff_eq, cmdEqB_iff, Ent.zero, Ent.mk.injEq]
theorem empty_toList : ByteArray.empty.toList = [] := by rw [ByteArray.toList_eq]; rfl
theorem text_ne {k : ByteArray} (h : ¬ k = .empty) : ¬ k.toList = [] := fun e => h (bytes_ext (by rw [e, empty_toList]))
theorem text_ne' {k : ByteArray} (h : ¬ k = .empty) : (k.toList == []) = false := by simpa using text_ne h

set_option maxHeartbeats 20000000 in
set_option maxRecDepth 100000 in
theorem l2recordOk_any (r : Rec) (hf : r.e.fits) (w : World) :
    Calls Tryd.prog 40 #[.agg r.cells.toArray] w fun x w' => x = .returned (.bool (recB r)) ∧ Below w.heap.size w w' := by
  obtain ⟨ki, tm, vo, ix, ⟨t, cl, sq, op, k, v, o⟩⟩ := r
  show Calls Tryd.prog 40 #[.agg #[.int .i64 ki, .int .i64 tm, .int .i64 vo, .int .i64 ix, .int .i64 t, .int .i64 cl, .int .i64 sq, .int .i64 op, .string k, .string v, .string o]] w _
  go_enter Tryd.func40, Tryd.ntmps40
  go_upto_region 1 with fail
  go_cut [3] (fun s3 wx => s3 = .bool (noEntB ⟨t, cl, sq, op, k, v, o⟩) ∧ wx = w.alloc (.cells #[.int .i64 ki, .int .i64 tm, .int .i64 vo, .int .i64 ix, .int .i64 t, .int .i64 cl, .int .i64 sq, .int .i64 op, .string k, .string v, .string o] 55))
  case first =>
    by_cases ht : t = 0
    · subst ht
      by_cases hcl : cl = 0
      · subst hcl
        by_cases hsq : sq = 0
        · subst hsq
          by_cases hop : op = 0
          · subst hop
            by_cases hk : k = .empty
            · subst hk
              by_cases hv : v = .empty
              · subst hv
                by_cases ho : o = .empty
                · subst ho
                  have hN : noEntB (⟨0, 0, 0, 0, .empty, .empty, .empty⟩ : Ent) = true := by rw [noEnt_iff]; rfl
                  go_wp2_with fail
                  go_meet
                  exact ⟨by rw [hN], rfl⟩
                · have hN : noEntB (⟨0, 0, 0, 0, .empty, .empty, o⟩ : Ent) = false := by
                    cases hB : noEntB (⟨0, 0, 0, 0, .empty, .empty, o⟩ : Ent)
                    · rfl
                    · rw [noEnt_iff] at hB; injection hB with e0 e1 e2 e3 e4 e5 e6; exact absurd e6 ho
                  have bo := text_ne ho
                  have co := text_ne' ho
                  go_wp2_with fail
                  go_meet
                  exact ⟨by rw [hN], rfl⟩
              · have hN : noEntB (⟨0, 0, 0, 0, .empty, v, o⟩ : Ent) = false := by
                  cases hB : noEntB (⟨0, 0, 0, 0, .empty, v, o⟩ : Ent)
                  · rfl
                  · rw [noEnt_iff] at hB; injection hB with e0 e1 e2 e3 e4 e5 e6; exact absurd e5 hv
                have bv := text_ne hv
                have cv := text_ne' hv
                go_wp2_with fail
                go_meet
                exact ⟨by rw [hN], rfl⟩
            · have hN : noEntB (⟨0, 0, 0, 0, k, v, o⟩ : Ent) = false := by
                cases hB : noEntB (⟨0, 0, 0, 0, k, v, o⟩ : Ent)
                · rfl
                · rw [noEnt_iff] at hB; injection hB with e0 e1 e2 e3 e4 e5 e6; exact absurd e4 hk
              have bk := text_ne hk
              have ck := text_ne' hk
              go_wp2_with fail
              go_meet
              exact ⟨by rw [hN], rfl⟩
          · have hN : noEntB (⟨0, 0, 0, op, k, v, o⟩ : Ent) = false := by
              cases hB : noEntB (⟨0, 0, 0, op, k, v, o⟩ : Ent)
              · rfl
              · rw [noEnt_iff] at hB; injection hB with e0 e1 e2 e3 e4 e5 e6; exact absurd e3 hop
            have bop : (op == 0) = false := by simpa using hop
            go_wp2_with fail
            go_meet
            exact ⟨by rw [hN], rfl⟩
        · have hN : noEntB (⟨0, 0, sq, op, k, v, o⟩ : Ent) = false := by
            cases hB : noEntB (⟨0, 0, sq, op, k, v, o⟩ : Ent)
            · rfl
            · rw [noEnt_iff] at hB; injection hB with e0 e1 e2 e3 e4 e5 e6; exact absurd e2 hsq
          have bsq : (sq == 0) = false := by simpa using hsq
          go_wp2_with fail
          go_meet
          exact ⟨by rw [hN], rfl⟩
      · have hN : noEntB (⟨0, cl, sq, op, k, v, o⟩ : Ent) = false := by
          cases hB : noEntB (⟨0, cl, sq, op, k, v, o⟩ : Ent)
          · rfl
          · rw [noEnt_iff] at hB; injection hB with e0 e1 e2 e3 e4 e5 e6; exact absurd e1 hcl
        have bcl : (cl == 0) = false := by simpa using hcl
        go_wp2_with fail
        go_meet
        exact ⟨by rw [hN], rfl⟩
    · have hN : noEntB (⟨t, cl, sq, op, k, v, o⟩ : Ent) = false := by
        cases hB : noEntB (⟨t, cl, sq, op, k, v, o⟩ : Ent)
        · rfl
        · rw [noEnt_iff] at hB; injection hB with e0 e1 e2 e3 e4 e5 e6; exact absurd e0 ht
      have bt : (t == 0) = false := by simpa using ht
      go_wp2_with fail
      go_meet
      exact ⟨by rw [hN], rfl⟩
  case rest =>
    obtain ⟨rfl, rfl⟩ := hcut
    cases hN : noEntB ⟨t, cl, sq, op, k, v, o⟩
    · by_cases k1 : ki = 1
      · subst k1
        cases hix : (ix == 0)
        · go_wp2_with (first
            | (go_at_call 41; refine (l1in_any _ _ _ _).mono ?_; rintro r w1 ⟨rfl, hw⟩; obtain rfl := hw.symm)
            | (go_at_call 55; refine (entryOk_any ⟨t, cl, sq, op, k, v, o⟩ hf _).mono ?_; rintro r w1 ⟨rfl, hb⟩))
          go_ret
          exact ⟨ret_bool (by simp [recB, hardB, hix]), ((Below.refl _ _).alloc (Nat.le_refl _) _)⟩
        · go_wp2_with (first
            | (go_at_call 41; refine (l1in_any _ _ _ _).mono ?_; rintro r w1 ⟨rfl, hw⟩; obtain rfl := hw.symm)
            | (go_at_call 55; refine (entryOk_any ⟨t, cl, sq, op, k, v, o⟩ hf _).mono ?_; rintro r w1 ⟨rfl, hb⟩))
          go_ret
          exact ⟨ret_bool (by simp [recB, hardB, hN]), ((Below.refl _ _).alloc (Nat.le_refl _) _)⟩
      · have k1' : (ki == 1) = false := by simpa using k1
        by_cases htm : tm = 0
        · have htm' : (tm != 0) = false := by simpa using htm
          by_cases hvo : vo = 0
          · have hvo' : (vo != 0) = false := by simpa using hvo
            have hR : recB ⟨ki, tm, vo, ix, ⟨t, cl, sq, op, k, v, o⟩⟩ = if ki = 2 then inB ix 1 4096 && entB ⟨t, cl, sq, op, k, v, o⟩ else ki == 3 && (noEntB ⟨t, cl, sq, op, k, v, o⟩ && inB ix 0 4096) := by simp [recB, k1, htm, hvo]
            have HR : Hid (recB ⟨ki, tm, vo, ix, ⟨t, cl, sq, op, k, v, o⟩⟩ = if ki = 2 then inB ix 1 4096 && entB ⟨t, cl, sq, op, k, v, o⟩ else ki == 3 && (noEntB ⟨t, cl, sq, op, k, v, o⟩ && inB ix 0 4096)) := hR
            clear htm hvo hR
            by_cases k2 : ki = 2
            · subst k2
              cases hi : inB ix 1 4096
              · go_wp2_with (first
                  | (go_at_call 41; refine (l1in_any _ _ _ _).mono ?_; rintro r w1 ⟨rfl, hw⟩; obtain rfl := hw.symm)
                  | (go_at_call 55; refine (entryOk_any ⟨t, cl, sq, op, k, v, o⟩ hf _).mono ?_; rintro r w1 ⟨rfl, hb⟩))
                go_ret
                exact ⟨ret_bool (by rw [HR.out]; simp [hi]), ((Below.refl _ _).alloc (Nat.le_refl _) _)⟩
              · go_wp2_with (first
                  | (go_at_call 41; refine (l1in_any _ _ _ _).mono ?_; rintro r w1 ⟨rfl, hw⟩; obtain rfl := hw.symm)
                  | (go_at_call 55; refine (entryOk_any ⟨t, cl, sq, op, k, v, o⟩ hf _).mono ?_; rintro r w1 ⟨rfl, hb⟩))
                go_ret
                exact ⟨ret_bool (by rw [HR.out]; simp [hi]), ((Below.refl _ _).alloc (Nat.le_refl _) _).trans (hb.mono (by simp))⟩
            · have k2' : (ki == 2) = false := by simpa using k2
              by_cases k3 : ki = 3
              · subst k3
                go_wp2_with (first
                  | (go_at_call 41; refine (l1in_any _ _ _ _).mono ?_; rintro r w1 ⟨rfl, hw⟩; obtain rfl := hw.symm)
                  | (go_at_call 55; refine (entryOk_any ⟨t, cl, sq, op, k, v, o⟩ hf _).mono ?_; rintro r w1 ⟨rfl, hb⟩))
                go_ret
                exact ⟨ret_bool (by rw [HR.out]; simp [hN]), ((Below.refl _ _).alloc (Nat.le_refl _) _)⟩
              · have k3' : (ki == 3) = false := by simpa using k3
                go_wp2_with (first
                  | (go_at_call 41; refine (l1in_any _ _ _ _).mono ?_; rintro r w1 ⟨rfl, hw⟩; obtain rfl := hw.symm)
                  | (go_at_call 55; refine (entryOk_any ⟨t, cl, sq, op, k, v, o⟩ hf _).mono ?_; rintro r w1 ⟨rfl, hb⟩))
                go_ret
                exact ⟨ret_bool (by rw [HR.out]; simp [k2, k3]), ((Below.refl _ _).alloc (Nat.le_refl _) _)⟩
          · have hvo' : (vo != 0) = true := by simpa using hvo
            go_wp2_with (first
              | (go_at_call 41; refine (l1in_any _ _ _ _).mono ?_; rintro r w1 ⟨rfl, hw⟩; obtain rfl := hw.symm)
              | (go_at_call 55; refine (entryOk_any ⟨t, cl, sq, op, k, v, o⟩ hf _).mono ?_; rintro r w1 ⟨rfl, hb⟩))
            go_ret
            exact ⟨ret_bool (by simp [recB, hardB, k1, hvo]), ((Below.refl _ _).alloc (Nat.le_refl _) _)⟩
        · have htm' : (tm != 0) = true := by simpa using htm
          go_wp2_with (first
            | (go_at_call 41; refine (l1in_any _ _ _ _).mono ?_; rintro r w1 ⟨rfl, hw⟩; obtain rfl := hw.symm)
            | (go_at_call 55; refine (entryOk_any ⟨t, cl, sq, op, k, v, o⟩ hf _).mono ?_; rintro r w1 ⟨rfl, hb⟩))
          go_ret
          exact ⟨ret_bool (by simp [recB, hardB, k1, htm]), ((Below.refl _ _).alloc (Nat.le_refl _) _)⟩
    · by_cases k1 : ki = 1
      · subst k1
        cases hix : (ix == 0)
        · go_wp2_with (first
            | (go_at_call 41; refine (l1in_any _ _ _ _).mono ?_; rintro r w1 ⟨rfl, hw⟩; obtain rfl := hw.symm)
            | (go_at_call 55; refine (entryOk_any ⟨t, cl, sq, op, k, v, o⟩ hf _).mono ?_; rintro r w1 ⟨rfl, hb⟩))
          go_ret
          exact ⟨ret_bool (by simp [recB, hardB, hix]), ((Below.refl _ _).alloc (Nat.le_refl _) _)⟩
        · cases ha : inB tm 0 1073741824
          · go_wp2_with (first
              | (go_at_call 41; refine (l1in_any _ _ _ _).mono ?_; rintro r w1 ⟨rfl, hw⟩; obtain rfl := hw.symm)
              | (go_at_call 55; refine (entryOk_any ⟨t, cl, sq, op, k, v, o⟩ hf _).mono ?_; rintro r w1 ⟨rfl, hb⟩))
            go_ret
            exact ⟨ret_bool (by simp [recB, hardB, hix, hN, ha]), ((Below.refl _ _).alloc (Nat.le_refl _) _)⟩
          · cases hb : inB vo 0 7
            · go_wp2_with (first
                | (go_at_call 41; refine (l1in_any _ _ _ _).mono ?_; rintro r w1 ⟨rfl, hw⟩; obtain rfl := hw.symm)
                | (go_at_call 55; refine (entryOk_any ⟨t, cl, sq, op, k, v, o⟩ hf _).mono ?_; rintro r w1 ⟨rfl, hb⟩))
              go_ret
              exact ⟨ret_bool (by simp [recB, hardB, hix, hN, ha, hb]), ((Below.refl _ _).alloc (Nat.le_refl _) _)⟩
            · by_cases hp : (0 : Int) < tm
              · go_wp2_with (first
                  | (go_at_call 41; refine (l1in_any _ _ _ _).mono ?_; rintro r w1 ⟨rfl, hw⟩; obtain rfl := hw.symm)
                  | (go_at_call 55; refine (entryOk_any ⟨t, cl, sq, op, k, v, o⟩ hf _).mono ?_; rintro r w1 ⟨rfl, hb⟩))
                go_ret
                exact ⟨ret_bool (by simp [recB, hardB, hix, hN, ha, hb, hp]), ((Below.refl _ _).alloc (Nat.le_refl _) _)⟩
              · go_wp2_with (first
                  | (go_at_call 41; refine (l1in_any _ _ _ _).mono ?_; rintro r w1 ⟨rfl, hw⟩; obtain rfl := hw.symm)
                  | (go_at_call 55; refine (entryOk_any ⟨t, cl, sq, op, k, v, o⟩ hf _).mono ?_; rintro r w1 ⟨rfl, hb⟩))
                go_ret
                exact ⟨ret_bool (by simp [recB, hardB, hix, hN, ha, hb, hp]), ((Below.refl _ _).alloc (Nat.le_refl _) _)⟩
      · have k1' : (ki == 1) = false := by simpa using k1
        by_cases htm : tm = 0
        · have htm' : (tm != 0) = false := by simpa using htm
          by_cases hvo : vo = 0
          · have hvo' : (vo != 0) = false := by simpa using hvo
            have hR : recB ⟨ki, tm, vo, ix, ⟨t, cl, sq, op, k, v, o⟩⟩ = if ki = 2 then inB ix 1 4096 && entB ⟨t, cl, sq, op, k, v, o⟩ else ki == 3 && (noEntB ⟨t, cl, sq, op, k, v, o⟩ && inB ix 0 4096) := by simp [recB, k1, htm, hvo]
            have HR : Hid (recB ⟨ki, tm, vo, ix, ⟨t, cl, sq, op, k, v, o⟩⟩ = if ki = 2 then inB ix 1 4096 && entB ⟨t, cl, sq, op, k, v, o⟩ else ki == 3 && (noEntB ⟨t, cl, sq, op, k, v, o⟩ && inB ix 0 4096)) := hR
            clear htm hvo hR
            by_cases k2 : ki = 2
            · subst k2
              cases hi : inB ix 1 4096
              · go_wp2_with (first
                  | (go_at_call 41; refine (l1in_any _ _ _ _).mono ?_; rintro r w1 ⟨rfl, hw⟩; obtain rfl := hw.symm)
                  | (go_at_call 55; refine (entryOk_any ⟨t, cl, sq, op, k, v, o⟩ hf _).mono ?_; rintro r w1 ⟨rfl, hb⟩))
                go_ret
                exact ⟨ret_bool (by rw [HR.out]; simp [hi]), ((Below.refl _ _).alloc (Nat.le_refl _) _)⟩
              · go_wp2_with (first
                  | (go_at_call 41; refine (l1in_any _ _ _ _).mono ?_; rintro r w1 ⟨rfl, hw⟩; obtain rfl := hw.symm)
                  | (go_at_call 55; refine (entryOk_any ⟨t, cl, sq, op, k, v, o⟩ hf _).mono ?_; rintro r w1 ⟨rfl, hb⟩))
                go_ret
                exact ⟨ret_bool (by rw [HR.out]; simp [hi]), ((Below.refl _ _).alloc (Nat.le_refl _) _).trans (hb.mono (by simp))⟩
            · have k2' : (ki == 2) = false := by simpa using k2
              by_cases k3 : ki = 3
              · subst k3
                go_wp2_with (first
                  | (go_at_call 41; refine (l1in_any _ _ _ _).mono ?_; rintro r w1 ⟨rfl, hw⟩; obtain rfl := hw.symm)
                  | (go_at_call 55; refine (entryOk_any ⟨t, cl, sq, op, k, v, o⟩ hf _).mono ?_; rintro r w1 ⟨rfl, hb⟩))
                go_ret
                exact ⟨ret_bool (by rw [HR.out]; simp [hN]), ((Below.refl _ _).alloc (Nat.le_refl _) _)⟩
              · have k3' : (ki == 3) = false := by simpa using k3
                go_wp2_with (first
                  | (go_at_call 41; refine (l1in_any _ _ _ _).mono ?_; rintro r w1 ⟨rfl, hw⟩; obtain rfl := hw.symm)
                  | (go_at_call 55; refine (entryOk_any ⟨t, cl, sq, op, k, v, o⟩ hf _).mono ?_; rintro r w1 ⟨rfl, hb⟩))
                go_ret
                exact ⟨ret_bool (by rw [HR.out]; simp [k2, k3]), ((Below.refl _ _).alloc (Nat.le_refl _) _)⟩
          · have hvo' : (vo != 0) = true := by simpa using hvo
            go_wp2_with (first
              | (go_at_call 41; refine (l1in_any _ _ _ _).mono ?_; rintro r w1 ⟨rfl, hw⟩; obtain rfl := hw.symm)
              | (go_at_call 55; refine (entryOk_any ⟨t, cl, sq, op, k, v, o⟩ hf _).mono ?_; rintro r w1 ⟨rfl, hb⟩))
            go_ret
            exact ⟨ret_bool (by simp [recB, hardB, k1, hvo]), ((Below.refl _ _).alloc (Nat.le_refl _) _)⟩
        · have htm' : (tm != 0) = true := by simpa using htm
          go_wp2_with (first
            | (go_at_call 41; refine (l1in_any _ _ _ _).mono ?_; rintro r w1 ⟨rfl, hw⟩; obtain rfl := hw.symm)
            | (go_at_call 55; refine (entryOk_any ⟨t, cl, sq, op, k, v, o⟩ hf _).mono ?_; rintro r w1 ⟨rfl, hb⟩))
          go_ret
          exact ⟨ret_bool (by simp [recB, hardB, k1, htm]), ((Below.refl _ _).alloc (Nat.le_refl _) _)⟩
end Go.Proofs.YtlfnlhbkagjheaaDoor
