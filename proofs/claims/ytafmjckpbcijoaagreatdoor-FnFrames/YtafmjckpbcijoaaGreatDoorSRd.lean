/-
  spec.l1rd in memory; spec.l1rdNum.
-/
import Derived.Test.YtafmjckpbcijoaaGreatDoorGround3
namespace Go.Proofs.YtafmjckpbcijoaaGreatDoor
open Go.RowKit
set_option linter.unusedVariables false
set_option linter.unusedSimpArgs false

/-- the specification's reader in block b over the bytes L has the state st -/
def SRd (w : World) (b : Nat) (v : Value) (L : List Int) (D : Nat) (st : RSt) : Prop :=
  b < D ∧ D ≤ w.heap.size ∧ Bs w v L ∧ Fits D v L ∧ (∀ i, w.frozen? ⟨b, i, none⟩ = false) ∧ w.cell? ⟨b, 0, none⟩ = some v ∧
  ∃ at' : Nat, at' ≤ L.length ∧ w.cell? ⟨b, 1, none⟩ = some (.int .i64 at') ∧ w.cell? ⟨b, 2, none⟩ = some (.bool st.isNone) ∧ ∀ l, st = some l → l = L.drop at'

theorem bs_below {w w' : World} {v : Value} {L : List Int} {D : Nat} (h : Bs w v L) (hf : Fits D v L) (hb : Below D w w') : Bs w' v L := by
  obtain ⟨a, n, cc, rfl, _, hD⟩ := hf
  obtain ⟨hl, h8, a', cap, e, hc⟩ := h
  injection e with e1 e2 e3
  subst e1 e2 e3
  refine ⟨hl, h8, _, _, rfl, fun i hi => ?_⟩
  obtain ⟨b', off, rfl, hj⟩ := hc i hi
  obtain ⟨x, ex, hx⟩ := hD (by omega)
  injection ex with ex
  subst ex
  exact ⟨b', off, rfl, fun j hj' => by rw [hb.cell (p := ⟨b', off + j, none⟩) hx]; exact hj j hj'⟩

theorem SRd.below {w w' : World} {b : Nat} {v : Value} {L : List Int} {D : Nat} {st : RSt} (h : SRd w b v L D st) (hb : Below D w w') : SRd w' b v L D st := by
  obtain ⟨hbD, hDw, hbs, hfit, hf, h0, k, hk, h1, h2, h3⟩ := h
  have c := fun (o : Nat) => hb.cell (p := ⟨b, o, none⟩) hbD
  exact ⟨hbD, Nat.le_trans hDw hb.size, bs_below hbs hfit hb, hfit, fun i => by rw [hb.frozen (p := ⟨b, i, none⟩) hbD]; exact hf i, (c 0).trans h0, k, hk, (c 1).trans h1, (c 2).trans h2, h3⟩

/-- from the last byte down, c of them -/
def horn (l : List Int) (n : Nat) : Nat → Nat
  | 0 => 0
  | c + 1 => horn l n c * 128 + (l[n - 1 - c]?.getD 0).toNat % 128
theorem horn_val (l : List Int) (n : Nat) : ∀ c, c ≤ n → horn l n c * 128 ^ (n - c) + valL l (n - c) = valL l n := by
  intro c
  induction c with
  | zero => intro _; simp [horn]
  | succ c ih =>
    intro hc
    have h := ih (by omega)
    have e : n - c = (n - (c + 1)) + 1 := by omega
    have e2 : n - 1 - c = n - (c + 1) := by omega
    rw [e, valL, Nat.pow_succ] at h
    rw [horn, e2, Nat.add_mul]
    rw [← h]
    rw [Nat.mul_assoc, Nat.mul_comm 128 (128 ^ (n - (c + 1)))]
    omega
theorem horn_all (l : List Int) (n : Nat) : horn l n n = valL l n := by
  have := horn_val l n n (Nat.le_refl _)
  simpa [valL] using this
theorem horn_lt (l : List Int) (n c : Nat) : horn l n c < 128 ^ c := by
  induction c with
  | zero => simp [horn]
  | succ c ih => rw [horn, Nat.pow_succ]; omega

set_option maxHeartbeats 4000000 in
set_option maxRecDepth 100000 in
theorem l1rdNum_any (b : Nat) (w : World) (v : Value) (L : List Int) (D : Nat) (st : RSt) (hL : L.length ≤ 1048576) (h : SRd w b v L D st) :
    Calls Tryz.prog 69 #[.pointer (some ⟨b, 0, none⟩)] w fun e w' => e = .returned (.int .i64 ((rdNum st).1 : Nat)) ∧ SRd w' b v L D (rdNum st).2 ∧ w.grownBy w' (some b) := by
  have HR : Hid (SRd w b v L D st) := h
  obtain ⟨hbD, hDw, hbs, hfit, hf, h0, p, hp, h1, h2, h3⟩ := h
  have HB : Hid (Bs w v L) := hbs
  have HF : Hid (Fits D v L) := hfit
  have hf1 := hf 1
  have hf2 := hf 2
  cases st with
  | none =>
    simp only [Option.isNone_none] at h2
    go_enter Tryz.func69, Tryz.ntmps69
    go_wp2
    go_ret
    exact ⟨rfl, HR.out, grownBy_refl _ _⟩
  | some l =>
    obtain rfl := h3 l rfl
    clear h3
    simp only [Option.isNone_some] at h2
    obtain ⟨a, n, c, rfl, hnc, hD⟩ := hfit
    obtain ⟨hml, h8, a', cap, e, hc⟩ := hbs
    injection e with e1 e2 e3
    subst e1 e2 e3
    clear hD
    have HX : ∀ m, Hid (SRd ((w.drewN m).setCell ⟨b, 2, none⟩ (.bool true)) b (.slice a L.length c) L D none ∧ w.grownBy ((w.drewN m).setCell ⟨b, 2, none⟩ (.bool true)) (some b)) := fun m => by
      refine ⟨⟨hbD, by simpa [World.setCell] using hDw, Bs.setCell (w := w.drewN m) HB.out (x := .bool false) h2 trivial _, HF.out, fun i => ?_, ?_, p, hp, ?_, ?_, fun l h => by cases h⟩, ?_⟩
      · rw [World.frozen?_setCell]; exact hf i
      · rw [World.cell?_setCell_other _ _ _ _ (by intro h; injection h with _ h2 _; cases h2)]; exact h0
      · rw [World.cell?_setCell_other _ _ _ _ (by intro h; injection h with _ h2 _; cases h2)]; exact h1
      · exact World.cell?_setCell_same (w.drewN m) _ _ h2
      · exact grownBy_trans (w1 := w.drewN m) ⟨rfl, rfl, rfl, Nat.le_refl _, fun _ _ _ => rfl⟩ (Rd.frame (w := w.drewN m) 2 _)
    have HY : ∀ m k, k ≤ (L.drop p).length → Hid (SRd ((w.drewN m).setCell ⟨b, 1, none⟩ (.int .i64 ((p + k : Nat) : Int))) b (.slice a L.length c) L D (some ((L.drop p).drop k)) ∧ w.grownBy ((w.drewN m).setCell ⟨b, 1, none⟩ (.int .i64 ((p + k : Nat) : Int))) (some b)) := fun m k hk => by
      rw [List.length_drop] at hk
      refine ⟨⟨hbD, by simpa [World.setCell] using hDw, Bs.setCell (w := w.drewN m) HB.out (x := .int .i64 p) h1 trivial _, HF.out, fun i => ?_, ?_, p + k, by omega, ?_, ?_, fun l h => ?_⟩, ?_⟩
      · rw [World.frozen?_setCell]; exact hf i
      · rw [World.cell?_setCell_other _ _ _ _ (by intro h; injection h with _ h2 _; cases h2)]; exact h0
      · exact World.cell?_setCell_same (w.drewN m) _ _ h1
      · rw [World.cell?_setCell_other _ _ _ _ (by intro h; injection h with _ h2 _; cases h2)]; exact h2
      · injection h with h
        rw [← h, List.drop_drop]
      · exact grownBy_trans (w1 := w.drewN m) ⟨rfl, rfl, rfl, Nat.le_refl _, fun _ _ _ => rfl⟩ (Rd.frame (w := w.drewN m) 1 _)
    generalize hl : L.drop p = l at *
    go_enter Tryz.func69, Tryz.ntmps69
    go_wp2
    go_loopw [3] (fun i wr => ∃ k : Nat, k ≤ 5 ∧ i = .int .i64 ((k : Int) + 1) ∧ numR l = numAt l (5 - k) k ∧ ∃ m, wr = w.drewN m) (fun i _ => 6 - (intOf i).toNat)
    case atStart => exact ⟨0, by omega, rfl, rfl, 0, rfl⟩
    case round =>
      obtain ⟨k, hk, rfl, hnum, m, rfl⟩ := hrel
      by_cases hk5 : k < 5
      · by_cases hlt : k < l.length
        · have hlen : l.length = L.length - p := by rw [← hl, List.length_drop]
          obtain ⟨db, off, rfl, hcell⟩ := hc (p + k) (by omega)
          have hck := hcell (p + k) (by omega)
          have hLk : L[p + k]?.getD 0 = l[k]?.getD 0 := by rw [← hl, List.getElem?_drop]
          rw [hLk] at hck
          have h8k : 0 ≤ l[k]?.getD 0 ∧ l[k]?.getD 0 ≤ 255 := by rw [← hLk]; exact byte_at h8 (p + k)
          have hN : Hid (numAt l (5 - k) k = if 128 ≤ l[k]?.getD 0 then numAt l (5 - (k + 1)) (k + 1) else if l[k]?.getD 0 = 0 ∧ 0 < k then none else some (valL l (k + 1), k + 1)) := by
            have e : 5 - k = (5 - (k + 1)) + 1 := by omega
            rw [e]
            show numAt l _ k = _
            rw [numAt, if_pos hlt]
          have HCell : Hid (∀ j, j < l.length → w.cell? ⟨db, off + (p + j), none⟩ = some (.int .u8 (l[j]?.getD 0))) := fun j hj => by
            have := hcell (p + j) (by omega)
            rw [this, ← hl, List.getElem?_drop]
          have hb8 : ∀ j : Nat, (0 : Int) ≤ l[j]?.getD 0 ∧ l[j]?.getD 0 ≤ 255 := byte_at (l := l) (fun x hx => h8 x (List.mem_of_mem_drop (by rw [hl]; exact hx)))
          have HB8 : Hid (∀ j : Nat, (0 : Int) ≤ l[j]?.getD 0 ∧ l[j]?.getD 0 ≤ 255) := hb8
          clear hb8
          generalize hcc : l[k]?.getD 0 = cc at hck h8k hN
          obtain ⟨b0, b1⟩ := h8k
          clear hcell hc h8 hLk
          by_cases h128 : 128 ≤ cc
          · rw [if_pos h128] at hN
            go_wp2
            go_quiet (fail)
            go_wp2
            go_quiet (fail)
            go_wp2
            go_roundw
            case rel => exact ⟨k + 1, by omega, by go_num, hnum.trans hN.out, _, rfl⟩
            case measure => simp [intOf]; omega
          · rw [if_neg h128] at hN
            by_cases hz : cc = 0 ∧ 0 < k
            · rw [if_pos hz] at hN
              obtain ⟨rfl, hk0⟩ := hz
              have hk1 : (1 : Int) < (k : Int) + 1 := by omega
              have hd1 : decide ((1 : Int) < (k : Int) + 1) = true := by simpa using hk1
              go_wp2
              go_quiet (fail)
              go_wp2
              go_quiet (fail)
              go_wp2
              go_quiet (fail)
              go_wp2
              go_ret
              rw [rdNum, hnum, hN.out]
              exact ⟨rfl, (HX _).out⟩
            · rw [if_neg hz] at hN
              have hs : rdNum (some l) = (valL l (k + 1), some (l.drop (k + 1))) := by rw [rdNum, hnum, hN.out]
              have HS : Hid (rdNum (some l) = (valL l (k + 1), some (l.drop (k + 1)))) := hs
              clear hs hN hnum
              have hkl : k + 1 ≤ l.length := hlt
              rcases (show k < 1 ∨ (0 < k ∧ cc ≠ 0) by omega) with hk0 | ⟨hk0, hcz⟩
              · have hk1 : ¬ (1 : Int) < (k : Int) + 1 := by omega
                have hd1 : decide ((1 : Int) < (k : Int) + 1) = false := by simpa using hk1
                go_wp2
                go_quiet (fail)
                go_wp2
                go_quiet (fail)
                go_wp2
                go_quiet (fail)
                go_wp2
                clear hd1 hk1 hk0 hz hcc hck
                go_loopw [4, 5] (fun v kk wr => ∃ (cn mm : Nat) (z : Int), cn ≤ k + 1 ∧ v = .int .i64 (horn l (k + 1) cn : Nat) ∧ kk = .int .i64 z ∧ z + cn = k ∧ wr = w.drewN mm) (fun _ kk _ => (intOf kk + 1).toNat)
                case atStart => exact ⟨0, _, (k : Int), by omega, rfl, by go_num, by omega, rfl⟩
                case round =>
                  obtain ⟨cn, mm, z, hcn, rfl, rfl, hzc, rfl⟩ := hrel
                  by_cases hz0 : 0 ≤ z
                  · obtain ⟨d, rfl⟩ := Int.eq_ofNat_of_zero_le hz0
                    have hce := HCell.out d (by omega)
                    have h8d := HB8.out d
                    have hho : horn l (k + 1) (cn + 1) = horn l (k + 1) cn * 128 + (l[d]?.getD 0).toNat % 128 := by
                      rw [horn, show k + 1 - 1 - cn = d by omega]
                    have hhl := horn_lt l (k + 1) cn
                    have hpw : (128 : Nat) ^ cn ≤ 128 ^ 4 := Nat.pow_le_pow_right (by decide) (by omega)
                    have HHO : Hid (horn l (k + 1) (cn + 1) = horn l (k + 1) cn * 128 + (l[d]?.getD 0).toNat % 128) := hho
                    have hV : (horn l (k + 1) cn : Int) < 268435456 := by have e : (128 : Nat) ^ 4 = 268435456 := by decide
                                                                          omega
                    clear hho hhl hpw
                    generalize horn l (k + 1) cn = V at *
                    generalize hx : l[d]?.getD 0 = x at *
                    clear hx
                    obtain ⟨x0, x1⟩ := h8d
                    go_wp2
                    go_quiet (fail)
                    go_wp2
                    go_roundw
                    case rel => exact ⟨cn + 1, _, (d : Int) - 1, by omega, by rw [HHO.out]; go_num, by go_num, by omega, rfl⟩
                    case measure => simp [intOf]
                  · have e : cn = k + 1 := by omega
                    subst e
                    have hY := (HY mm (k + 1) hkl)
                    rw [show ((p + (k + 1) : Nat) : Int) = (p : Int) + ((k : Int) + 1) by omega] at hY
                    have hall : Hid (horn l (k + 1) (k + 1) = valL l (k + 1)) := horn_all l (k + 1)
                    generalize horn l (k + 1) (k + 1) = V at *
                    go_wp2
                    go_ret
                    rw [HS.out, ← hall.out]
                    exact ⟨rfl, hY.out⟩
              · have hk1 : (1 : Int) < (k : Int) + 1 := by omega
                have hd1 : decide ((1 : Int) < (k : Int) + 1) = true := by simpa using hk1
                have hd2 : (cc == 0) = false := by simpa using hcz
                go_wp2
                go_quiet (fail)
                go_wp2
                go_quiet (fail)
                go_wp2
                go_quiet (fail)
                go_wp2
                clear hd1 hd2 hcz hk1 hk0 hz hcc hck
                go_loopw [4, 5] (fun v kk wr => ∃ (cn mm : Nat) (z : Int), cn ≤ k + 1 ∧ v = .int .i64 (horn l (k + 1) cn : Nat) ∧ kk = .int .i64 z ∧ z + cn = k ∧ wr = w.drewN mm) (fun _ kk _ => (intOf kk + 1).toNat)
                case atStart => exact ⟨0, _, (k : Int), by omega, rfl, by go_num, by omega, rfl⟩
                case round =>
                  obtain ⟨cn, mm, z, hcn, rfl, rfl, hzc, rfl⟩ := hrel
                  by_cases hz0 : 0 ≤ z
                  · obtain ⟨d, rfl⟩ := Int.eq_ofNat_of_zero_le hz0
                    have hce := HCell.out d (by omega)
                    have h8d := HB8.out d
                    have hho : horn l (k + 1) (cn + 1) = horn l (k + 1) cn * 128 + (l[d]?.getD 0).toNat % 128 := by
                      rw [horn, show k + 1 - 1 - cn = d by omega]
                    have hhl := horn_lt l (k + 1) cn
                    have hpw : (128 : Nat) ^ cn ≤ 128 ^ 4 := Nat.pow_le_pow_right (by decide) (by omega)
                    have HHO : Hid (horn l (k + 1) (cn + 1) = horn l (k + 1) cn * 128 + (l[d]?.getD 0).toNat % 128) := hho
                    have hV : (horn l (k + 1) cn : Int) < 268435456 := by have e : (128 : Nat) ^ 4 = 268435456 := by decide
                                                                          omega
                    clear hho hhl hpw
                    generalize horn l (k + 1) cn = V at *
                    generalize hx : l[d]?.getD 0 = x at *
                    clear hx
                    obtain ⟨x0, x1⟩ := h8d
                    go_wp2
                    go_quiet (fail)
                    go_wp2
                    go_roundw
                    case rel => exact ⟨cn + 1, _, (d : Int) - 1, by omega, by rw [HHO.out]; go_num, by go_num, by omega, rfl⟩
                    case measure => simp [intOf]
                  · have e : cn = k + 1 := by omega
                    subst e
                    have hY := (HY mm (k + 1) hkl)
                    rw [show ((p + (k + 1) : Nat) : Int) = (p : Int) + ((k : Int) + 1) by omega] at hY
                    have hall : Hid (horn l (k + 1) (k + 1) = valL l (k + 1)) := horn_all l (k + 1)
                    generalize horn l (k + 1) (k + 1) = V at *
                    go_wp2
                    go_ret
                    rw [HS.out, ← hall.out]
                    exact ⟨rfl, hY.out⟩
        · have hnn : numR l = none := by
            rw [hnum]
            have e : 5 - k = (5 - (k + 1)) + 1 := by omega
            rw [e, numAt, if_neg hlt]
          have hlen : l.length = L.length - p := by rw [← hl, List.length_drop]
          go_wp2
          go_quiet (fail)
          go_wp2
          go_ret
          rw [rdNum, hnn]
          exact ⟨rfl, (HX _).out⟩
      · have e : k = 5 := by omega
        subst e
        go_wp2
        go_ret
        rw [rdNum, hnum]
        exact ⟨rfl, (HX _).out⟩
end Go.Proofs.YtafmjckpbcijoaaGreatDoor
