/-
  spec.l1rdText.
-/
import Derived.Test.YtafmjckpbcijoaaGreatDoorSRd
namespace Go.Proofs.YtafmjckpbcijoaaGreatDoor
open Go.RowKit
set_option linter.unusedVariables false
set_option linter.unusedSimpArgs false

theorem slice_lh (a : Option Addr) (len c : Nat) (x y : Int) (hx : 0 ≤ x) (hxy : x ≤ y) (h : y ≤ c) (wx : World) : (Instr.slice 22 (.slice a len c) (some (.int .i64 x)) (some (.int .i64 y)) none).run Tryz.prog wx = .ok (sliced a x.toNat y.toNat c 1) wx := by
  rw [run_slice_lh wx 22 a len c under22 .i64 .i64 x y hx hxy h, elem22, size5]
  rfl

set_option maxRecDepth 100000 in
theorem conv_mid {w : World} {a : Option Addr} {len c : Nat} {l : List Int} (h : Bs w (.slice a len c) l) (hc : len ≤ c) (p n : Nat) (hn : p + n ≤ l.length) :
    (convert 22 9 (sliced a p (p + n) c 1)).run Tryz.prog w = .ok (.string (strOfNums ((l.drop p).take n))) w := by
  by_cases h0 : n = 0
  · subst h0
    rw [List.take_zero]
    have e : sliced a p (p + 0) c 1 = .slice (if c = p then a else a.map (·.add (p * 1))) 0 (c - p) := by simp [sliced]
    rw [e]
    exact conv_zero _ _ w
  · obtain ⟨hl, h8, a', cap, e, hcell⟩ := h
    injection e with e1 e2 e3
    subst e1 e2 e3
    obtain ⟨b, off, rfl, hj⟩ := hcell 0 (by omega)
    have hne : ¬ c = p := by omega
    have hs : sliced (some ⟨b, off, none⟩) p (p + n) c 1 = .slice (some ⟨b, off + p, none⟩) n (c - p) := by simp [sliced, hne, cell_add]
    rw [hs]
    refine run_convert_bytes_arg w 22 5 Tryz.underlying22 Tryz.underlying5 b (off + p) n (c - p) ((l.drop p).take n) (by simp; omega) (fun i hi => ?_) 9 Tryz.underlying9
    rw [Nat.add_assoc, hj (p + i) (by omega)]
    simp [List.getD, hi]

theorem SRd.move {w : World} {b : Nat} {v : Value} {L : List Int} {D : Nat} {l : List Int} (h : SRd w b v L D (some l)) {p : Nat} (h1' : w.cell? ⟨b, 1, none⟩ = some (.int .i64 (p : Nat))) (k : Nat) (hk : k ≤ l.length) (m : Nat) :
    SRd ((w.drewN m).setCell ⟨b, 1, none⟩ (.int .i64 ((p : Int) + k))) b v L D (some (l.drop k)) ∧ w.grownBy ((w.drewN m).setCell ⟨b, 1, none⟩ (.int .i64 ((p : Int) + k))) (some b) := by
  obtain ⟨hbD, hDw, hbs, hfit, hf, h0, q, hp, h1, h2, h3⟩ := h
  rw [h1'] at h1
  injection h1 with h1
  injection h1 with _ h1
  have e : p = q := by omega
  subst e
  obtain rfl := h3 l rfl
  rw [List.length_drop] at hk
  refine ⟨⟨hbD, by simpa [World.setCell] using hDw, Bs.setCell (w := w.drewN m) hbs (x := .int .i64 p) h1' trivial _, hfit, fun i => ?_, ?_, p + k, by omega, ?_, ?_, fun l h => ?_⟩, ?_⟩
  · rw [World.frozen?_setCell]; exact hf i
  · rw [World.cell?_setCell_other _ _ _ _ (by intro h; injection h with _ h2 _; cases h2)]; exact h0
  · rw [show ((p + k : Nat) : Int) = (p : Int) + k by omega]; exact World.cell?_setCell_same (w.drewN m) _ _ h1'
  · rw [World.cell?_setCell_other _ _ _ _ (by intro h; injection h with _ h2 _; cases h2)]; exact h2
  · injection h with h
    rw [← h, List.drop_drop]
  · exact grownBy_trans (w1 := w.drewN m) ⟨rfl, rfl, rfl, Nat.le_refl _, fun _ _ _ => rfl⟩ (Rd.frame (w := w.drewN m) 1 _)

set_option maxHeartbeats 4000000 in
set_option maxRecDepth 100000 in
theorem l1rdText_any (b : Nat) (w : World) (v : Value) (L : List Int) (D : Nat) (st : RSt) (hL : L.length ≤ 1048576) (h : SRd w b v L D st) :
    Calls Tryz.prog 72 #[.pointer (some ⟨b, 0, none⟩)] w fun e w' => e = .returned (.string (rdText st).1) ∧ SRd w' b v L D (rdText st).2 ∧ w.grownBy w' (some b) := by
  have HN : Hid (Calls Tryz.prog 69 #[.pointer (some ⟨b, 0, none⟩)] w fun e w' => e = .returned (.int .i64 ((rdNum st).1 : Nat)) ∧ SRd w' b v L D (rdNum st).2 ∧ w.grownBy w' (some b)) := l1rdNum_any b w v L D st hL h
  have hn := rdNum_lt st
  unfold rdText
  generalize (rdNum st).1 = n at HN hn
  generalize (rdNum st).2 = t at HN
  have HX : ∀ w1 : World, ∀ t, SRd w1 b v L D t → ∀ m, Hid (SRd ((w1.drewN m).setCell ⟨b, 2, none⟩ (.bool true)) b v L D none ∧ w1.grownBy ((w1.drewN m).setCell ⟨b, 2, none⟩ (.bool true)) (some b)) := fun w1 t h m => by
    obtain ⟨hbD, hDw, hbs, hfit, hf, h0, p, hp, h1, h2, h3⟩ := h
    refine ⟨⟨hbD, by simpa [World.setCell] using hDw, Bs.setCell (w := w1.drewN m) hbs (x := .bool t.isNone) h2 trivial _, hfit, fun i => ?_, ?_, p, hp, ?_, ?_, fun l h => by cases h⟩, ?_⟩
    · rw [World.frozen?_setCell]; exact hf i
    · rw [World.cell?_setCell_other _ _ _ _ (by intro h; injection h with _ h2 _; cases h2)]; exact h0
    · rw [World.cell?_setCell_other _ _ _ _ (by intro h; injection h with _ h2 _; cases h2)]; exact h1
    · exact World.cell?_setCell_same (w1.drewN m) _ _ h2
    · exact grownBy_trans (w1 := w1.drewN m) ⟨rfl, rfl, rfl, Nat.le_refl _, fun _ _ _ => rfl⟩ (Rd.frame (w := w1.drewN m) 2 _)
  cases t with
  | none =>
    go_enter Tryz.func72, Tryz.ntmps72
    go_wp2_with (go_at_call 69; refine HN.out.mono ?_; rintro e w1 ⟨rfl, hr, hg⟩; have HR := HX w1 none hr; obtain ⟨hbD, hDw, hbs, hfit, hf, h0, p, hp, h1, h2, h3⟩ := hr; have hf2 := hf 2; simp only [Option.isNone_none] at h2)
    go_quiet (fail)
    go_wp2
    go_ret
    exact ⟨rfl, (HR _).out.1, grownBy_trans hg (HR _).out.2⟩
  | some l =>
    by_cases hlong : 64 < n ∨ l.length < n
    · simp only [if_pos hlong]
      by_cases h64 : 64 < n
      · have h64' : (64 : Int) < n := by omega
        have hd1 : decide ((64 : Int) < n) = true := by simpa using h64'
        go_enter Tryz.func72, Tryz.ntmps72
        go_wp2_with (go_at_call 69; refine HN.out.mono ?_; rintro e w1 ⟨rfl, hr, hg⟩; have HR := HX w1 (some l) hr; obtain ⟨hbD, hDw, hbs, hfit, hf, h0, p, hp, h1, h2, h3⟩ := hr; have hf2 := hf 2; simp only [Option.isNone_some] at h2; clear hbs hfit h3 hp)
        go_quiet (fail)
        go_wp2
        go_ret
        exact ⟨rfl, (HR _).out.1, grownBy_trans hg (HR _).out.2⟩
      · have hd1 : decide ((64 : Int) < n) = false := by simp; omega
        have hll : l.length < n := by omega
        go_enter Tryz.func72, Tryz.ntmps72
        go_wp2_with (go_at_call 69; refine HN.out.mono ?_; rintro e w1 ⟨rfl, hr, hg⟩; have HR := HX w1 (some l) hr; obtain ⟨hbD, hDw, hbs, hfit, hf, h0, p, hp, h1, h2, h3⟩ := hr; have hf2 := hf 2; simp only [Option.isNone_some] at h2; have hl3 := congrArg List.length (h3 l rfl); rw [List.length_drop] at hl3; have hd2' : (L.length : Int) < (p : Int) + n := (by omega); have hd2 : decide ((L.length : Int) < (p : Int) + n) = true := (by simpa using hd2'); obtain ⟨_, _, a, c, rfl, _⟩ := hbs; clear hfit h3 hl3)
        go_quiet (fail)
        go_wp2
        go_ret
        exact ⟨rfl, (HR _).out.1, grownBy_trans hg (HR _).out.2⟩
    · simp only [if_neg hlong]
      have hd1 : decide ((64 : Int) < n) = false := by simp; omega
      go_enter Tryz.func72, Tryz.ntmps72
      go_wp2_with (go_at_call 69; refine HN.out.mono ?_; rintro e w1 ⟨rfl, hr, hg⟩; have HR : Hid (SRd w1 b v L D (some l)) := hr; obtain ⟨hbD, hDw, hbs, hfit, hf, h0, p, hp, h1, h2, h3⟩ := hr; have hf1 := hf 1; simp only [Option.isNone_some] at h2; have hl3 := congrArg List.length (h3 l rfl); rw [List.length_drop] at hl3; have hd2' : (p : Int) + n ≤ L.length := (by omega); have hd2 : decide ((L.length : Int) < (p : Int) + n) = false := (by simp; omega); have HB : Hid (Bs w1 v L) := hbs; obtain ⟨a, len, c, rfl, hlc, hD⟩ := hfit; obtain ⟨_, _, _, _, e, _⟩ := hbs; injection e with e1 e2 e3; subst e1 e2 e3; have sl := slice_lh a L.length c p (p + n) (by omega) (by omega) (by omega); rw [show ((p : Int) + n).toNat = p + n by omega, Int.toNat_natCast] at sl; have cv : ∀ m, (convert 22 9 (sliced a p (p + n) c 1)).run Tryz.prog (w1.drewN m) = .ok (.string (strOfNums ((L.drop p).take n))) (w1.drewN m) := (fun m => conv_mid (w := w1.drewN m) HB.out hlc p n (by omega)); have cv2 : ∀ m m', (convert 22 9 (sliced a p (p + n) c 1)).run Tryz.prog ((w1.drewN m).drewN m') = .ok (.string (strOfNums ((L.drop p).take n))) ((w1.drewN m).drewN m') := (fun m m' => conv_mid (w := (w1.drewN m).drewN m') HB.out hlc p n (by omega)); generalize sliced a p (p + n) c 1 = S1 at sl cv cv2; have hll : n ≤ l.length := (by omega); have HL : Hid (l = L.drop p) := (h3 l rfl); clear h3 hl3 hD)
      go_quiet (fail)
      go_wp2
      go_quiet (fail)
      go_wp2
      go_ret
      refine ⟨by rw [HL.out]; rfl, (HR.out.move h1 n hll _).1, grownBy_trans hg (HR.out.move h1 n hll _).2⟩
end Go.Proofs.YtafmjckpbcijoaaGreatDoor
