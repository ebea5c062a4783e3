/-
  impl.entriesRise, spec.l1rising.
-/
import Derived.Test.YtfcmffdljfljkaaEntFit
import Derived.Deep.QuietTactic
import Derived.BigQuiet
namespace Go.Proofs.Ytfcmffdljfljkaa
open Go.RowKit
set_option linter.unusedVariables false

set_option maxHeartbeats 8000000 in
set_option maxRecDepth 100000 in
theorem entriesRise_any (ev : Value) (lt tm : Int) (l : List Ent) (w : World) (hv : Es w ev l) (hll : l.length ≤ 1048576) :
    Calls Try.prog 170 #[ev, .int .i64 lt, .int .i64 tm] w fun r w' => r = .returned (.bool (fitL tm lt l)) ∧ Below w.heap.size w w' := by
  obtain ⟨hl, hf, a, cap, rfl, hc⟩ := hv
  go_enter Try.func170, Try.ntmps170
  go_wp2
  go_loopw [1, 11] (fun t i wr => ∃ (k : Nat) (x : Int), k ≤ l.length ∧ i = .int .i64 k ∧ t = .int .i64 x ∧ fitL tm lt l = fitL tm x (l.drop k) ∧ Below w.heap.size w wr) (fun _ i _ => l.length - (intOf i).toNat)
  case atStart => exact ⟨0, lt, Nat.zero_le _, rfl, rfl, by simp, Below.refl _ _⟩
  case round =>
    obtain ⟨k, x, hk, rfl, rfl, hfl, hB⟩ := hrel
    have HF : Hid (fitL tm lt l = fitL tm x (l.drop k)) := hfl
    have hz := hB.size
    clear hfl
    by_cases hlt : k < l.length
    · obtain ⟨b, off, rfl, hj⟩ := hc k hlt
      obtain ⟨c0, c1, c2, c3, c4, c5, c6⟩ := (hj k hlt).below hB
      have hfk := hf l[k] (List.getElem_mem hlt)
      have HD : Hid (fitL tm x (l.drop k) = (entB l[k] && inB l[k].t x tm && fitL tm l[k].t (l.drop (k + 1)))) := fitL_drop tm x l k hlt
      clear hc hj
      generalize l[k] = e at *
      go_wp2_with (first
        | (go_at_call 172; refine (entryFits_any e hfk _).mono ?_; rintro r w1 ⟨rfl, hb⟩; obtain ⟨hc1, hf1⟩ := bcell hb; have hz1 : wr.heap.size < w1.heap.size := (by have := hb.size; simp at this; omega))
        | (go_at_call 48; refine (within_any _ _ _ _).mono ?_; rintro r w' ⟨rfl, rfl⟩))
      · go_ret
        exact ⟨ret_bool (by rw [HF.out, HD.out]; go_light; simp_all), hB.trans (((Below.refl _ _).alloc (by omega) _).trans (hb.mono (by simp; omega)))⟩
      · go_roundw
        case rel => exact ⟨k + 1, e.t, by omega, by go_num, rfl, by rw [HF.out, HD.out]; go_light; simp_all, hB.trans (((Below.refl _ _).alloc (by omega) _).trans (hb.mono (by simp; omega)))⟩
        case measure => simp [intOf]; omega
      · go_ret
        exact ⟨ret_bool (by rw [HF.out, HD.out]; go_light; simp_all), hB.trans (((Below.refl _ _).alloc (by omega) _).trans (hb.mono (by simp; omega)))⟩
    · have hd : l.drop k = [] := List.drop_of_length_le (by omega)
      go_wp2
      go_ret
      exact ⟨ret_bool (by rw [HF.out, hd]; rfl), hB⟩

theorem fit_no {e : Ent} {low high : Int} (X : Bool) (h : entB e = false ∨ e.t < low ∨ high < e.t) : (entB e && inB e.t low high && X) = false := by
  rcases h with h | h
  · rw [h]; rfl
  · rw [(inB_not _ _ _).2 h]; simp
theorem fit_yes {e : Ent} {low high : Int} (X : Bool) (h : entB e = true) (h1 : low ≤ e.t) (h2 : e.t ≤ high) : (entB e && inB e.t low high && X) = X := by
  rw [h, (inB_iff _ _ _).2 ⟨h1, h2⟩]; rfl
theorem prev_step (low : Int) (l : List Ent) (k : Nat) (h : k < l.length) : (if k + 1 = 0 then low else (l[k + 1 - 1]?.map Ent.t).getD 0) = l[k].t := by simp [h]

set_option maxHeartbeats 8000000 in
set_option maxRecDepth 100000 in
theorem l1rising_any (ev : Value) (low high : Int) (l : List Ent) (w : World) (hv : Es w ev l) (hll : l.length ≤ 1048576) :
    Calls Try.prog 93 #[ev, .int .i64 low, .int .i64 high] w fun r w' => r = .returned (.bool (fitL high low l)) ∧ Below w.heap.size w w' := by
  obtain ⟨hl, hf, a, cap, rfl, hc⟩ := hv
  go_enter Try.func93, Try.ntmps93
  go_wp2
  go_loopw [7] (fun i wr => ∃ k : Nat, k ≤ l.length ∧ i = .int .i64 k ∧ fitL high low l = fitL high (if k = 0 then low else (l[k - 1]?.map Ent.t).getD 0) (l.drop k) ∧ Below w.heap.size w wr) (fun i _ => l.length - (intOf i).toNat)
  case atStart => exact ⟨0, Nat.zero_le _, rfl, by simp, Below.refl _ _⟩
  case round =>
    obtain ⟨k, hk, rfl, hfl, hB⟩ := hrel
    have HF : Hid (fitL high low l = fitL high (if k = 0 then low else (l[k - 1]?.map Ent.t).getD 0) (l.drop k)) := hfl
    have hz := hB.size
    clear hfl
    by_cases hlt : k < l.length
    · obtain ⟨b, off, rfl, hj⟩ := hc k hlt
      have hfk := hf l[k] (List.getElem_mem hlt)
      have HD : ∀ x, Hid (fitL high x (l.drop k) = (entB l[k] && inB l[k].t x high && fitL high l[k].t (l.drop (k + 1)))) := fun x => fitL_drop high x l k hlt
      have HP : Hid ((if k + 1 = 0 then low else (l[k + 1 - 1]?.map Ent.t).getD 0) = l[k].t) := prev_step low l k hlt
      by_cases h0 : k = 0
      · subst h0
        obtain ⟨c0, c1, c2, c3, c4, c5, c6⟩ := (hj 0 hlt).below hB
        have hlow : (if (0 : Nat) = 0 then low else (l[0 - 1]?.map Ent.t).getD 0) = low := rfl
        rw [hlow] at HF
        clear hc hj hlow
        simp only [Nat.zero_mul, Nat.add_zero] at c0 c1 c2 c3 c4 c5 c6
        generalize l[0] = e at *
        go_wp2_with (go_at_call 111; refine (entryOk_any e hfk _).mono ?_; rintro r w1 ⟨rfl, hb⟩; obtain ⟨hc1, hf1⟩ := bcell hb; have hbl := cell_lt c0)
        · go_ret
          exact ⟨ret_bool (by rw [HF.out, (HD _).out, fit_no]; go_light; cases hE : entB e <;> simp_all <;> omega), hB.trans (hb.mono hz)⟩
        · go_ret
          exact ⟨ret_bool (by rw [HF.out, (HD _).out, fit_no]; go_light; cases hE : entB e <;> simp_all <;> omega), hB.trans (hb.mono hz)⟩
        · go_quiet (fail)
          go_wp2
          go_roundw
          case rel => exact ⟨0 + 1, by omega, by go_num, by rw [HF.out, (HD _).out, HP.out, fit_yes] <;> (go_light; cases hE : entB e <;> simp_all <;> omega), hB.trans ((hb.mono hz).trans ⟨rfl, rfl, rfl, Nat.le_refl _, fun _ _ => rfl⟩)⟩
          case measure => simp [intOf]; omega
        · go_ret
          exact ⟨ret_bool (by rw [HF.out, (HD _).out, fit_no]; go_light; cases hE : entB e <;> simp_all <;> omega), hB.trans (hb.mono hz)⟩
      · obtain ⟨j, rfl⟩ : ∃ j, k = j + 1 := ⟨k - 1, by omega⟩
        have hp : j < l.length := by omega
        have hprev : (if j + 1 = 0 then low else (l[j + 1 - 1]?.map Ent.t).getD 0) = l[j].t := prev_step low l j hp
        rw [hprev] at HF
        obtain ⟨c0, c1, c2, c3, c4, c5, c6⟩ := (hj (j + 1) hlt).below hB
        obtain ⟨p0, _⟩ := (hj j hp).below hB
        have hbl := cell_lt c0
        clear hc hj hprev h0
        generalize l[j] = pe at *
        generalize l[j + 1] = e at *
        go_wp2_with (go_at_call 111; refine (entryOk_any e hfk _).mono ?_; rintro r w1 ⟨rfl, hb⟩; obtain ⟨hc1, hf1⟩ := bcell hb)
        · go_ret
          exact ⟨ret_bool (by rw [HF.out, (HD _).out, fit_no]; go_light; cases hE : entB e <;> simp_all <;> omega), hB.trans (hb.mono hz)⟩
        · go_quiet (fail)
          go_wp2
          · go_ret
            exact ⟨ret_bool (by rw [HF.out, (HD _).out, fit_no]; go_light; cases hE : entB e <;> simp_all <;> omega), hB.trans ((hb.mono hz).trans ⟨rfl, rfl, rfl, Nat.le_refl _, fun _ _ => rfl⟩)⟩
          · go_roundw
            case rel => exact ⟨j + 1 + 1, by omega, by go_num, by rw [HF.out, (HD _).out, HP.out, fit_yes] <;> (go_light; cases hE : entB e <;> simp_all <;> omega), hB.trans ((hb.mono hz).trans ⟨rfl, rfl, rfl, Nat.le_refl _, fun _ _ => rfl⟩)⟩
            case measure => simp [intOf]; omega
        · go_ret
          exact ⟨ret_bool (by rw [HF.out, (HD _).out, fit_no]; go_light; cases hE : entB e <;> simp_all <;> omega), hB.trans (hb.mono hz)⟩
    · have hd : l.drop k = [] := List.drop_of_length_le (by omega)
      go_wp2
      go_ret
      exact ⟨ret_bool (by rw [HF.out, hd]; rfl), hB⟩
end Go.Proofs.Ytfcmffdljfljkaa
