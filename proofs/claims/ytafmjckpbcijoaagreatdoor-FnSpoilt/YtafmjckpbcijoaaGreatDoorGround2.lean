import Derived.Test.YtafmjckpbcijoaaGreatDoorGround
import Derived.Deep.QuietTactic
import Derived.BigQuiet
/-
  impl.entriesRise, spec.l1rising.
-/
namespace Go.Proofs.YtafmjckpbcijoaaGreatDoor
open Go.RowKit
set_option linter.unusedVariables false

set_option maxHeartbeats 8000000 in
set_option maxRecDepth 100000 in
theorem entriesRise_any (ev : Value) (lt tm : Int) (l : List Ent) (w : World) (hv : Es w ev l) (hll : l.length ≤ 1048576) :
    Calls Tryz.prog 125 #[ev, .int .i64 lt, .int .i64 tm] w fun r w' => r = .returned (.bool (fitL tm lt l)) ∧ Below w.heap.size w w' := by
  obtain ⟨hl, hf, a, cap, rfl, hc⟩ := hv
  go_enter Tryz.func125, Tryz.ntmps125
  go_wp2
  go_loopw [1, 11] (fun t i wr => ∃ (k : Nat) (x : Int), k ≤ l.length ∧ i = .int .i64 k ∧ t = .int .i64 x ∧ fitL tm lt l = fitL tm x (l.drop k) ∧ Below w.heap.size w wr) (fun _ i _ => l.length - (intOf i).toNat)
  case atStart => exact ⟨0, lt, Nat.zero_le _, rfl, rfl, by simp, Below.refl _ _⟩
  case round =>
    obtain ⟨k, x, hk, rfl, rfl, hfl, hB⟩ := hrel
    have HF : Hid (fitL tm lt l = fitL tm x (l.drop k)) := hfl
    have hz := hB.size
    clear hfl
    by_cases hlt : k < l.length
    · obtain ⟨b, off, rfl, hj⟩ := hc k hlt
      obtain ⟨c0, c1, c2, c3, c4, c5, c6⟩ := (hj k hlt).below hB
      have hfk := hf l[k] (List.getElem_mem hlt)
      have HD : Hid (fitL tm x (l.drop k) = (entB l[k] && inB l[k].t x tm && fitL tm l[k].t (l.drop (k + 1)))) := fitL_drop tm x l k hlt
      clear hc hj
      generalize l[k] = e at *
      go_wp2_with (first
        | (go_at_call 127; refine (entryFits_any e hfk _).mono ?_; rintro r w1 ⟨rfl, hb⟩; obtain ⟨hc1, hf1⟩ := bcell hb; have hz1 : wr.heap.size < w1.heap.size := (by have := hb.size; simp at this; omega))
        | (go_at_call 52; refine (within_any _ _ _ _).mono ?_; rintro r w' ⟨rfl, rfl⟩))
      · go_ret
        exact ⟨ret_bool (by rw [HF.out, HD.out]; go_light; simp_all), hB.trans (((Below.refl _ _).alloc (by omega) _).trans (hb.mono (by simp; omega)))⟩
      · go_roundw
        case rel => exact ⟨k + 1, e.t, by omega, by go_num, rfl, by rw [HF.out, HD.out]; go_light; simp_all, hB.trans (((Below.refl _ _).alloc (by omega) _).trans (hb.mono (by simp; omega)))⟩
        case measure => simp [intOf]; omega
      · go_ret
        exact ⟨ret_bool (by rw [HF.out, HD.out]; go_light; simp_all), hB.trans (((Below.refl _ _).alloc (by omega) _).trans (hb.mono (by simp; omega)))⟩
    · have hd : l.drop k = [] := List.drop_of_length_le (by omega)
      go_wp2
      go_ret
      exact ⟨ret_bool (by rw [HF.out, hd]; rfl), hB⟩

theorem fit_no {e : Ent} {low high : Int} (X : Bool) (h : entB e = false ∨ e.t < low ∨ high < e.t) : (entB e && inB e.t low high && X) = false := by
  rcases h with h | h
  · rw [h]; rfl
  · rw [(inB_not _ _ _).2 h]; simp
theorem fit_yes {e : Ent} {low high : Int} (X : Bool) (h : entB e = true) (h1 : low ≤ e.t) (h2 : e.t ≤ high) : (entB e && inB e.t low high && X) = X := by
  rw [h, (inB_iff _ _ _).2 ⟨h1, h2⟩]; rfl
theorem prev_step (low : Int) (l : List Ent) (k : Nat) (h : k < l.length) : (if k + 1 = 0 then low else (l[k + 1 - 1]?.map Ent.t).getD 0) = l[k].t := by simp [h]

set_option maxHeartbeats 8000000 in
set_option maxRecDepth 100000 in
theorem l1rising_any (ev : Value) (low high : Int) (l : List Ent) (w : World) (hv : Es w ev l) (hll : l.length ≤ 1048576) :
    Calls Tryz.prog 26 #[ev, .int .i64 low, .int .i64 high] w fun r w' => r = .returned (.bool (fitL high low l)) ∧ Below w.heap.size w w' := by
  obtain ⟨hl, hf, a, cap, rfl, hc⟩ := hv
  go_enter Tryz.func26, Tryz.ntmps26
  go_wp2
  go_loopw [7] (fun i wr => ∃ k : Nat, k ≤ l.length ∧ i = .int .i64 k ∧ fitL high low l = fitL high (if k = 0 then low else (l[k - 1]?.map Ent.t).getD 0) (l.drop k) ∧ Below w.heap.size w wr) (fun i _ => l.length - (intOf i).toNat)
  case atStart => exact ⟨0, Nat.zero_le _, rfl, by simp, Below.refl _ _⟩
  case round =>
    obtain ⟨k, hk, rfl, hfl, hB⟩ := hrel
    have HF : Hid (fitL high low l = fitL high (if k = 0 then low else (l[k - 1]?.map Ent.t).getD 0) (l.drop k)) := hfl
    have hz := hB.size
    clear hfl
    by_cases hlt : k < l.length
    · obtain ⟨b, off, rfl, hj⟩ := hc k hlt
      have hfk := hf l[k] (List.getElem_mem hlt)
      have HD : ∀ x, Hid (fitL high x (l.drop k) = (entB l[k] && inB l[k].t x high && fitL high l[k].t (l.drop (k + 1)))) := fun x => fitL_drop high x l k hlt
      have HP : Hid ((if k + 1 = 0 then low else (l[k + 1 - 1]?.map Ent.t).getD 0) = l[k].t) := prev_step low l k hlt
      by_cases h0 : k = 0
      · subst h0
        obtain ⟨c0, c1, c2, c3, c4, c5, c6⟩ := (hj 0 hlt).below hB
        have hlow : (if (0 : Nat) = 0 then low else (l[0 - 1]?.map Ent.t).getD 0) = low := rfl
        rw [hlow] at HF
        clear hc hj hlow
        simp only [Nat.zero_mul, Nat.add_zero] at c0 c1 c2 c3 c4 c5 c6
        generalize l[0] = e at *
        go_wp2_with (go_at_call 51; refine (entryOk_any e hfk _).mono ?_; rintro r w1 ⟨rfl, hb⟩; obtain ⟨hc1, hf1⟩ := bcell hb; have hbl := cell_lt c0)
        · go_ret
          exact ⟨ret_bool (by rw [HF.out, (HD _).out, fit_no]; go_light; cases hE : entB e <;> simp_all <;> omega), hB.trans (hb.mono hz)⟩
        · go_ret
          exact ⟨ret_bool (by rw [HF.out, (HD _).out, fit_no]; go_light; cases hE : entB e <;> simp_all <;> omega), hB.trans (hb.mono hz)⟩
        · go_quiet (fail)
          go_wp2
          go_roundw
          case rel => exact ⟨0 + 1, by omega, by go_num, by rw [HF.out, (HD _).out, HP.out, fit_yes] <;> (go_light; cases hE : entB e <;> simp_all <;> omega), hB.trans ((hb.mono hz).trans ⟨rfl, rfl, rfl, Nat.le_refl _, fun _ _ => rfl⟩)⟩
          case measure => simp [intOf]; omega
        · go_ret
          exact ⟨ret_bool (by rw [HF.out, (HD _).out, fit_no]; go_light; cases hE : entB e <;> simp_all <;> omega), hB.trans (hb.mono hz)⟩
      · obtain ⟨j, rfl⟩ : ∃ j, k = j + 1 := ⟨k - 1, by omega⟩
        have hp : j < l.length := by omega
        have hprev : (if j + 1 = 0 then low else (l[j + 1 - 1]?.map Ent.t).getD 0) = l[j].t := prev_step low l j hp
        rw [hprev] at HF
        obtain ⟨c0, c1, c2, c3, c4, c5, c6⟩ := (hj (j + 1) hlt).below hB
        obtain ⟨p0, _⟩ := (hj j hp).below hB
        have hbl := cell_lt c0
        clear hc hj hprev h0
        generalize l[j] = pe at *
        generalize l[j + 1] = e at *
        go_wp2_with (go_at_call 51; refine (entryOk_any e hfk _).mono ?_; rintro r w1 ⟨rfl, hb⟩; obtain ⟨hc1, hf1⟩ := bcell hb)
        · go_ret
          exact ⟨ret_bool (by rw [HF.out, (HD _).out, fit_no]; go_light; cases hE : entB e <;> simp_all <;> omega), hB.trans (hb.mono hz)⟩
        · go_quiet (fail)
          go_wp2
          · go_ret
            exact ⟨ret_bool (by rw [HF.out, (HD _).out, fit_no]; go_light; cases hE : entB e <;> simp_all <;> omega), hB.trans ((hb.mono hz).trans ⟨rfl, rfl, rfl, Nat.le_refl _, fun _ _ => rfl⟩)⟩
          · go_roundw
            case rel => exact ⟨j + 1 + 1, by omega, by go_num, by rw [HF.out, (HD _).out, HP.out, fit_yes] <;> (go_light; cases hE : entB e <;> simp_all <;> omega), hB.trans ((hb.mono hz).trans ⟨rfl, rfl, rfl, Nat.le_refl _, fun _ _ => rfl⟩)⟩
            case measure => simp [intOf]; omega
        · go_ret
          exact ⟨ret_bool (by rw [HF.out, (HD _).out, fit_no]; go_light; cases hE : entB e <;> simp_all <;> omega), hB.trans (hb.mono hz)⟩
    · have hd : l.drop k = [] := List.drop_of_length_le (by omega)
      go_wp2
      go_ret
      exact ⟨ret_bool (by rw [HF.out, hd]; rfl), hB⟩
end Go.Proofs.YtafmjckpbcijoaaGreatDoor

/-
  impl.endsFit, impl.positionFits, impl.marksFit, impl.entryFits, spec.l1entryOk.
-/
namespace Go.Proofs.YtafmjckpbcijoaaGreatDoor
open Go.RowKit
set_option linter.unusedVariables false

def endsB (fr to : Int) : Bool := inB fr 1 7 && inB to 1 7 && (fr != to)
def posB (ki tm li lt : Int) : Bool :=
  if ki = 1 ∨ ki = 3 ∨ ki = 5 then inB li 0 4096 && inB lt 0 tm && ((lt == 0) == (li == 0))
  else if ki = 6 then inB li 0 4096 && (lt == 0) else (li == 0) && (lt == 0)
def marksB (ki cm ok hi : Int) : Bool :=
  inB cm 0 (if ki = 5 then 4096 else 0) && inB ok 0 (if ki = 2 ∨ ki = 4 ∨ ki = 6 then 1 else 0) && inB hi 0 (if ki = 6 ∧ ok = 0 then 4096 else 0)


set_option maxHeartbeats 2000000 in
theorem endsFit_any (ki fr to tm li lt cm ok hi : Int) (ev : Value) (w : World) :
    Calls Tryz.prog 119 #[.agg #[.int .i64 ki, .int .i64 fr, .int .i64 to, .int .i64 tm, .int .i64 li, .int .i64 lt, .int .i64 cm, .int .i64 ok, .int .i64 hi, ev]] w fun r w' => r = .returned (.bool (endsB fr to)) ∧ Below w.heap.size w w' := by
  go_enter Tryz.func119, Tryz.ntmps119
  go_wp2_with (go_at_call 52; refine (within_any _ _ _ _).mono ?_; rintro e w' ⟨rfl, rfl⟩)
  all_goals go_ret
  all_goals refine ⟨ret_bool ?_, (Below.refl _ _).alloc (Nat.le_refl _) _⟩
  all_goals (go_light; simp_all [endsB])

set_option maxHeartbeats 2000000 in
theorem positionFits_any (ki fr to tm li lt cm ok hi : Int) (ev : Value) (w : World) :
    Calls Tryz.prog 120 #[.agg #[.int .i64 ki, .int .i64 fr, .int .i64 to, .int .i64 tm, .int .i64 li, .int .i64 lt, .int .i64 cm, .int .i64 ok, .int .i64 hi, ev]] w fun r w' => r = .returned (.bool (posB ki tm li lt)) ∧ Below w.heap.size w w' := by
  go_enter Tryz.func120, Tryz.ntmps120
  go_wp2_with (go_at_call 52; refine (within_any _ _ _ _).mono ?_; rintro e w' ⟨rfl, rfl⟩)
  all_goals go_ret
  all_goals refine ⟨ret_bool ?_, (Below.refl _ _).alloc (Nat.le_refl _) _⟩
  all_goals (go_light; simp_all [posB])

set_option maxHeartbeats 2000000 in
theorem marksFit_any (ki fr to tm li lt cm ok hi : Int) (ev : Value) (w : World) :
    Calls Tryz.prog 121 #[.agg #[.int .i64 ki, .int .i64 fr, .int .i64 to, .int .i64 tm, .int .i64 li, .int .i64 lt, .int .i64 cm, .int .i64 ok, .int .i64 hi, ev]] w fun r w' => r = .returned (.bool (marksB ki cm ok hi)) ∧ Below w.heap.size w w' := by
  go_enter Tryz.func121, Tryz.ntmps121
  go_wp2_with (go_at_call 52; refine (within_any _ _ _ _).mono ?_; rintro e w' ⟨rfl, rfl⟩)
  all_goals go_ret
  all_goals refine ⟨ret_bool ?_, (Below.refl _ _).alloc (Nat.le_refl _) _⟩
  all_goals (go_light; simp_all [marksB])

def entsB (ki li lt tm : Int) (l : List Ent) : Bool :=
  if ki = 5 then decide (l.length ≤ 32) && decide (li + l.length ≤ 4096) && fitL tm lt l else decide (l.length = 0)

end Go.Proofs.YtafmjckpbcijoaaGreatDoor

/-
  impl.entriesFit.
-/
namespace Go.Proofs.YtafmjckpbcijoaaGreatDoor
open Go.RowKit
set_option linter.unusedVariables false

set_option maxHeartbeats 8000000 in
set_option maxRecDepth 100000 in
theorem entriesFit_any (ki fr to tm li lt cm ok hi : Int) (ev : Value) (l : List Ent) (w : World) (hv : Es w ev l) (hli : 0 ≤ li) (hli' : li ≤ 1000000) (hll : l.length ≤ 1048576) :
    Calls Tryz.prog 122 #[.agg #[.int .i64 ki, .int .i64 fr, .int .i64 to, .int .i64 tm, .int .i64 li, .int .i64 lt, .int .i64 cm, .int .i64 ok, .int .i64 hi, ev]] w fun r w' => r = .returned (.bool (entsB ki li lt tm l)) ∧ Below w.heap.size w w' := by
  have HV : Hid (Es w ev l) := hv
  obtain ⟨hl, hf, a, cap, rfl, hc⟩ := hv
  clear hc hf
  by_cases h5 : ki = 5
  · subst h5
    by_cases h32 : l.length ≤ 32
    · by_cases h40 : li + l.length ≤ 4096
      · have hE : entsB 5 li lt tm l = fitL tm lt l := by simp [entsB, h32, h40]
        rw [hE]
        clear hE
        go_enter Tryz.func122, Tryz.ntmps122
        go_wp2_with (go_at_call 125; refine (entriesRise_any _ lt tm l _ (HV.out.below ((Below.refl _ _).alloc (Nat.le_refl _) _)) hll).mono ?_; rintro r w1 ⟨rfl, hb⟩)
        go_ret
        exact ⟨rfl, ((Below.refl _ _).alloc (Nat.le_refl _) _).trans (hb.mono (by simp))⟩
      · have hE : entsB 5 li lt tm l = false := by simp [entsB, h40]
        have hd : decide (4096 < li + l.length) = true := by simp; omega
        rw [hE]
        go_enter Tryz.func122, Tryz.ntmps122
        go_wp2
        go_ret
        exact ⟨rfl, (Below.refl _ _).alloc (Nat.le_refl _) _⟩
    · have hE : entsB 5 li lt tm l = false := by simp [entsB, h32]
      rw [hE]
      go_enter Tryz.func122, Tryz.ntmps122
      go_wp2
      go_ret
      exact ⟨rfl, (Below.refl _ _).alloc (Nat.le_refl _) _⟩
  · have n5 : (ki != 5) = true := by simpa using h5
    go_enter Tryz.func122, Tryz.ntmps122
    go_wp2
    go_ret
    exact ⟨ret_bool (by rw [entsB, if_neg h5]; first | rfl | (simp; done) | (rw [Bool.eq_iff_iff]; simp)), (Below.refl _ _).alloc (Nat.le_refl _) _⟩

end Go.Proofs.YtafmjckpbcijoaaGreatDoor

/-
  MsgFault, both.
-/
namespace Go.Proofs.YtafmjckpbcijoaaGreatDoor
open Go.RowKit
set_option linter.unusedVariables false

/-- the fault of a message -/
def msgF (ki fr to tm li lt cm ok hi : Int) (l : List Ent) : Int :=
  if inB ki 1 6 = false then 1 else if endsB fr to = false then 2 else if inB tm 1 1073741824 = false then 3
  else if posB ki tm li lt = false then 4 else if marksB ki cm ok hi = false then 5 else if entsB ki li lt tm l = false then 6 else 0

theorem posB_li {ki tm li lt : Int} (h : posB ki tm li lt = true) : 0 ≤ li ∧ li ≤ 4096 := by
  unfold posB at h
  split at h
  · simp [inB] at h; omega
  · split at h
    · simp [inB] at h; omega
    · simp at h; omega

set_option maxHeartbeats 4000000 in
set_option maxRecDepth 100000 in
theorem implMsgFault_any (ki fr to tm li lt cm ok hi : Int) (ev : Value) (l : List Ent) (w : World) (hv : Es w ev l) (hll : l.length ≤ 1048576) :
    Calls Tryz.prog 116 #[.agg #[.int .i64 ki, .int .i64 fr, .int .i64 to, .int .i64 tm, .int .i64 li, .int .i64 lt, .int .i64 cm, .int .i64 ok, .int .i64 hi, ev]] w fun r w' => r = .returned (.int .i64 (msgF ki fr to tm li lt cm ok hi l)) ∧ Below w.heap.size w w' := by
  have hV : Hid (Es w ev l) := hv
  obtain ⟨hl, hf, a, cap, rfl, hc⟩ := hv
  clear hc
  have hB : Below w.heap.size w (w.alloc (.cells #[.int .i64 ki, .int .i64 fr, .int .i64 to, .int .i64 tm, .int .i64 li, .int .i64 lt, .int .i64 cm, .int .i64 ok, .int .i64 hi, .slice a l.length cap] 27)) := (Below.refl _ _).alloc (Nat.le_refl _) _
  have hz : w.heap.size < (w.alloc (.cells #[.int .i64 ki, .int .i64 fr, .int .i64 to, .int .i64 tm, .int .i64 li, .int .i64 lt, .int .i64 cm, .int .i64 ok, .int .i64 hi, .slice a l.length cap] 27)).heap.size := by simp
  go_enter Tryz.func116, Tryz.ntmps116
  go_wp2_with (first
    | (go_at_call 52; refine (within_any _ _ _ _).mono ?_; rintro r w' ⟨rfl, rfl⟩)
    | (go_at_call 119; refine (endsFit_any _ _ _ _ _ _ _ _ _ _ _).mono ?_; rintro r w1 ⟨rfl, hb⟩; obtain ⟨hc1, hf1⟩ := bcell hb; replace hB := hB.trans (hb.mono (by omega)); have hz := Nat.lt_of_lt_of_le hz hb.size)
    | (go_at_call 120; refine (positionFits_any _ _ _ _ _ _ _ _ _ _ _).mono ?_; rintro r w2 ⟨rfl, hb⟩; obtain ⟨hc2, hf2⟩ := bcell hb; replace hB := hB.trans (hb.mono (by omega)); have hz := Nat.lt_of_lt_of_le hz hb.size)
    | (go_at_call 121; refine (marksFit_any _ _ _ _ _ _ _ _ _ _ _).mono ?_; rintro r w3 ⟨rfl, hb⟩; obtain ⟨hc3, hf3⟩ := bcell hb; replace hB := hB.trans (hb.mono (by omega)); have hz := Nat.lt_of_lt_of_le hz hb.size)
    | (go_at_call 122; have hp : posB ki tm li lt = true := (by have : (!posB ki tm li lt) = false := (by assumption); simpa using this); obtain ⟨p1, p2⟩ := posB_li hp; refine (entriesFit_any _ _ _ _ _ _ _ _ _ _ l _ (hV.out.below hB) p1 (by omega) hll).mono ?_; rintro r w4 ⟨rfl, hb⟩; replace hB := hB.trans (hb.mono (by omega))))
  all_goals go_ret
  all_goals refine ⟨ret_int ?_, hB⟩
  all_goals (clear hB hV; go_light; simp_all [msgF])
end Go.Proofs.YtafmjckpbcijoaaGreatDoor
