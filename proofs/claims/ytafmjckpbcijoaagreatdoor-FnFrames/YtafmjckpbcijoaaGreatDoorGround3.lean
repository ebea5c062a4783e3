import Derived.Test.YtafmjckpbcijoaaGreatDoorGround2
import Derived.Deep.QuietTactic
import Derived.BigQuiet
import Derived.Test.YtafmjckpbcijoaaGreatDoorGround
import Derived.LaidEql
import Derived.Stop.Asserts
import Derived.RowKitTokens
import Derived.Lib.SliceRun
import Derived.Deep.RegionWith
import Derived.Laws.BytesArg
/-
  impl.endsFit, impl.positionFits, impl.marksFit, impl.entryFits, spec.l1entryOk.
-/
namespace Go.Proofs.YtafmjckpbcijoaaGreatDoor
open Go.RowKit
set_option linter.unusedVariables false

def endsB (fr tq : Int) : Bool := inB fr 1 7 && inB tq 1 7 && (fr != tq)
def posB (ki tm li lt : Int) : Bool :=
  if ki = 1 ∨ ki = 3 ∨ ki = 5 then inB li 0 4096 && inB lt 0 tm && ((lt == 0) == (li == 0))
  else if ki = 6 then inB li 0 4096 && (lt == 0) else (li == 0) && (lt == 0)
def marksB (ki cm ok hi : Int) : Bool :=
  inB cm 0 (if ki = 5 then 4096 else 0) && inB ok 0 (if ki = 2 ∨ ki = 4 ∨ ki = 6 then 1 else 0) && inB hi 0 (if ki = 6 ∧ ok = 0 then 4096 else 0)


set_option maxHeartbeats 2000000 in
theorem endsFit_any (ki fr tq tm li lt cm ok hi : Int) (ev : Value) (w : World) :
    Calls Tryz.prog 119 #[.agg #[.int .i64 ki, .int .i64 fr, .int .i64 tq, .int .i64 tm, .int .i64 li, .int .i64 lt, .int .i64 cm, .int .i64 ok, .int .i64 hi, ev]] w fun r w' => r = .returned (.bool (endsB fr tq)) ∧ Below w.heap.size w w' := by
  go_enter Tryz.func119, Tryz.ntmps119
  go_wp2_with (go_at_call 52; refine (within_any _ _ _ _).mono ?_; rintro e w' ⟨rfl, rfl⟩)
  all_goals go_ret
  all_goals refine ⟨ret_bool ?_, (Below.refl _ _).alloc (Nat.le_refl _) _⟩
  all_goals (go_light; simp_all [endsB])

set_option maxHeartbeats 2000000 in
theorem positionFits_any (ki fr tq tm li lt cm ok hi : Int) (ev : Value) (w : World) :
    Calls Tryz.prog 120 #[.agg #[.int .i64 ki, .int .i64 fr, .int .i64 tq, .int .i64 tm, .int .i64 li, .int .i64 lt, .int .i64 cm, .int .i64 ok, .int .i64 hi, ev]] w fun r w' => r = .returned (.bool (posB ki tm li lt)) ∧ Below w.heap.size w w' := by
  go_enter Tryz.func120, Tryz.ntmps120
  go_wp2_with (go_at_call 52; refine (within_any _ _ _ _).mono ?_; rintro e w' ⟨rfl, rfl⟩)
  all_goals go_ret
  all_goals refine ⟨ret_bool ?_, (Below.refl _ _).alloc (Nat.le_refl _) _⟩
  all_goals (go_light; simp_all [posB])

set_option maxHeartbeats 2000000 in
theorem marksFit_any (ki fr tq tm li lt cm ok hi : Int) (ev : Value) (w : World) :
    Calls Tryz.prog 121 #[.agg #[.int .i64 ki, .int .i64 fr, .int .i64 tq, .int .i64 tm, .int .i64 li, .int .i64 lt, .int .i64 cm, .int .i64 ok, .int .i64 hi, ev]] w fun r w' => r = .returned (.bool (marksB ki cm ok hi)) ∧ Below w.heap.size w w' := by
  go_enter Tryz.func121, Tryz.ntmps121
  go_wp2_with (go_at_call 52; refine (within_any _ _ _ _).mono ?_; rintro e w' ⟨rfl, rfl⟩)
  all_goals go_ret
  all_goals refine ⟨ret_bool ?_, (Below.refl _ _).alloc (Nat.le_refl _) _⟩
  all_goals (go_light; simp_all [marksB])

def entsB (ki li lt tm : Int) (l : List Ent) : Bool :=
  if ki = 5 then decide (l.length ≤ 32) && decide (li + l.length ≤ 4096) && fitL tm lt l else decide (l.length = 0)

end Go.Proofs.YtafmjckpbcijoaaGreatDoor

/-
  impl.entriesFit.
-/
namespace Go.Proofs.YtafmjckpbcijoaaGreatDoor
open Go.RowKit
set_option linter.unusedVariables false

set_option maxHeartbeats 8000000 in
set_option maxRecDepth 100000 in
theorem entriesFit_any (ki fr tq tm li lt cm ok hi : Int) (ev : Value) (l : List Ent) (w : World) (hv : Es w ev l) (hli : 0 ≤ li) (hli' : li ≤ 1000000) (hll : l.length ≤ 1048576) :
    Calls Tryz.prog 122 #[.agg #[.int .i64 ki, .int .i64 fr, .int .i64 tq, .int .i64 tm, .int .i64 li, .int .i64 lt, .int .i64 cm, .int .i64 ok, .int .i64 hi, ev]] w fun r w' => r = .returned (.bool (entsB ki li lt tm l)) ∧ Below w.heap.size w w' := by
  have HV : Hid (Es w ev l) := hv
  obtain ⟨hl, hf, a, cap, rfl, hc⟩ := hv
  clear hc hf
  by_cases h5 : ki = 5
  · subst h5
    by_cases h32 : l.length ≤ 32
    · by_cases h40 : li + l.length ≤ 4096
      · have hE : entsB 5 li lt tm l = fitL tm lt l := by simp [entsB, h32, h40]
        rw [hE]
        clear hE
        go_enter Tryz.func122, Tryz.ntmps122
        go_wp2_with (go_at_call 125; refine (entriesRise_any _ lt tm l _ (HV.out.below ((Below.refl _ _).alloc (Nat.le_refl _) _)) hll).mono ?_; rintro r w1 ⟨rfl, hb⟩)
        go_ret
        exact ⟨rfl, ((Below.refl _ _).alloc (Nat.le_refl _) _).trans (hb.mono (by simp))⟩
      · have hE : entsB 5 li lt tm l = false := by simp [entsB, h40]
        have hd : decide (4096 < li + l.length) = true := by simp; omega
        rw [hE]
        go_enter Tryz.func122, Tryz.ntmps122
        go_wp2
        go_ret
        exact ⟨rfl, (Below.refl _ _).alloc (Nat.le_refl _) _⟩
    · have hE : entsB 5 li lt tm l = false := by simp [entsB, h32]
      rw [hE]
      go_enter Tryz.func122, Tryz.ntmps122
      go_wp2
      go_ret
      exact ⟨rfl, (Below.refl _ _).alloc (Nat.le_refl _) _⟩
  · have n5 : (ki != 5) = true := by simpa using h5
    go_enter Tryz.func122, Tryz.ntmps122
    go_wp2
    go_ret
    exact ⟨ret_bool (by rw [entsB, if_neg h5]; first | rfl | (simp; done) | (rw [Bool.eq_iff_iff]; simp)), (Below.refl _ _).alloc (Nat.le_refl _) _⟩

end Go.Proofs.YtafmjckpbcijoaaGreatDoor

/-
  spec.l1in.
-/
namespace Go.Proofs.YtafmjckpbcijoaaGreatDoor
open Go.RowKit
set_option linter.unusedVariables false

theorem l1in_any (n lo hi : Int) (w : World) :
    Calls Tryz.prog 25 #[.int .i64 n, .int .i64 lo, .int .i64 hi] w fun e w' => e = .returned (.bool (inB n lo hi)) ∧ w' = w := by
  by_cases h1 : lo ≤ n
  · by_cases h2 : n ≤ hi
    · have hb : inB n lo hi = true := by simp [inB, h1, h2]
      rw [hb]
      go_enter Tryz.func25, Tryz.ntmps25
      go_wp2
      go_ret
      exact ⟨rfl, rfl⟩
    · have hb : inB n lo hi = false := by simp [inB, h1]; omega
      rw [hb]
      go_enter Tryz.func25, Tryz.ntmps25
      go_wp2
      go_ret
      exact ⟨by simp, rfl⟩
  · have hb : inB n lo hi = false := by simp [inB]; omega
    rw [hb]
    go_enter Tryz.func25, Tryz.ntmps25
    go_wp2
    go_ret
    exact ⟨rfl, rfl⟩

end Go.Proofs.YtafmjckpbcijoaaGreatDoor

/-
  MsgFault, both.
-/
namespace Go.Proofs.YtafmjckpbcijoaaGreatDoor
open Go.RowKit
set_option linter.unusedVariables false

/-- the fault of a message -/
def msgF (ki fr tq tm li lt cm ok hi : Int) (l : List Ent) : Int :=
  if inB ki 1 6 = false then 1 else if endsB fr tq = false then 2 else if inB tm 1 1073741824 = false then 3
  else if posB ki tm li lt = false then 4 else if marksB ki cm ok hi = false then 5 else if entsB ki li lt tm l = false then 6 else 0

theorem posB_li {ki tm li lt : Int} (h : posB ki tm li lt = true) : 0 ≤ li ∧ li ≤ 4096 := by
  unfold posB at h
  split at h
  · simp [inB] at h; omega
  · split at h
    · simp [inB] at h; omega
    · simp at h; omega

set_option maxHeartbeats 4000000 in
set_option maxRecDepth 100000 in
theorem implMsgFault_any (ki fr tq tm li lt cm ok hi : Int) (ev : Value) (l : List Ent) (w : World) (hv : Es w ev l) (hll : l.length ≤ 1048576) :
    Calls Tryz.prog 116 #[.agg #[.int .i64 ki, .int .i64 fr, .int .i64 tq, .int .i64 tm, .int .i64 li, .int .i64 lt, .int .i64 cm, .int .i64 ok, .int .i64 hi, ev]] w fun r w' => r = .returned (.int .i64 (msgF ki fr tq tm li lt cm ok hi l)) ∧ Below w.heap.size w w' := by
  have hV : Hid (Es w ev l) := hv
  obtain ⟨hl, hf, a, cap, rfl, hc⟩ := hv
  clear hc
  have hB : Below w.heap.size w (w.alloc (.cells #[.int .i64 ki, .int .i64 fr, .int .i64 tq, .int .i64 tm, .int .i64 li, .int .i64 lt, .int .i64 cm, .int .i64 ok, .int .i64 hi, .slice a l.length cap] 27)) := (Below.refl _ _).alloc (Nat.le_refl _) _
  have hz : w.heap.size < (w.alloc (.cells #[.int .i64 ki, .int .i64 fr, .int .i64 tq, .int .i64 tm, .int .i64 li, .int .i64 lt, .int .i64 cm, .int .i64 ok, .int .i64 hi, .slice a l.length cap] 27)).heap.size := by simp
  go_enter Tryz.func116, Tryz.ntmps116
  go_wp2_with (first
    | (go_at_call 52; refine (within_any _ _ _ _).mono ?_; rintro r w' ⟨rfl, rfl⟩)
    | (go_at_call 119; refine (endsFit_any _ _ _ _ _ _ _ _ _ _ _).mono ?_; rintro r w1 ⟨rfl, hb⟩; obtain ⟨hc1, hf1⟩ := bcell hb; replace hB := hB.trans (hb.mono (by omega)); have hz := Nat.lt_of_lt_of_le hz hb.size)
    | (go_at_call 120; refine (positionFits_any _ _ _ _ _ _ _ _ _ _ _).mono ?_; rintro r w2 ⟨rfl, hb⟩; obtain ⟨hc2, hf2⟩ := bcell hb; replace hB := hB.trans (hb.mono (by omega)); have hz := Nat.lt_of_lt_of_le hz hb.size)
    | (go_at_call 121; refine (marksFit_any _ _ _ _ _ _ _ _ _ _ _).mono ?_; rintro r w3 ⟨rfl, hb⟩; obtain ⟨hc3, hf3⟩ := bcell hb; replace hB := hB.trans (hb.mono (by omega)); have hz := Nat.lt_of_lt_of_le hz hb.size)
    | (go_at_call 122; have hp : posB ki tm li lt = true := (by have : (!posB ki tm li lt) = false := (by assumption); simpa using this); obtain ⟨p1, p2⟩ := posB_li hp; refine (entriesFit_any _ _ _ _ _ _ _ _ _ _ l _ (hV.out.below hB) p1 (by omega) hll).mono ?_; rintro r w4 ⟨rfl, hb⟩; replace hB := hB.trans (hb.mono (by omega))))
  all_goals go_ret
  all_goals refine ⟨ret_int ?_, hB⟩
  all_goals (clear hB hV; go_light; simp_all [msgF])
end Go.Proofs.YtafmjckpbcijoaaGreatDoor

/-
  The methods of msgBody, impl.encodeBody at a msgBody, impl.EncodeMsg.
-/
namespace Go.Proofs.YtafmjckpbcijoaaGreatDoor
open Go.RowKit
set_option linter.unusedVariables false

theorem Ints.nine (w : World) (fr tq tm li lt cm ok hi n : Nat) : ∀ j, j < [fr, tq, tm, li, lt, cm, ok, hi, n].length → (w.alloc (.cells #[.int .i64 fr, .int .i64 tq, .int .i64 tm, .int .i64 li, .int .i64 lt, .int .i64 cm, .int .i64 ok, .int .i64 hi, .int .i64 n] 3)).cell? ⟨w.heap.size, j, none⟩ = some (.int .i64 ([fr, tq, tm, li, lt, cm, ok, hi, n][j]?.getD 0 : Nat)) := by
  intro j hj
  rw [World.cell?_alloc_new]
  match j, hj with
  | 0, _ => rfl
  | 1, _ => rfl
  | 2, _ => rfl
  | 3, _ => rfl
  | 4, _ => rfl
  | 5, _ => rfl
  | 6, _ => rfl
  | 7, _ => rfl
  | 8, _ => rfl

/-- the body of a message -/
def msgL (ki fr tq tm li lt cm ok hi : Nat) (l : List Ent) : List Int := (ki : Int) :: (numsL [fr, tq, tm, li, lt, cm, ok, hi, l.length] ++ entsL l)

theorem msgBody_fault_any (ki fr tq tm li lt cm ok hi : Int) (ev : Value) (l : List Ent) (w : World) (hv : Es w ev l) (hll : l.length ≤ 1048576) :
    Calls Tryz.prog 114 #[.agg #[.int .i64 ki, .int .i64 fr, .int .i64 tq, .int .i64 tm, .int .i64 li, .int .i64 lt, .int .i64 cm, .int .i64 ok, .int .i64 hi, ev]] w fun r w' => r = .returned (.int .i64 (msgF ki fr tq tm li lt cm ok hi l)) ∧ Below w.heap.size w w' := by
  have hV : Hid (Es w ev l) := hv
  obtain ⟨hl, hf, a, cap, rfl, hc⟩ := hv
  clear hc hf
  go_enter Tryz.func114, Tryz.ntmps114
  go_wp2_with (go_at_call 116; refine (implMsgFault_any ki fr tq tm li lt cm ok hi _ l _ (hV.out.below ((Below.refl _ _).alloc (Nat.le_refl _) _)) hll).mono ?_; rintro e w1 ⟨rfl, hb⟩)
  go_ret
  exact ⟨rfl, ((Below.refl _ _).alloc (Nat.le_refl _) _).trans (hb.mono (by simp))⟩

set_option maxHeartbeats 8000000 in
set_option maxRecDepth 100000 in
theorem msgBody_put_any (ki fr tq tm li lt cm ok hi : Nat) (ev : Value) (l : List Ent) (w : World) (hv : Es w ev l) (b0 : ki ≤ 6) (b1 : fr ≤ 7) (b2 : tq ≤ 7) (b3 : tm ≤ 1073741824) (b4 : li ≤ 4096) (b5 : lt ≤ 1073741824) (b6 : cm ≤ 4096) (b7 : ok ≤ 1) (b8 : hi ≤ 4096) (hl32 : l.length ≤ 32) (hall : ∀ e ∈ l, entB e = true) :
    Calls Tryz.prog 115 #[.agg #[.int .i64 ki, .int .i64 fr, .int .i64 tq, .int .i64 tm, .int .i64 li, .int .i64 lt, .int .i64 cm, .int .i64 ok, .int .i64 hi, ev], .slice none 0 0] w fun e w' => ∃ v', e = .returned v' ∧ Own w' w.heap.size v' (msgL ki fr tq tm li lt cm ok hi l) ∧ Below w.heap.size w w' := by
  obtain ⟨hl, hf, a, cap, rfl, hc⟩ := hv
  have hn9 : (numsL [fr, tq, tm, li, lt, cm, ok, hi, l.length]).length ≤ 81 := numsL_len [fr, tq, tm, li, lt, cm, ok, hi, l.length] (by simp; omega)
  have hnm : Hid (∀ n ∈ [fr, tq, tm, li, lt, cm, ok, hi, l.length], n < 9223372036854775808) := (by simp; omega : ∀ n ∈ [fr, tq, tm, li, lt, cm, ok, hi, l.length], n < 9223372036854775808)
  go_enter Tryz.func115, Tryz.ntmps115
  go_wp2_with (first
    | (at_builtin; refine wpl_append rfl (.tmp 7) (.tmp 11) rfl (Own.nil _ w.heap.size) rfl (u := .slice (some ⟨w.heap.size + 1, 0, none⟩) 1 1) (l2 := [(ki : Int)]) (Bs.cell1 (by simp [go_sem]) (by omega)) rfl (by simp) (by simp) (by simp; omega) ?_; intro v1 w1 ho1 hg1; have hB1 : Below w.heap.size w w1 := Below.trans ((((Below.refl _ _).alloc (Nat.le_refl _) _).alloc (by simp) _)) (hg1.below (Own.nil _ w.heap.size) (by simp; omega)); have hz1 : w.heap.size < w1.heap.size := (by have := hg1.g.size; simp at this; omega); have hcc := fun (o : Nat) => hg1.cell (k := w.heap.size) (o := o) (by simp; omega) (by simp [Value.ownBlock]); have f1 : v1.ownBlock ≠ some w.heap.size := hg1.far (by simp; omega) (by simp [Value.ownBlock]); have n1 := ho1.ne (Nat.le_refl _); replace ho1 := ho1.below ((Below.refl w1.heap.size w1).alloc (Nat.le_refl _) (.cells #[.int .i64 fr, .int .i64 tq, .int .i64 tm, .int .i64 li, .int .i64 lt, .int .i64 cm, .int .i64 ok, .int .i64 hi, .int .i64 (l.length : Nat)] 3)); have hI := Ints.nine w1 fr tq tm li lt cm ok hi l.length)
    | (go_at_call 117; refine (putNumbers_any _ _ [fr, tq, tm, li, lt, cm, ok, hi, l.length] w1.heap.size 9 _ w.heap.size ho1 (by simp; omega) (by simp) hnm.out (by simp) hI n1).mono ?_; rintro e w2 ⟨v2, rfl, ho2, hg2⟩; have hB2 := hB1.trans (((Below.refl _ _).alloc (by omega) _).trans (hg2.below ho1 (by simp; omega))); have hz2 : w.heap.size < w2.heap.size := (by have := hg2.g.size; simp at this; omega); have hdd := fun (o : Nat) => hg2.cell (k := w.heap.size) (o := o) (by simp; omega) f1; clear hI))
  go_loopw [1, 38] (fun o i wr => ∃ k : Nat, k ≤ l.length ∧ i = .int .i64 k ∧ Own wr w.heap.size o ([] ++ [(ki : Int)] ++ numsL [fr, tq, tm, li, lt, cm, ok, hi, l.length] ++ entsL (l.take k)) ∧ Below w.heap.size w wr) (fun _ i _ => l.length - (intOf i).toNat)
  case atStart => exact ⟨0, Nat.zero_le _, rfl, by simpa [entsL] using ho2, hB2⟩
  case round =>
    obtain ⟨k, hk, rfl, ho, hB⟩ := hrel
    have hz := hB.size
    by_cases hlt : k < l.length
    · obtain ⟨b, off, rfl, hj⟩ := hc k hlt
      obtain ⟨c0, c1, c2, c3, c4, c5, c6⟩ := (hj k hlt).below hB
      have hlen := entsL_len (l.take k) (fun e he => hall e (List.mem_of_mem_take he))
      rw [List.length_take] at hlen
      have HS : Hid (entsL (l.take (k + 1)) = entsL (l.take k) ++ entL l[k]) := entsL_snoc l k hlt
      obtain ⟨t, cl, sq, op, ky, vl, od, he, d0, d1, d2, d3, d4, d5, d6, hE⟩ := entB_nat (hall l[k] (List.getElem_mem hlt))
      rw [hE] at HS
      rw [he] at c0 c1 c2 c3 c4 c5 c6
      clear hc hj hE he hg1 hg2 ho1 ho2 hcc hdd hB1 hB2
      have hO : ∀ ob : Obj, Own (wr.alloc ob) w.heap.size _ _ := fun ob => ho.below ((Below.refl _ _).alloc (Nat.le_refl _) ob)
      go_wp2_with (go_at_call 118; refine (putEntry_nat _ _ t cl sq op ky vl od _ w.heap.size (hO _) (by simp; omega) (by simp; omega) d0 d1 d2 d3 d4 d5 d6).mono ?_; rintro e w3 ⟨v3, rfl, ho3, hg3⟩)
      go_roundw
      case rel => exact ⟨k + 1, by omega, by go_num, by rw [HS.out, ← List.append_assoc]; exact ho3, hB.trans (((Below.refl _ _).alloc (by omega) _).trans (hg3.below (hO _) (by simp; omega)))⟩
      case measure => simp [intOf]; omega
    · have e : l.take k = l := List.take_of_length_le (by omega)
      rw [e] at ho
      go_wp2
      go_ret
      exact ⟨_, rfl, by simpa [msgL] using ho, hB⟩

theorem meth_msg_fault (x : Value) (w : World) : (method 300 63 x "loop.example/s01586/impl.fault").run Tryz.prog w = .ok (114, x) w := by kernel_rfl
theorem meth_msg_put (x : Value) (w : World) : (method 300 63 x "loop.example/s01586/impl.put").run Tryz.prog w = .ok (115, x) w := by kernel_rfl

theorem msgF_ok {ki fr tq tm li lt cm ok hi : Int} {l : List Ent} (h : msgF ki fr tq tm li lt cm ok hi l = 0) :
    (1 ≤ ki ∧ ki ≤ 6) ∧ (1 ≤ fr ∧ fr ≤ 7) ∧ (1 ≤ tq ∧ tq ≤ 7) ∧ (1 ≤ tm ∧ tm ≤ 1073741824) ∧ (0 ≤ li ∧ li ≤ 4096) ∧ (0 ≤ lt ∧ lt ≤ tm) ∧ (0 ≤ cm ∧ cm ≤ 4096) ∧ (0 ≤ ok ∧ ok ≤ 1) ∧ (0 ≤ hi ∧ hi ≤ 4096) ∧ l.length ≤ 32 ∧ ∀ e ∈ l, entB e = true := by
  unfold msgF at h
  by_cases h1 : inB ki 1 6 = false
  · rw [if_pos h1] at h; omega
  rw [if_neg h1] at h
  by_cases h2 : endsB fr tq = false
  · rw [if_pos h2] at h; omega
  rw [if_neg h2] at h
  by_cases h3 : inB tm 1 1073741824 = false
  · rw [if_pos h3] at h; omega
  rw [if_neg h3] at h
  by_cases h4 : posB ki tm li lt = false
  · rw [if_pos h4] at h; omega
  rw [if_neg h4] at h
  by_cases h5 : marksB ki cm ok hi = false
  · rw [if_pos h5] at h; omega
  rw [if_neg h5] at h
  by_cases h6 : entsB ki li lt tm l = false
  · rw [if_pos h6] at h; omega
  simp only [Bool.not_eq_false] at h1 h2 h3 h4 h5 h6
  rw [inB_iff] at h1 h3
  simp only [endsB, Bool.and_eq_true, inB_iff] at h2
  have hp := posB_li h4
  have hlt : 0 ≤ lt ∧ lt ≤ tm := by
    unfold posB at h4
    split at h4
    · simp only [Bool.and_eq_true, inB_iff] at h4; exact h4.1.2
    · split at h4
      · simp only [Bool.and_eq_true, beq_iff_eq] at h4; omega
      · simp only [Bool.and_eq_true, beq_iff_eq] at h4; omega
  simp only [marksB, Bool.and_eq_true, inB_iff] at h5
  have hcm : cm ≤ 4096 := by have := h5.1.1.2; split at this <;> omega
  have hok : ok ≤ 1 := by have := h5.1.2.2; split at this <;> omega
  have hhi : hi ≤ 4096 := by have := h5.2.2; split at this <;> omega
  have hE : l.length ≤ 32 ∧ ∀ e ∈ l, entB e = true := by
    unfold entsB at h6
    split at h6
    · simp only [Bool.and_eq_true, decide_eq_true_eq] at h6
      exact ⟨h6.1.1, fitL_all l lt h6.2⟩
    · simp only [decide_eq_true_eq] at h6
      have : l = [] := List.eq_nil_of_length_eq_zero h6
      subst this
      exact ⟨by simp, by simp⟩
  exact ⟨h1, h2.1.1, h2.1.2, h3, hp, hlt, ⟨h5.1.1.1, hcm⟩, ⟨h5.1.2.1, hok⟩, ⟨h5.2.1, hhi⟩, hE.1, hE.2⟩

theorem msgL_len (ki fr tq tm li lt cm ok hi : Nat) (l : List Ent) (h : ∀ n ∈ [fr, tq, tm, li, lt, cm, ok, hi, l.length], n < 9223372036854775808) (hl32 : l.length ≤ 32) (hall : ∀ e ∈ l, entB e = true) : 0 < (msgL ki fr tq tm li lt cm ok hi l).length ∧ (msgL ki fr tq tm li lt cm ok hi l).length ≤ 11000 := by
  have hn9 : (numsL [fr, tq, tm, li, lt, cm, ok, hi, l.length]).length ≤ 81 := numsL_len _ h
  have he := entsL_len l hall
  simp only [msgL, List.length_cons, List.length_append]
  omega

/-- what EncodeMsg answers -/
def encMsg (ki fr tq tm li lt cm ok hi : Int) (l : List Ent) : List Int := if msgF ki fr tq tm li lt cm ok hi l = 0 then frameL (msgL ki.toNat fr.toNat tq.toNat tm.toNat li.toNat lt.toNat cm.toNat ok.toNat hi.toNat l) else []

set_option maxHeartbeats 4000000 in
set_option maxRecDepth 100000 in
theorem encodeBody_msg (ki fr tq tm li lt cm ok hi : Int) (ev : Value) (l : List Ent) (w : World) (hv : Es w ev l) (hll : l.length ≤ 1048576) :
    Calls Tryz.prog 29 #[.iface 63 (.agg #[.int .i64 ki, .int .i64 fr, .int .i64 tq, .int .i64 tm, .int .i64 li, .int .i64 lt, .int .i64 cm, .int .i64 ok, .int .i64 hi, ev])] w fun e w' => ∃ v', e = .returned v' ∧ Own w' w.heap.size v' (encMsg ki fr tq tm li lt cm ok hi l) ∧ Below w.heap.size w w' := by
  have m1 := meth_msg_fault (.agg #[.int .i64 ki, .int .i64 fr, .int .i64 tq, .int .i64 tm, .int .i64 li, .int .i64 lt, .int .i64 cm, .int .i64 ok, .int .i64 hi, ev])
  have m2 := meth_msg_put (.agg #[.int .i64 ki, .int .i64 fr, .int .i64 tq, .int .i64 tm, .int .i64 li, .int .i64 lt, .int .i64 cm, .int .i64 ok, .int .i64 hi, ev])
  have hV : Hid (Es w ev l) := hv
  clear hv
  by_cases hF : msgF ki fr tq tm li lt cm ok hi l = 0
  · rw [encMsg, if_pos hF]
    obtain ⟨⟨a1, a2⟩, ⟨a3, a4⟩, ⟨a5, a6⟩, ⟨a7, a8⟩, ⟨a9, a10⟩, ⟨a11, a12⟩, ⟨a13, a14⟩, ⟨a15, a16⟩, ⟨a17, a18⟩, hl32, hall⟩ := msgF_ok hF
    obtain ⟨ki, rfl⟩ := Int.eq_ofNat_of_zero_le (show 0 ≤ ki by omega)
    obtain ⟨fr, rfl⟩ := Int.eq_ofNat_of_zero_le (show 0 ≤ fr by omega)
    obtain ⟨tq, rfl⟩ := Int.eq_ofNat_of_zero_le (show 0 ≤ tq by omega)
    obtain ⟨tm, rfl⟩ := Int.eq_ofNat_of_zero_le (show 0 ≤ tm by omega)
    obtain ⟨li, rfl⟩ := Int.eq_ofNat_of_zero_le a9
    obtain ⟨lt, rfl⟩ := Int.eq_ofNat_of_zero_le a11
    obtain ⟨cm, rfl⟩ := Int.eq_ofNat_of_zero_le a13
    obtain ⟨ok, rfl⟩ := Int.eq_ofNat_of_zero_le a15
    obtain ⟨hi, rfl⟩ := Int.eq_ofNat_of_zero_le a17
    simp only [Int.toNat_natCast]
    obtain ⟨hp, hlen⟩ := msgL_len ki fr tq tm li lt cm ok hi l (by simp; omega) hl32 hall
    have HA : Hid (∀ e ∈ l, entB e = true) := hall
    clear hall
    go_enter Tryz.func29, Tryz.ntmps29
    go_wp2_with (first
      | (go_at_call 114; refine (msgBody_fault_any _ _ _ _ _ _ _ _ _ ev l _ hV.out hll).mono ?_; rintro e w1 ⟨rfl, hb1⟩; rw [hF])
      | (go_at_call 115; refine (msgBody_put_any ki fr tq tm li lt cm ok hi ev l _ (hV.out.below hb1) (by omega) (by omega) (by omega) (by omega) (by omega) (by omega) (by omega) (by omega) (by omega) hl32 HA.out).mono ?_; rintro e w2 ⟨v2, rfl, ho2, hb2⟩; have hz := hb1.size)
      | (go_at_call 55; refine (sealFrame_any _ _ _ (ho2.bs (by unfold maxLen; omega)) hp (by omega)).mono ?_; rintro e w3 ⟨v3, rfl, ho3, hb3⟩; have hz2 := hb2.size))
    go_ret
    exact ⟨_, rfl, ho3.le (by omega), hb1.trans ((hb2.mono (by omega)).trans (hb3.mono (by omega)))⟩
  · rw [encMsg, if_neg hF]
    have hF' : (msgF ki fr tq tm li lt cm ok hi l != 0) = true := by simpa using hF
    go_enter Tryz.func29, Tryz.ntmps29
    go_wp2_with (go_at_call 114; refine (msgBody_fault_any _ _ _ _ _ _ _ _ _ ev l _ hV.out hll).mono ?_; rintro e w1 ⟨rfl, hb1⟩)
    go_ret
    exact ⟨_, rfl, Own.nil _ _, hb1⟩

set_option maxHeartbeats 1000000 in
theorem implEncodeMsg_any (ki fr tq tm li lt cm ok hi : Int) (ev : Value) (l : List Ent) (w : World) (hv : Es w ev l) (hll : l.length ≤ 1048576) :
    Calls Tryz.prog 9 #[.agg #[.int .i64 ki, .int .i64 fr, .int .i64 tq, .int .i64 tm, .int .i64 li, .int .i64 lt, .int .i64 cm, .int .i64 ok, .int .i64 hi, ev]] w fun e w' => ∃ v', e = .returned v' ∧ Own w' w.heap.size v' (encMsg ki fr tq tm li lt cm ok hi l) ∧ Below w.heap.size w w' := by
  have hV : Hid (Es w ev l) := hv
  clear hv
  go_enter Tryz.func9, Tryz.ntmps9
  go_wp2_with (go_at_call 29; refine (encodeBody_msg _ _ _ _ _ _ _ _ _ ev l _ (hV.out.below ((Below.refl _ _).alloc (Nat.le_refl _) _)) hll).mono ?_; rintro e w1 ⟨v1, rfl, ho1, hb1⟩)
  go_ret
  exact ⟨_, rfl, ho1.le (by simp), ((Below.refl _ _).alloc (Nat.le_refl _) _).trans (hb1.mono (by simp))⟩
end Go.Proofs.YtafmjckpbcijoaaGreatDoor

/-
  impl.callFault.
-/
namespace Go.Proofs.YtafmjckpbcijoaaGreatDoor
open Go.RowKit
set_option linter.unusedVariables false

/-- the fault of a call -/
def callF (cl sq op k v o : Int) : Int := if cmdF cl sq op k v o = 0 ∧ op = 0 then 1 else cmdF cl sq op k v o

set_option maxHeartbeats 1000000 in
theorem callFault_any (cl sq op : Int) (k v o : ByteArray) (hk : k.size ≤ maxLen) (hv : v.size ≤ maxLen) (ho : o.size ≤ maxLen) (w : World) :
    Calls Tryz.prog 132 #[.agg #[.int .i64 cl, .int .i64 sq, .int .i64 op, .string k, .string v, .string o]] w fun e w' =>
      e = .returned (.int .i64 (callF cl sq op k.size v.size o.size)) ∧ Below w.heap.size w w' := by
  by_cases h0 : cmdF cl sq op k.size v.size o.size = 0
  · by_cases h1 : op = 0
    · have e : callF cl sq op k.size v.size o.size = 1 := by rw [callF, if_pos ⟨h0, h1⟩]
      rw [e]
      subst h1
      go_enter Tryz.func132, Tryz.ntmps132
      go_wp2_with (go_at_call 128; refine (implCmdFault_any cl sq 0 k v o hk hv ho _).mono ?_; rintro e w1 ⟨rfl, hb⟩; obtain ⟨hc, hf⟩ := bcell hb)
      go_ret
      exact ⟨rfl, ((Below.refl _ _).alloc (Nat.le_refl _) _).trans (hb.mono (by simp))⟩
    · have e : callF cl sq op k.size v.size o.size = 0 := by rw [callF, if_neg (fun h => h1 h.2), h0]
      have n1 : (op == 0) = false := by simpa using h1
      rw [e]
      go_enter Tryz.func132, Tryz.ntmps132
      go_wp2_with (go_at_call 128; refine (implCmdFault_any cl sq op k v o hk hv ho _).mono ?_; rintro e w1 ⟨rfl, hb⟩; obtain ⟨hc, hf⟩ := bcell hb)
      go_ret
      exact ⟨rfl, ((Below.refl _ _).alloc (Nat.le_refl _) _).trans (hb.mono (by simp))⟩
  · have e : callF cl sq op k.size v.size o.size = cmdF cl sq op k.size v.size o.size := by rw [callF, if_neg (fun h => h0 h.1)]
    rw [e]
    generalize hX : cmdF cl sq op k.size v.size o.size = X at h0
    have HX : Hid (cmdF cl sq op k.size v.size o.size = X) := hX
    have n0 : (X == 0) = false := by simpa using h0
    clear hX
    go_enter Tryz.func132, Tryz.ntmps132
    go_wp2_with (go_at_call 128; refine (implCmdFault_any cl sq op k v o hk hv ho _).mono ?_; rintro e w1 ⟨rfl, hb⟩; rw [HX.out]; obtain ⟨hc, hf⟩ := bcell hb)
    go_ret
    exact ⟨rfl, ((Below.refl _ _).alloc (Nat.le_refl _) _).trans (hb.mono (by simp))⟩

end Go.Proofs.YtafmjckpbcijoaaGreatDoor

/-
  The fault of a callBody.
-/
namespace Go.Proofs.YtafmjckpbcijoaaGreatDoor
open Go.RowKit
set_option linter.unusedVariables false

theorem callBody_fault_any (cl sq op : Int) (k v o : ByteArray) (hk : k.size ≤ maxLen) (hv : v.size ≤ maxLen) (ho : o.size ≤ maxLen) (w : World) :
    Calls Tryz.prog 130 #[.agg #[.int .i64 cl, .int .i64 sq, .int .i64 op, .string k, .string v, .string o]] w fun e w' =>
      e = .returned (.int .i64 (callF cl sq op k.size v.size o.size)) ∧ Below w.heap.size w w' := by
  go_enter Tryz.func130, Tryz.ntmps130
  go_wp2_with (go_at_call 132; refine (callFault_any cl sq op k v o hk hv ho _).mono ?_; rintro e w1 ⟨rfl, hb⟩)
  go_ret
  exact ⟨rfl, ((Below.refl _ _).alloc (Nat.le_refl _) _).trans (hb.mono (by simp))⟩
end Go.Proofs.YtafmjckpbcijoaaGreatDoor

/-
  impl.callFault, the methods of callBody, impl.encodeBody at a callBody, impl.EncodeCall.
-/
namespace Go.Proofs.YtafmjckpbcijoaaGreatDoor
open Go.RowKit
set_option linter.unusedVariables false

set_option maxHeartbeats 2000000 in
set_option maxRecDepth 100000 in
theorem callBody_put_any (cl sq op : Nat) (k vl o : ByteArray) (w : World)
    (h1 : cl < 9223372036854775808) (h2 : sq < 9223372036854775808) (h3 : op < 9223372036854775808) (hk : k.size ≤ 64) (hvl : vl.size ≤ 64) (ho : o.size ≤ 64) :
    Calls Tryz.prog 131 #[.agg #[.int .i64 cl, .int .i64 sq, .int .i64 op, .string k, .string vl, .string o], .slice none 0 0] w fun e w' =>
      ∃ v', e = .returned v' ∧ Own w' w.heap.size v' (7 :: cmdL cl sq op k vl o) ∧ Below w.heap.size w w' := by
  go_enter Tryz.func131, Tryz.ntmps131
  go_wp2
  go_region_held3 (fun w' => w'.cell? ⟨w.heap.size, 0, none⟩ = some (.int .i64 cl) ∧ w'.cell? ⟨w.heap.size, 1, none⟩ = some (.int .i64 sq) ∧ w'.cell? ⟨w.heap.size, 2, none⟩ = some (.int .i64 op) ∧ w'.cell? ⟨w.heap.size, 3, none⟩ = some (.string k) ∧ w'.cell? ⟨w.heap.size, 4, none⟩ = some (.string vl) ∧ w'.cell? ⟨w.heap.size, 5, none⟩ = some (.string o)) (simp [*, go_sem, World.cell?_alloc_past])
    (first
      | ((refine stp_append rfl (.tmp 5) (.tmp 6) rfl (Own.nil _ w.heap.size) rfl (u := .slice (some ⟨w.heap.size + 1, 0, none⟩) 1 1) (l2 := [7]) ?u1 rfl (by simp) (by simp) ?u2 ?_; (case u1 => exact Bs.cell1 (by simp [go_sem]) (by omega)); (case u2 => simp; omega); intro v1 w1 ho1 hg1; have hz1 := hg1.g.size; simp at hz1; have hcc := fun (o : Nat) => hg1.cell (k := w.heap.size) (o := o) (by simp; omega) (by simp [Value.ownBlock]); have f1 : v1.ownBlock ≠ some w.heap.size := hg1.far (by simp; omega) (by simp [Value.ownBlock]); have hB1 := hg1.below (Own.nil _ w.heap.size) (by simp; omega)))
      | (go_at_call 124; (refine Calls.mono (putCmd_any _ [7] cl sq op k vl o _ w.heap.size ?q1 ?q2 ?q3 h1 h2 h3 hk hvl ho) ?_; (case q1 => exact ho1); (case q2 => omega); (case q3 => simp); rintro e w2 ⟨v2, rfl, ho2, hg2⟩; have hdd := fun (o : Nat) => hg2.cell (k := w.heap.size) (o := o) (by omega) f1; have hB2 := hg2.below ho1 (by omega))))
  all_goals go_wp2
  all_goals go_ret
  all_goals refine ⟨_, rfl, by simpa using ho2, Below.trans ?_ (hB1.trans hB2)⟩
  all_goals repeat (first | exact Below.refl _ _ | refine Below.drew ?_ | refine Below.alloc ?_ (by simp; done) _ | refine Below.alloc ?_ (by simp; omega) _)

theorem meth_call_fault (x : Value) (w : World) : (method 300 66 x "loop.example/s01586/impl.fault").run Tryz.prog w = .ok (130, x) w := by kernel_rfl
theorem meth_call_put (x : Value) (w : World) : (method 300 66 x "loop.example/s01586/impl.put").run Tryz.prog w = .ok (131, x) w := by kernel_rfl

theorem cmdF_ok {cl sq op k v o : Int} (h : cmdF cl sq op k v o = 0) : 0 ≤ cl ∧ cl ≤ 8 ∧ 0 ≤ sq ∧ sq ≤ 1073741824 ∧ 0 ≤ op ∧ op ≤ 4 ∧ k ≤ 64 ∧ v ≤ 64 ∧ o ≤ 64 := by
  unfold cmdF at h
  by_cases h1 : op < 0 ∨ 4 < op
  · rw [if_pos h1] at h; omega
  rw [if_neg h1] at h
  by_cases h2 : op = 0
  · rw [if_pos h2] at h
    repeat' split at h
    all_goals omega
  · rw [if_neg h2] at h
    repeat' split at h
    all_goals omega
theorem callF_ok {cl sq op k v o : Int} (h : callF cl sq op k v o = 0) : cmdF cl sq op k v o = 0 ∧ op ≠ 0 := by
  unfold callF at h
  split at h
  · omega
  · exact ⟨h, fun e => by simp_all⟩

theorem cmdL_len (cl sq op : Nat) (k v o : ByteArray) (h1 : cl < 9223372036854775808) (h2 : sq < 9223372036854775808) (h3 : op < 9223372036854775808) (hk : k.size ≤ 64) (hv : v.size ≤ 64) (ho : o.size ≤ 64) : (cmdL cl sq op k v o).length ≤ 300 := by
  have hn : (numsL [cl, sq, op]).length ≤ 27 := numsL_len [cl, sq, op] (by simp; omega)
  have t1 := textL_len k (by omega)
  have t2 := textL_len v (by omega)
  have t3 := textL_len o (by omega)
  simp only [cmdL, List.length_append]
  omega

set_option maxHeartbeats 1000000 in
set_option maxRecDepth 100000 in
theorem encodeBody_call (cl sq op : Int) (k vl o : ByteArray) (w : World) (hk : k.size ≤ maxLen) (hvl : vl.size ≤ maxLen) (ho : o.size ≤ maxLen) :
    Calls Tryz.prog 29 #[.iface 66 (.agg #[.int .i64 cl, .int .i64 sq, .int .i64 op, .string k, .string vl, .string o])] w fun e w' =>
      ∃ v', e = .returned v' ∧ Own w' w.heap.size v' (if callF cl sq op k.size vl.size o.size = 0 then frameL (7 :: cmdL cl.toNat sq.toNat op.toNat k vl o) else []) ∧ Below w.heap.size w w' := by
  have m1 := meth_call_fault (.agg #[.int .i64 cl, .int .i64 sq, .int .i64 op, .string k, .string vl, .string o])
  have m2 := meth_call_put (.agg #[.int .i64 cl, .int .i64 sq, .int .i64 op, .string k, .string vl, .string o])
  by_cases hF : callF cl sq op k.size vl.size o.size = 0
  · rw [if_pos hF]
    obtain ⟨hc, _⟩ := callF_ok hF
    obtain ⟨a1, a2, a3, a4, a5, a6, a7, a8, a9⟩ := cmdF_ok hc
    obtain ⟨cl, rfl⟩ := Int.eq_ofNat_of_zero_le a1
    obtain ⟨sq, rfl⟩ := Int.eq_ofNat_of_zero_le a3
    obtain ⟨op, rfl⟩ := Int.eq_ofNat_of_zero_le a5
    have hlen := cmdL_len cl sq op k vl o (by omega) (by omega) (by omega) (by omega) (by omega) (by omega)
    clear hc
    simp only [Int.toNat_natCast]
    go_enter Tryz.func29, Tryz.ntmps29
    go_wp2_with (first
      | (go_at_call 130; refine (callBody_fault_any _ _ _ k vl o hk hvl ho _).mono ?_; rintro e w1 ⟨rfl, hb1⟩; rw [hF])
      | (go_at_call 131; refine (callBody_put_any cl sq op k vl o _ (by omega) (by omega) (by omega) (by omega) (by omega) (by omega)).mono ?_; rintro e w2 ⟨v2, rfl, ho2, hb2⟩; have hz := hb1.size)
      | (go_at_call 55; refine (sealFrame_any _ _ _ (ho2.bs (by unfold maxLen; simp; omega)) (by simp) (by simp; omega)).mono ?_; rintro e w3 ⟨v3, rfl, ho3, hb3⟩; have hz2 := hb2.size))
    go_ret
    exact ⟨_, rfl, ho3.le (by omega), hb1.trans ((hb2.mono (by omega)).trans (hb3.mono (by omega)))⟩
  · rw [if_neg hF]
    have hF' : (callF cl sq op k.size vl.size o.size != 0) = true := by simpa using hF
    go_enter Tryz.func29, Tryz.ntmps29
    go_wp2_with (go_at_call 130; refine (callBody_fault_any _ _ _ k vl o hk hvl ho _).mono ?_; rintro e w1 ⟨rfl, hb1⟩)
    go_ret
    exact ⟨_, rfl, Own.nil _ _, hb1⟩

set_option maxHeartbeats 1000000 in
theorem implEncodeCall_any (cl sq op : Int) (k vl o : ByteArray) (w : World) (hk : k.size ≤ maxLen) (hvl : vl.size ≤ maxLen) (ho : o.size ≤ maxLen) :
    Calls Tryz.prog 12 #[.agg #[.int .i64 cl, .int .i64 sq, .int .i64 op, .string k, .string vl, .string o]] w fun e w' =>
      ∃ v', e = .returned v' ∧ Own w' w.heap.size v' (if callF cl sq op k.size vl.size o.size = 0 then frameL (7 :: cmdL cl.toNat sq.toNat op.toNat k vl o) else []) ∧ Below w.heap.size w w' := by
  generalize hL : (if callF cl sq op k.size vl.size o.size = 0 then frameL (7 :: cmdL cl.toNat sq.toNat op.toNat k vl o) else []) = L
  have HL : Hid ((if callF cl sq op k.size vl.size o.size = 0 then frameL (7 :: cmdL cl.toNat sq.toNat op.toNat k vl o) else []) = L) := hL
  clear hL
  go_enter Tryz.func12, Tryz.ntmps12
  go_wp2_with (go_at_call 29; refine (encodeBody_call cl sq op k vl o _ hk hvl ho).mono ?_; rw [HL.out]; rintro e w1 ⟨v1, rfl, ho1, hb1⟩)
  go_ret
  exact ⟨_, rfl, ho1.le (by simp), ((Below.refl _ _).alloc (Nat.le_refl _) _).trans (hb1.mono (by simp))⟩
end Go.Proofs.YtafmjckpbcijoaaGreatDoor

/-
  impl.replyFault, spec.l1replyFault, laws.toReply, laws.szReply are in ReplyArg.
-/
namespace Go.Proofs.YtafmjckpbcijoaaGreatDoor
open Go.RowKit
set_option linter.unusedVariables false

/-- the fault of a reply -/
def repF (cl sq st cd v ld : Int) : Int :=
  if inB cl 1 8 = false then 1 else if inB sq 1 1073741824 = false then 2 else if inB st 1 2 = false then 3
  else if inB cd (if st = 1 then 1 else 0) (if st = 1 then 4 else 0) = false then 4
  else if (if st = 1 then 64 else 0) < v then 5
  else if inB ld 0 (if st = 1 then 0 else 7) = false then 6 else 0

set_option maxHeartbeats 2000000 in
theorem implReplyFault_any (cl sq st cd ld : Int) (v : ByteArray) (hv : v.size ≤ maxLen) (w : World) :
    Calls Tryz.prog 135 #[.agg #[.int .i64 cl, .int .i64 sq, .int .i64 st, .int .i64 cd, .string v, .int .i64 ld]] w fun e w' => e = .returned (.int .i64 (repF cl sq st cd v.size ld)) ∧ Below w.heap.size w w' := by
  unfold maxLen at hv
  by_cases h1 : st = 1
  · subst h1
    go_enter Tryz.func135, Tryz.ntmps135
    go_wp2_with (go_at_call 52; refine (within_any _ _ _ _).mono ?_; rintro e w' ⟨rfl, rfl⟩)
    all_goals go_ret
    all_goals refine ⟨ret_int ?_, (Below.refl _ _).alloc (Nat.le_refl _) _⟩
    all_goals (go_light; simp_all [repF]; try omega)
  · have n1 : (st == 1) = false := by simpa using h1
    go_enter Tryz.func135, Tryz.ntmps135
    go_wp2_with (go_at_call 52; refine (within_any _ _ _ _).mono ?_; rintro e w' ⟨rfl, rfl⟩)
    all_goals go_ret
    all_goals refine ⟨ret_int ?_, (Below.refl _ _).alloc (Nat.le_refl _) _⟩
    all_goals (go_light; simp_all [repF]; try omega)

set_option maxHeartbeats 4000000 in
theorem specReplyFault_any (cl sq st cd ld : Int) (v : ByteArray) (hv : v.size ≤ maxLen) (w : World) :
    Calls Tryz.prog 34 #[.agg #[.int .i64 cl, .int .i64 sq, .int .i64 st, .int .i64 cd, .string v, .int .i64 ld]] w fun e w' => e = .returned (.int .i64 (repF cl sq st cd v.size ld)) ∧ Below w.heap.size w w' := by
  unfold maxLen at hv
  by_cases h1 : st = 1
  · subst h1
    go_enter Tryz.func34, Tryz.ntmps34
    go_wp2_with (go_at_call 25; refine (l1in_any _ _ _ _).mono ?_; rintro e w' ⟨rfl, rfl⟩)
    all_goals go_ret
    all_goals refine ⟨ret_int ?_, (Below.refl _ _).alloc (Nat.le_refl _) _⟩
    all_goals go_light
    all_goals (try (simp only [Bool.not_eq_true', Bool.not_eq_false', inB_iff, inB_not] at *))
    all_goals simp only [repF, inB_not, if_true]
    all_goals repeat (first | rfl | rw [if_pos (by omega)] | rw [if_neg (by omega)])
  · have n1 : (st == 1) = false := by simpa using h1
    go_enter Tryz.func34, Tryz.ntmps34
    go_wp2_with (go_at_call 25; refine (l1in_any _ _ _ _).mono ?_; rintro e w' ⟨rfl, rfl⟩)
    all_goals go_ret
    all_goals refine ⟨ret_int ?_, (Below.refl _ _).alloc (Nat.le_refl _) _⟩
    all_goals go_light
    all_goals (try (simp only [Bool.not_eq_true', Bool.not_eq_false', inB_iff, inB_not, bne_iff_ne, bne_eq_false_iff_eq, ne_eq] at *))
    all_goals simp only [repF, inB_not, if_neg h1]
    all_goals repeat (first | rfl | rw [if_pos (by omega)] | rw [if_neg (by omega)])

end Go.Proofs.YtafmjckpbcijoaaGreatDoor

/-
  The fault of a replyBody.
-/
namespace Go.Proofs.YtafmjckpbcijoaaGreatDoor
open Go.RowKit
set_option linter.unusedVariables false

theorem replyBody_fault_any (cl sq st cd ld : Int) (v : ByteArray) (hv : v.size ≤ maxLen) (w : World) :
    Calls Tryz.prog 133 #[.agg #[.int .i64 cl, .int .i64 sq, .int .i64 st, .int .i64 cd, .string v, .int .i64 ld]] w fun e w' => e = .returned (.int .i64 (repF cl sq st cd v.size ld)) ∧ Below w.heap.size w w' := by
  go_enter Tryz.func133, Tryz.ntmps133
  go_wp2_with (go_at_call 135; refine (implReplyFault_any cl sq st cd ld v hv _).mono ?_; rintro e w1 ⟨rfl, hb⟩)
  go_ret
  exact ⟨rfl, ((Below.refl _ _).alloc (Nat.le_refl _) _).trans (hb.mono (by simp))⟩

theorem meth_reply_fault (x : Value) (w : World) : (method 300 73 x "loop.example/s01586/impl.fault").run Tryz.prog w = .ok (133, x) w := by kernel_rfl
end Go.Proofs.YtafmjckpbcijoaaGreatDoor

/-
  The methods of replyBody, impl.encodeBody at a replyBody, impl.EncodeReply.
-/
namespace Go.Proofs.YtafmjckpbcijoaaGreatDoor
open Go.RowKit
set_option linter.unusedVariables false

def repL (cl sq st cd : Nat) (v : ByteArray) (ld : Nat) : List Int := 8 :: (numsL [cl, sq, st, cd] ++ textL v ++ numL ld)

theorem Ints.four (w : World) (a b c d : Nat) : ∀ j, j < [a, b, c, d].length → (w.alloc (.cells #[.int .i64 a, .int .i64 b, .int .i64 c, .int .i64 d] 3)).cell? ⟨w.heap.size, j, none⟩ = some (.int .i64 ([a, b, c, d][j]?.getD 0 : Nat)) := by
  intro j hj
  rw [World.cell?_alloc_new]
  match j, hj with
  | 0, _ => rfl
  | 1, _ => rfl
  | 2, _ => rfl
  | 3, _ => rfl

set_option maxHeartbeats 2000000 in
set_option maxRecDepth 100000 in
theorem replyBody_put_any (cl sq st cd ld : Nat) (v : ByteArray) (w : World)
    (h1 : cl < 9223372036854775808) (h2 : sq < 9223372036854775808) (h3 : st < 9223372036854775808) (h4 : cd < 9223372036854775808) (h5 : ld < 9223372036854775808) (hv : v.size ≤ 64) :
    Calls Tryz.prog 134 #[.agg #[.int .i64 cl, .int .i64 sq, .int .i64 st, .int .i64 cd, .string v, .int .i64 ld], .slice none 0 0] w fun e w' =>
      ∃ v', e = .returned v' ∧ Own w' w.heap.size v' (repL cl sq st cd v ld) ∧ Below w.heap.size w w' := by
  have hn : (numsL [cl, sq, st, cd]).length ≤ 36 := numsL_len [cl, sq, st, cd] (by simp; omega)
  have t1 := textL_len v (by omega)
  have hnm : ∀ n ∈ [cl, sq, st, cd], n < 9223372036854775808 := by simp; omega
  have HN : Hid (∀ n ∈ [cl, sq, st, cd], n < 9223372036854775808) := hnm
  clear hnm
  go_enter Tryz.func134, Tryz.ntmps134
  go_wp2_with (first
    | (at_builtin; (refine wpl_append rfl (.tmp 5) (.tmp 6) rfl (Own.nil _ w.heap.size) rfl (u := .slice (some ⟨w.heap.size + 1, 0, none⟩) 1 1) (l2 := [8]) (Bs.cell1 (by simp [go_sem]) (by omega)) rfl (by simp) (by simp) (by simp; omega) ?_; intro v1 w1 ho1 hg1; have hB1 : Below w.heap.size w w1 := Below.trans ((((Below.refl _ _).alloc (Nat.le_refl _) _).alloc (by simp) _)) (hg1.below (Own.nil _ w.heap.size) (by simp; omega)); have hz1 : w.heap.size < w1.heap.size := (by have := hg1.g.size; simp at this; omega); have hcc := fun (o : Nat) => hg1.cell (k := w.heap.size) (o := o) (by simp; omega) (by simp [Value.ownBlock]); have f1 : v1.ownBlock ≠ some w.heap.size := hg1.far (by simp; omega) (by simp [Value.ownBlock]); have n1 := ho1.ne (Nat.le_refl _); replace ho1 := ho1.below ((Below.refl w1.heap.size w1).alloc (Nat.le_refl _) (.cells #[.int .i64 cl, .int .i64 sq, .int .i64 st, .int .i64 cd] 3)); have hI := Ints.four w1 cl sq st cd))
    | (go_at_call 117; refine (putNumbers_any _ _ [cl, sq, st, cd] w1.heap.size 4 _ w.heap.size ho1 (by simp; omega) (by simp) HN.out (by simp) hI n1).mono ?_; rintro e w2 ⟨v2, rfl, ho2, hg2⟩; have hB2 := hB1.trans (((Below.refl _ _).alloc (by omega) _).trans (hg2.below ho1 (by simp; omega))); have hz2 : w.heap.size < w2.heap.size := (by have := hg2.g.size; simp at this; omega); have hdd := fun (o : Nat) => hg2.cell (k := w.heap.size) (o := o) (by simp; omega) f1; have f2 : v2.ownBlock ≠ some w.heap.size := hg2.far (by simp; omega) f1; clear hI)
    | (go_at_call 126; refine (putText_any _ _ v _ w.heap.size ho2 (by omega) (by simp; omega) (by omega)).mono ?_; rintro e w3 ⟨v3, rfl, ho3, hg3⟩; have hB3 := hB2.trans (hg3.below ho2 (by omega)); have hz3 : w.heap.size < w3.heap.size := (by have := hg3.g.size; omega); have hee := fun (o : Nat) => hg3.cell (k := w.heap.size) (o := o) hz2 f2)
    | (go_at_call 123; refine (putNumber_any _ _ ld _ w.heap.size ho3 (by omega) (by simp; omega) h5).mono ?_; rintro e w4 ⟨v4, rfl, ho4, hg4⟩; have hB4 := hB3.trans (hg4.below ho3 (by omega))))
  go_ret
  exact ⟨_, rfl, by simpa [repL, List.append_assoc] using ho4, hB4⟩

theorem meth_reply_put (x : Value) (w : World) : (method 300 73 x "loop.example/s01586/impl.put").run Tryz.prog w = .ok (134, x) w := by kernel_rfl

theorem repF_ok {cl sq st cd v ld : Int} (h : repF cl sq st cd v ld = 0) : 1 ≤ cl ∧ cl ≤ 8 ∧ 1 ≤ sq ∧ sq ≤ 1073741824 ∧ 1 ≤ st ∧ st ≤ 2 ∧ 0 ≤ cd ∧ cd ≤ 4 ∧ v ≤ 64 ∧ 0 ≤ ld ∧ ld ≤ 7 := by
  unfold repF at h
  simp only [inB_not] at h
  by_cases h1 : st = 1
  · simp only [h1, if_true] at h
    repeat' split at h
    all_goals omega
  · simp only [h1, if_false] at h
    repeat' split at h
    all_goals omega

theorem repL_len (cl sq st cd ld : Nat) (v : ByteArray) (h1 : cl < 9223372036854775808) (h2 : sq < 9223372036854775808) (h3 : st < 9223372036854775808) (h4 : cd < 9223372036854775808) (h5 : ld < 9223372036854775808) (hv : v.size ≤ 64) : 0 < (repL cl sq st cd v ld).length ∧ (repL cl sq st cd v ld).length ≤ 200 := by
  have hn : (numsL [cl, sq, st, cd]).length ≤ 36 := numsL_len [cl, sq, st, cd] (by simp; omega)
  have t1 := textL_len v (by omega)
  have t2 := numL_len9 ld h5
  simp only [repL, List.length_cons, List.length_append]
  omega

/-- what EncodeReply answers -/
def encReply (cl sq st cd ld : Int) (v : ByteArray) : List Int := if repF cl sq st cd v.size ld = 0 then frameL (repL cl.toNat sq.toNat st.toNat cd.toNat v ld.toNat) else []

set_option maxHeartbeats 1000000 in
set_option maxRecDepth 100000 in
theorem encodeBody_reply (cl sq st cd ld : Int) (v : ByteArray) (w : World) (hv : v.size ≤ maxLen) :
    Calls Tryz.prog 29 #[.iface 73 (.agg #[.int .i64 cl, .int .i64 sq, .int .i64 st, .int .i64 cd, .string v, .int .i64 ld])] w fun e w' => ∃ v', e = .returned v' ∧ Own w' w.heap.size v' (encReply cl sq st cd ld v) ∧ Below w.heap.size w w' := by
  have m1 := meth_reply_fault (.agg #[.int .i64 cl, .int .i64 sq, .int .i64 st, .int .i64 cd, .string v, .int .i64 ld])
  have m2 := meth_reply_put (.agg #[.int .i64 cl, .int .i64 sq, .int .i64 st, .int .i64 cd, .string v, .int .i64 ld])
  by_cases hF : repF cl sq st cd v.size ld = 0
  · rw [encReply, if_pos hF]
    obtain ⟨a1, a2, a3, a4, a5, a6, a7, a8, a9, a10, a11⟩ := repF_ok hF
    obtain ⟨cl, rfl⟩ := Int.eq_ofNat_of_zero_le (show 0 ≤ cl by omega)
    obtain ⟨sq, rfl⟩ := Int.eq_ofNat_of_zero_le (show 0 ≤ sq by omega)
    obtain ⟨st, rfl⟩ := Int.eq_ofNat_of_zero_le (show 0 ≤ st by omega)
    obtain ⟨cd, rfl⟩ := Int.eq_ofNat_of_zero_le a7
    obtain ⟨ld, rfl⟩ := Int.eq_ofNat_of_zero_le a10
    obtain ⟨hp, hlen⟩ := repL_len cl sq st cd ld v (by omega) (by omega) (by omega) (by omega) (by omega) (by omega)
    simp only [Int.toNat_natCast]
    go_enter Tryz.func29, Tryz.ntmps29
    go_wp2_with (first
      | (go_at_call 133; refine (replyBody_fault_any _ _ _ _ _ v hv _).mono ?_; rintro e w1 ⟨rfl, hb1⟩; rw [hF])
      | (go_at_call 134; refine (replyBody_put_any cl sq st cd ld v _ (by omega) (by omega) (by omega) (by omega) (by omega) (by omega)).mono ?_; rintro e w2 ⟨v2, rfl, ho2, hb2⟩; have hz := hb1.size)
      | (go_at_call 55; refine (sealFrame_any _ _ _ (ho2.bs (by unfold maxLen; omega)) hp (by omega)).mono ?_; rintro e w3 ⟨v3, rfl, ho3, hb3⟩; have hz2 := hb2.size))
    go_ret
    exact ⟨_, rfl, ho3.le (by omega), hb1.trans ((hb2.mono (by omega)).trans (hb3.mono (by omega)))⟩
  · rw [encReply, if_neg hF]
    have hF' : (repF cl sq st cd v.size ld != 0) = true := by simpa using hF
    go_enter Tryz.func29, Tryz.ntmps29
    go_wp2_with (go_at_call 133; refine (replyBody_fault_any _ _ _ _ _ v hv _).mono ?_; rintro e w1 ⟨rfl, hb1⟩)
    go_ret
    exact ⟨_, rfl, Own.nil _ _, hb1⟩

set_option maxHeartbeats 1000000 in
theorem implEncodeReply_any (cl sq st cd ld : Int) (v : ByteArray) (w : World) (hv : v.size ≤ maxLen) :
    Calls Tryz.prog 15 #[.agg #[.int .i64 cl, .int .i64 sq, .int .i64 st, .int .i64 cd, .string v, .int .i64 ld]] w fun e w' => ∃ v', e = .returned v' ∧ Own w' w.heap.size v' (encReply cl sq st cd ld v) ∧ Below w.heap.size w w' := by
  go_enter Tryz.func15, Tryz.ntmps15
  go_wp2_with (go_at_call 29; refine (encodeBody_reply cl sq st cd ld v _ hv).mono ?_; rintro e w1 ⟨v1, rfl, ho1, hb1⟩)
  go_ret
  exact ⟨_, rfl, ho1.le (by simp), ((Below.refl _ _).alloc (Nat.le_refl _) _).trans (hb1.mono (by simp))⟩
end Go.Proofs.YtafmjckpbcijoaaGreatDoor

/-
  Reading a body from left tq right: on lists.
-/
namespace Go.Proofs.YtafmjckpbcijoaaGreatDoor
open Go.RowKit
set_option linter.unusedVariables false

/-- what the first k bytes of a number's form add up tq -/
def valL (l : List Int) : Nat → Nat
  | 0 => 0
  | k + 1 => valL l k + (l[k]?.getD 0).toNat % 128 * 128 ^ k
theorem valL_lt (l : List Int) (k : Nat) : valL l k < 128 ^ k := by
  induction k with
  | zero => simp [valL]
  | succ k ih =>
    have h : (l[k]?.getD 0).toNat % 128 ≤ 127 := by omega
    have := Nat.mul_le_mul_right (128 ^ k) h
    rw [valL, Nat.pow_succ]
    omega

/-- the number whose form begins at place k, in at most f bytes: its value and how many bytes there are in all -/
def numAt (l : List Int) : Nat → Nat → Option (Nat × Nat)
  | 0, _ => none
  | f + 1, k =>
    if k < l.length then
      (if 128 ≤ l[k]?.getD 0 then numAt l f (k + 1)
       else if l[k]?.getD 0 = 0 ∧ 0 < k then none
       else some (valL l (k + 1), k + 1))
    else none
def numR (l : List Int) : Option (Nat × Nat) := numAt l 5 0

theorem numAt_bounds (l : List Int) (f : Nat) : ∀ k v n, f + k ≤ 5 → numAt l f k = some (v, n) → n ≤ l.length ∧ k < n ∧ v < 34359738368 := by
  induction f with
  | zero => intro k v n _ h; cases h
  | succ f ih =>
    intro k v n hk h
    unfold numAt at h
    split at h
    · next hl =>
      split at h
      · have := ih (k + 1) v n (by omega) h
        omega
      · split at h
        · cases h
        · injection h with h
          injection h with h1 h2
          have hv := valL_lt l (k + 1)
          have hp : 128 ^ (k + 1) ≤ 128 ^ 5 := Nat.pow_le_pow_right (by decide) (by omega)
          have : (128 : Nat) ^ 5 = 34359738368 := by decide
          omega
    · cases h
theorem numR_bounds {l : List Int} {v n : Nat} (h : numR l = some (v, n)) : n ≤ l.length ∧ 0 < n ∧ v < 34359738368 := numAt_bounds l 5 0 v n (by decide) h

/-- a reader's state: what is left, none behind a refusal -/
abbrev RSt := Option (List Int)

def rdNum : RSt → Nat × RSt
  | none => (0, none)
  | some l => match numR l with
    | none => (0, none)
    | some (v, n) => (v, some (l.drop n))
theorem rdNum_lt (st : RSt) : (rdNum st).1 < 34359738368 := by
  unfold rdNum
  split
  · simp
  · split
    · simp
    · next h => exact (numR_bounds h).2.2
def stLen : RSt → Nat
  | none => 0
  | some l => l.length
theorem rdNum_len (st : RSt) : stLen (rdNum st).2 ≤ stLen st := by
  unfold rdNum
  split
  · simp
  · split
    · simp [stLen]
    · next h => simp [stLen]

/-- the text of bytes -/
def textOf (l : List Int) : ByteArray := strOfNums l

def rdText (st : RSt) : ByteArray × RSt :=
  match (rdNum st).2 with
  | none => (ByteArray.empty, none)
  | some l => if 64 < (rdNum st).1 ∨ l.length < (rdNum st).1 then (ByteArray.empty, none) else (strOfNums (l.take (rdNum st).1), some (l.drop (rdNum st).1))

theorem rdText_size (st : RSt) : (rdText st).1.size ≤ 64 := by
  unfold rdText
  split
  · decide
  · split
    · decide
    · next h =>
      rw [strOfNums_size, List.length_take]
      omega
theorem rdText_len (st : RSt) : stLen (rdText st).2 ≤ stLen st := by
  have h := rdNum_len st
  unfold rdText
  split
  · simp [stLen]
  · next l e =>
    rw [e] at h
    split
    · simp [stLen]
    · simp only [stLen, List.length_drop] at h ⊢
      omega

theorem i64_or_nat (a b : Nat) (ha : a < 9223372036854775808) (hb : b < 9223372036854775808) : bits .or .i64 (a : Int) (b : Int) = ((a ||| b : Nat) : Int) := by
  have hx : a ||| b < 2 ^ 63 := Nat.or_lt_two_pow (by omega) (by omega)
  show IntKind.i64.wrap ((BitVec.ofInt 64 (a : Int) ||| BitVec.ofInt 64 (b : Int)).toNat : Int) = _
  rw [BitVec.toNat_or, ofInt_u64 a (by omega), ofInt_u64 b (by omega)]
  rw [IntKind.wrap_i64]
  omega
theorem or_step (a x k : Nat) (ha : a < 128 ^ k) (hx : x < 128) (hk : k ≤ 4) : bits .or .i64 (a : Int) ((x : Int) * 128 ^ k) = ((a + x * 128 ^ k : Nat) : Int) := by
  have h2 : (128 : Nat) ^ k = 2 ^ (7 * k) := by rw [Nat.pow_mul]
  have hp : 128 ^ k ≤ 128 ^ 4 := Nat.pow_le_pow_right (by decide) hk
  have h5 : (128 : Nat) ^ 4 = 268435456 := by decide
  have hm : x * 128 ^ k ≤ 127 * 128 ^ k := Nat.mul_le_mul_right _ (by omega)
  have e : (x : Int) * 128 ^ k = ((x * 128 ^ k : Nat) : Int) := by simp
  rw [e, i64_or_nat a (x * 128 ^ k) (by omega) (by omega)]
  congr 1
  rw [Nat.or_comm, nat_join (7 * k) (x * 128 ^ k) a (by rw [h2]; exact Nat.mul_mod_left _ _) (by rw [← h2]; exact ha), Nat.add_comm]
theorem and_127 (c : Int) (h0 : 0 ≤ c) (h1 : c ≤ 255) : bits .and .u8 c 127 = ((c.toNat % 128 : Nat) : Int) := by
  rw [u8_and c 127 h0 (by omega) (by decide) (by decide)]
  congr 1
  exact Nat.and_two_pow_sub_one_eq_mod _ 7
end Go.Proofs.YtafmjckpbcijoaaGreatDoor

/-
  errors.Is and errors.As at the errors of the wire: nil, and a refusal that wraps a sentinel.
-/
namespace Go.Proofs.YtafmjckpbcijoaaGreatDoor
open Go.RowKit Go.Extern.Stop Go.Stop Go.Extern
set_option linter.unusedVariables false

/-- the value of a sentinel -/
abbrev sentV (a : Addr) : Value := .iface 160 (.pointer (some a))
/-- an error that wraps the sentinel at a, with a fault -/
abbrev refV (a : Addr) (f : Int) : Value := .iface 102 (.agg #[sentV a, .int .i64 f])

theorem isTypeOf (v : Value) (w : World) : (Extern.ReflectliteType.typeOf #[.iface 160 v]).run Tryz.prog w = .ok (.iface 145 (.agg #[.pointer (some ⟨7, 160, none⟩)])) w := by kernel_rfl
def cmpM : Array Value → Sem Value := Extern.ReflectliteType.method fun t => do Rtype.noPackHeld "Comparable" t; pure (.bool (← typeInfo t).comparable)
theorem isComparable (w : World) : (cmpM #[.agg #[.pointer (some ⟨7, 160, none⟩)]]).run Tryz.prog w = .ok (.bool true) w := by kernel_rfl
theorem isMethodComparable (v : Value) (w : World) : (Go.method 300 145 v "Comparable").run Tryz.prog w = .ok (143, v) w := by kernel_rfl
theorem isComp : (Tryz.prog.info? 160).map (·.comparable) = some true := by kernel_rfl
theorem isSize : (Tryz.prog.info? 188).map (·.size) = some 1 := by kernel_rfl
theorem noIsE (v : Value) (xT : TypeId) (w : World) : (Instr.typeAssert (.iface 160 v) xT 147 true).run Tryz.prog w = .ok (.tuple #[.nilIface, .bool false]) w := run_typeAssert_lacksB Tryz.underlying147 (by kernel_rfl) (by kernel_rfl) v xT w
theorem noUnwrapE (v : Value) (xT : TypeId) (w : World) : (Instr.typeAssert (.iface 160 v) xT 150 true).run Tryz.prog w = .ok (.tuple #[.nilIface, .bool false]) w := run_typeAssert_lacksB Tryz.underlying150 (by kernel_rfl) (by kernel_rfl) v xT w
theorem noUnwrapsE (v : Value) (xT : TypeId) (w : World) : (Instr.typeAssert (.iface 160 v) xT 151 true).run Tryz.prog w = .ok (.tuple #[.nilIface, .bool false]) w := run_typeAssert_lacksB Tryz.underlying151 (by kernel_rfl) (by kernel_rfl) v xT w
theorem noIsW (v : Value) (xT : TypeId) (w : World) : (Instr.typeAssert (.iface 102 v) xT 147 true).run Tryz.prog w = .ok (.tuple #[.nilIface, .bool false]) w := run_typeAssert_lacksB Tryz.underlying147 (by kernel_rfl) (by kernel_rfl) v xT w
theorem hasUnwrapW (v : Value) (xT : TypeId) (w : World) : (Instr.typeAssert (.iface 102 v) xT 150 true).run Tryz.prog w = .ok (.tuple #[.iface 102 v, .bool true]) w := run_typeAssert_hasB Tryz.underlying150 (by kernel_rfl) v xT w
theorem methodUnwrap (v : Value) (w : World) : (Go.method 300 102 v "Unwrap").run Tryz.prog w = .ok (137, v) w := by kernel_rfl

theorem refusal_unwrap (a : Addr) (f : Int) (w : World) :
    Calls Tryz.prog 137 #[.agg #[sentV a, .int .i64 f]] w fun e w' => e = .returned (sentV a) ∧ w' = w.alloc (.cells #[sentV a, .int .i64 f] 102) := by
  go_enter Tryz.func137, Tryz.ntmps137
  go_wp2
  go_ret
  exact ⟨rfl, rfl⟩

/-- errors.Is(nil, x). -/
theorem is_nil (b : Addr) (w : World) :
    Calls Tryz.prog 76 #[.nilIface, sentV b] w fun e w' => e = .returned (.bool false) ∧ w' = w := by
  have hn := run_eql_iface_nil_left (P := Tryz.prog) w 160 (.pointer (some b)) Tryz.underlying80
  go_enter Tryz.func76, Tryz.ntmps76
  go_wp2
  go_ret
  exact ⟨rfl, rfl⟩

/-- errors.Is(e, x), e a refusal that wraps x itself: one Unwrap, then equal. -/
theorem is_same (b : Addr) (f : Int) (w : World) :
    Calls Tryz.prog 76 #[refV b f, sentV b] w fun e w' => e = .returned (.bool true) ∧ Below w.heap.size w w' := by
  obtain ⟨i, hi, hcmp⟩ := Option.map_eq_some_iff.1 isComp
  obtain ⟨j, hj, hjs⟩ := Option.map_eq_some_iff.1 isSize
  have h8 := @run_callFunc_extern Tryz.prog 85 _ Extern.ReflectliteType.typeOf Tryz.func85 (by kernel_rfl) (by kernel_rfl) (by kernel_rfl) (by kernel_rfl)
  have h32 := @run_callFunc_extern Tryz.prog 143 _ cmpM Tryz.func143 (by kernel_rfl) (by kernel_rfl) (by kernel_rfl) (by kernel_rfl)
  have tT := isTypeOf
  have cT := isComparable
  have mR := isMethodComparable
  have nW := noIsW
  have uW := hasUnwrapW
  have mU := methodUnwrap
  have heq := run_eql_iface_ptr_same (P := Tryz.prog) (w.alloc (.cells #[sentV b, .int .i64 f] 102)) b Tryz.underlying80 Tryz.underlying160 hi hcmp hj
  have hty := run_eql_iface_types (P := Tryz.prog) 102 160 (.agg #[sentV b, .int .i64 f]) (.pointer (some b)) Tryz.underlying80 (by decide) w
  go_enter Tryz.func76, Tryz.ntmps76
  go_wp2
  refine wp_loop_rounds 2 ?_
  rw [rounds_succ]
  go_wp2
  rw [rounds_succ]
  go_wp2
  go_ret
  exact ⟨rfl, (Below.refl _ _).alloc (Nat.le_refl _) _⟩

/-- errors.Is(e, x), e a refusal that wraps another sentinel. -/
theorem is_other (a b : Addr) (f : Int) (ca cb : Array Value) (ta tb : TypeId) (w : World) (hne : a ≠ b) (ha : w.heap[a.block]? = some (.cells ca ta (0, 0))) (hb : w.heap[b.block]? = some (.cells cb tb (0, 0))) :
    Calls Tryz.prog 76 #[refV a f, sentV b] w fun e w' => e = .returned (.bool false) ∧ Below w.heap.size w w' := by
  obtain ⟨i, hi, hcmp⟩ := Option.map_eq_some_iff.1 isComp
  obtain ⟨j, hj, hjs⟩ := Option.map_eq_some_iff.1 isSize
  have h8 := @run_callFunc_extern Tryz.prog 85 _ Extern.ReflectliteType.typeOf Tryz.func85 (by kernel_rfl) (by kernel_rfl) (by kernel_rfl) (by kernel_rfl)
  have h32 := @run_callFunc_extern Tryz.prog 143 _ cmpM Tryz.func143 (by kernel_rfl) (by kernel_rfl) (by kernel_rfl) (by kernel_rfl)
  have tT := isTypeOf
  have cT := isComparable
  have mR := isMethodComparable
  have nE := noIsE
  have uE := noUnwrapE
  have vE := noUnwrapsE
  have nW := noIsW
  have uW := hasUnwrapW
  have mU := methodUnwrap
  have al : ∀ (k : Nat) (o : Obj), w.heap[k]? = some o → (w.alloc (.cells #[sentV a, .int .i64 f] 102)).heap[k]? = some o := fun k o h => by
    have hlt : k < w.heap.size := by
      rcases Nat.lt_or_ge k w.heap.size with h' | h'
      · exact h'
      · rw [Array.getElem?_eq_none h'] at h; cases h
    show (w.heap.push _)[k]? = _
    rw [Array.getElem?_push, if_neg (Nat.ne_of_lt hlt)]
    exact h
  have heq := run_eql_iface_ptr_other (P := Tryz.prog) (w.alloc (.cells #[sentV a, .int .i64 f] 102)) Tryz.underlying80 Tryz.underlying160 hi hcmp hj (by rw [hjs]; decide) hne (al _ _ ha) (al _ _ hb)
  have hty := run_eql_iface_types (P := Tryz.prog) 102 160 (.agg #[sentV a, .int .i64 f]) (.pointer (some b)) Tryz.underlying80 (by decide) w
  go_enter Tryz.func76, Tryz.ntmps76
  go_wp2
  refine wp_loop_rounds 2 ?_
  rw [rounds_succ]
  go_wp2
  rw [rounds_succ]
  go_wp2
  go_ret
  exact ⟨rfl, (Below.refl _ _).alloc (Nat.le_refl _) _⟩
end Go.Proofs.YtafmjckpbcijoaaGreatDoor

/-
  The six sentinels.
-/
namespace Go.Proofs.YtafmjckpbcijoaaGreatDoor
open Go.RowKit Go.Extern.Stop Go.Stop Go.Extern
set_option linter.unusedVariables false

/-- the six sentinels lie at A 1 .. A 6, in the order of the codes -/
structure Sents (w : World) (A : Nat → Addr) (B : Nat) : Prop where
  g1 : w.cell? ⟨2, 0, none⟩ = some (sentV (A 1))
  g2 : w.cell? ⟨3, 0, none⟩ = some (sentV (A 2))
  g3 : w.cell? ⟨4, 0, none⟩ = some (sentV (A 3))
  g4 : w.cell? ⟨0, 0, none⟩ = some (sentV (A 4))
  g5 : w.cell? ⟨5, 0, none⟩ = some (sentV (A 5))
  g6 : w.cell? ⟨1, 0, none⟩ = some (sentV (A 6))
  ty : w.cell? ⟨6, 0, none⟩ = some (.iface 145 (.agg #[.pointer (some ⟨7, 80, none⟩)]))
  row : ∀ i, 1 ≤ i → i ≤ 6 → ∃ c t, w.heap[(A i).block]? = some (.cells c t (0, 0))
  ne : ∀ i j, 1 ≤ i → i ≤ 6 → 1 ≤ j → j ≤ 6 → i ≠ j → A i ≠ A j
  gl : 7 ≤ B
  lt : ∀ i, 1 ≤ i → i ≤ 6 → (A i).block < B
  le : B ≤ w.heap.size

theorem Sents.kept {w w' : World} {A : Nat → Addr} {B : Nat} (h : Sents w A B) (hb : Below B w w') : Sents w' A B := by
  have hg := h.gl
  have c : ∀ {k o : Nat} {v : Value}, k < B → w.cell? ⟨k, o, none⟩ = some v → w'.cell? ⟨k, o, none⟩ = some v := fun {k o v} hk hc => by rw [hb.cell (p := ⟨k, o, none⟩) hk]; exact hc
  refine ⟨c (by omega) h.g1, c (by omega) h.g2, c (by omega) h.g3, c (by omega) h.g4, c (by omega) h.g5, c (by omega) h.g6, c (by omega) h.ty, fun i h1 h6 => ?_, h.ne, hg, h.lt, Nat.le_trans h.le hb.size⟩
  obtain ⟨x, t, e⟩ := h.row i h1 h6
  exact ⟨x, t, (hb.block _ (h.lt i h1 h6)).trans e⟩
theorem Sents.below {w w' : World} {A : Nat → Addr} {B : Nat} (h : Sents w A B) (hb : Below w.heap.size w w') : Sents w' A B := h.kept (hb.mono h.le)

theorem is_at {w : World} {A : Nat → Addr} {B : Nat} (hs : Sents w A B) (i j : Nat) (f : Int) (h1 : 1 ≤ i) (h6 : i ≤ 6) (k1 : 1 ≤ j) (k6 : j ≤ 6) :
    Calls Tryz.prog 76 #[refV (A i) f, sentV (A j)] w fun e w' => e = .returned (.bool (decide (i = j))) ∧ Below w.heap.size w w' := by
  by_cases e : i = j
  · subst e
    simpa using is_same (A i) f w
  · obtain ⟨c, t, hc⟩ := hs.row i h1 h6
    obtain ⟨c', t', hc'⟩ := hs.row j k1 k6
    simpa [e] using is_other (A i) (A j) f c c' t t' w (hs.ne i j h1 h6 k1 k6 e) hc hc'
end Go.Proofs.YtafmjckpbcijoaaGreatDoor

/-
  impl.reader in memory; refuse, number.
-/
namespace Go.Proofs.YtafmjckpbcijoaaGreatDoor
open Go.RowKit
set_option linter.unusedVariables false

/-- a slice value whose length is within its capacity; it lies below D -/
def Fits (D : Nat) (v : Value) (l : List Int) : Prop := ∃ a n c, v = .slice a n c ∧ n ≤ c ∧ (0 < l.length → ∃ x, a = some x ∧ x.block < D)

/-- the reader that lies in block b, B ≤ b < D, has the state st; its bytes lie below D -/
def Rd (w : World) (b : Nat) (A : Nat → Addr) (B D : Nat) (st : RSt) : Prop :=
  B ≤ b ∧ b < D ∧ D ≤ w.heap.size ∧ (∀ i, w.frozen? ⟨b, i, none⟩ = false) ∧
  match st with
  | none => w.cell? ⟨b, 0, none⟩ = some (.slice none 0 0) ∧ w.cell? ⟨b, 1, none⟩ = some (refV (A 5) 0)
  | some l => (∃ v, w.cell? ⟨b, 0, none⟩ = some v ∧ Bs w v l ∧ Fits D v l) ∧ w.cell? ⟨b, 1, none⟩ = some .nilIface

def noByte : Value → Prop
  | .int .u8 _ => False
  | _ => True

/-- bytes stay where a cell that is no byte is written -/
theorem Bs.setCell {w : World} {v : Value} {l : List Int} (h : Bs w v l) {b i : Nat} {x : Value} (hx : w.cell? ⟨b, i, none⟩ = some x) (hn : noByte x) (y : Value) : Bs (w.setCell ⟨b, i, none⟩ y) v l := by
  obtain ⟨hl, h8, a, cap, rfl, hc⟩ := h
  refine ⟨hl, h8, a, cap, rfl, fun k hk => ?_⟩
  obtain ⟨b', off, rfl, hj⟩ := hc k hk
  refine ⟨b', off, rfl, fun j hj' => ?_⟩
  rw [World.cell?_setCell_other w _ _ _ ?_]
  · exact hj j hj'
  · intro e
    have hj2 := hj j hj'
    rw [← e, hx] at hj2
    injection hj2 with e'
    rw [e'] at hn
    exact hn

theorem Bs.drop {w : World} {a : Option Addr} {n c : Nat} {l : List Int} (h : Bs w (.slice a n c) l) (hc : n ≤ c) {D : Nat} (hD : 0 < l.length → ∃ x, a = some x ∧ x.block < D) (k : Nat) (hk : k ≤ l.length) :
    Bs w (sliced a k n c 1) (l.drop k) ∧ Fits D (sliced a k n c 1) (l.drop k) := by
  obtain ⟨hl, h8, a', cap, e, hcell⟩ := h
  injection e with e1 e2 e3
  subst e1 e2 e3
  refine ⟨⟨by simp; omega, fun x hx => h8 x (List.mem_of_mem_drop hx), _, c - k, by simp [sliced]; rfl, fun i hi => ?_⟩, ⟨_, _, _, rfl, by omega, fun hp => ?_⟩⟩
  rotate_left
  · rw [List.length_drop] at hp
    obtain ⟨x, rfl, hx⟩ := hD (by omega)
    rw [if_neg (by omega)]
    refine ⟨_, rfl, ?_⟩
    show (x.add (k * 1)).block < D
    unfold Addr.add
    split <;> exact hx
  rw [List.length_drop] at hi
  obtain ⟨b, off, rfl, hj⟩ := hcell 0 (by omega)
  refine ⟨b, off + k, ?_, fun j hj' => ?_⟩
  · rw [if_neg (by omega)]
    simp [cell_add]
  · rw [List.length_drop] at hj'
    have := hj (k + j) (by omega)
    rw [← Nat.add_assoc] at this
    rw [this, List.getElem?_drop]

theorem size5 : ∀ w, (Go.sizeOf 5).run Tryz.prog w = .ok 1 w := fun w => by kernel_rfl


theorem grown_below {w w' : World} {b B : Nat} (h : w.grownBy w' (some b)) (hb : B ≤ b) (hB : B ≤ w.heap.size) : Below B w w' :=
  (Below.refl _ _).grown h hB (fun k hk => by injection hk with hk; omega)

theorem Rd.below {w w' : World} {b : Nat} {A : Nat → Addr} {B D : Nat} {st : RSt} (h : Rd w b A B D st) (hb : Below D w w') : Rd w' b A B D st := by
  obtain ⟨hB, hbD, hDw, hf, h⟩ := h
  refine ⟨hB, hbD, Nat.le_trans hDw hb.size, fun i => by rw [hb.frozen (p := ⟨b, i, none⟩) hbD]; exact hf i, ?_⟩
  have c := fun (o : Nat) => hb.cell (p := ⟨b, o, none⟩) hbD
  cases st with
  | none => exact ⟨(c 0).trans h.1, (c 1).trans h.2⟩
  | some l =>
    obtain ⟨⟨v, h0, hbs, hfit⟩, h1⟩ := h
    refine ⟨⟨v, (c 0).trans h0, ?_, hfit⟩, (c 1).trans h1⟩
    obtain ⟨a, n, cc, rfl, _, hD⟩ := hfit
    obtain ⟨hl, h8, a', cap, e, hc⟩ := hbs
    injection e with e1 e2 e3
    subst e1 e2 e3
    refine ⟨hl, h8, _, _, rfl, fun i hi => ?_⟩
    obtain ⟨b', off, rfl, hj⟩ := hc i hi
    obtain ⟨x, ex, hx⟩ := hD (by omega)
    injection ex with ex
    subst ex
    exact ⟨b', off, rfl, fun j hj' => by rw [hb.cell (p := ⟨b', off + j, none⟩) hx]; exact hj j hj'⟩

theorem refuse_any (b : Nat) (w : World) (A : Nat → Addr) (B D : Nat) (st : RSt) (hs : Sents w A B) (h : Rd w b A B D st) :
    Calls Tryz.prog 82 #[.pointer (some ⟨b, 0, none⟩)] w fun e w' => (∃ v, e = .returned v) ∧ Rd w' b A B D none ∧ w.grownBy w' (some b) := by
  obtain ⟨hB, hbD, hDw, hf, h⟩ := h
  have hg := hs.g5
  have hn := hs.gl
  have hf0 := hf 0
  have hf1 := hf 1
  have hne : b ≠ 5 := by omega
  have h0 : ∃ v, w.cell? ⟨b, 0, none⟩ = some v := by
    cases st with
    | none => exact ⟨_, h.1⟩
    | some l => obtain ⟨⟨v, hv, _⟩, _⟩ := h; exact ⟨v, hv⟩
  obtain ⟨v0, h0⟩ := h0
  have o1 : ⟨b, 0, none⟩ ≠ (⟨b, 1, none⟩ : Addr) := by intro h; injection h with _ h2 _; cases h2
  have o5 : ⟨b, 0, none⟩ ≠ (⟨5, 0, none⟩ : Addr) := by intro h; injection h with h2 _ _; exact hne h2
  have e1 := fun y => World.cell?_setCell_other w ⟨b, 0, none⟩ ⟨b, 1, none⟩ y o1
  have e5 := fun y => World.cell?_setCell_other w ⟨b, 0, none⟩ ⟨5, 0, none⟩ y o5
  have e0 := fun y => World.cell?_setCell_same w ⟨b, 0, none⟩ y h0
  cases st with
  | none =>
    obtain ⟨_, h1⟩ := h
    go_enter Tryz.func82, Tryz.ntmps82
    go_wp2
    (try simp only [Exit.inBlock, Exit.then])
    refine bodyPost_end (results_none rfl _ _ _) rfl ?_
    refine ⟨⟨_, rfl⟩, ⟨hB, hbD, by simpa [World.setCell] using hDw, fun i => ?_, ?_, ?_⟩, Rd.frame _ _⟩
    · rw [World.frozen?_setCell]; exact hf i
    · exact e0 _
    · exact (e1 _).trans h1
  | some l =>
    obtain ⟨_, h1⟩ := h
    go_enter Tryz.func82, Tryz.ntmps82
    go_wp2
    (try simp only [Exit.inBlock, Exit.then])
    refine bodyPost_end (results_none rfl _ _ _) rfl ?_
    refine ⟨⟨_, rfl⟩, ⟨hB, hbD, by simpa [World.setCell] using hDw, fun i => ?_, ?_, ?_⟩, grownBy_trans (Rd.frame _ _) (Rd.frame _ _)⟩
    · rw [World.frozen?_setCell, World.frozen?_setCell]; exact hf i
    · rw [World.cell?_setCell_other _ _ _ _ (Ne.symm o1)]; exact e0 _
    · exact World.cell?_setCell_same _ _ _ ((e1 _).trans h1)

set_option maxHeartbeats 4000000 in
set_option maxRecDepth 100000 in
theorem number_any (b : Nat) (w : World) (A : Nat → Addr) (B D : Nat) (st : RSt) (hs : Sents w A B) (h : Rd w b A B D st) :
    Calls Tryz.prog 91 #[.pointer (some ⟨b, 0, none⟩)] w fun e w' => e = .returned (.int .i64 ((rdNum st).1 : Nat)) ∧ Rd w' b A B D (rdNum st).2 ∧ w.grownBy w' (some b) := by
  have HR : Hid (Rd w b A B D st) := h
  obtain ⟨hB, hbD, hDw, hf, h⟩ := h
  cases st with
  | none =>
    obtain ⟨h0, h1⟩ := h
    go_enter Tryz.func91, Tryz.ntmps91
    go_wp2
    refine wp_loop_rounds 1 ?_
    rw [rounds_succ]
    go_wp2_with (go_at_call 82; refine (refuse_any b w A B D none hs HR.out).mono ?_; rintro e w1 ⟨⟨v, rfl⟩, hr, hg⟩)
    go_ret
    exact ⟨rfl, hr, hg⟩
  | some l =>
    obtain ⟨⟨v, h0, hbs, hfit⟩, h1⟩ := h
    have HB : Hid (Bs w v l) := hbs
    obtain ⟨a, n, c, rfl, hnc, hD⟩ := hfit
    obtain ⟨hl, h8, a', cap, e, hc⟩ := hbs
    injection e with e1 e2 e3
    subst e1 e2 e3
    unfold maxLen at hl
    have hf0 := hf 0
    go_enter Tryz.func91, Tryz.ntmps91
    go_wp2
    go_loop [3, 4] (fun m i => ∃ k : Nat, k ≤ 5 ∧ i = .int .i64 k ∧ m = .int .i64 (valL l k : Nat) ∧ numR l = numAt l (5 - k) k) (fun _ i => 5 - (intOf i).toNat)
    case atStart => exact ⟨0, by omega, rfl, rfl, rfl⟩
    case round =>
      obtain ⟨k, hk, rfl, rfl, hnum⟩ := hrel
      by_cases hk5 : k < 5
      · by_cases hlt : k < l.length
        · obtain ⟨b', off, rfl, hcell⟩ := hc k hlt
          have hck := hcell k hlt
          have h8k := byte_at h8 k
          have hA := and_127 _ h8k.1 h8k.2
          have hx : (l[k]?.getD 0).toNat % 128 < 128 := Nat.mod_lt _ (by decide)
          have hO := or_step (valL l k) ((l[k]?.getD 0).toNat % 128) k (valL_lt l k) hx (by omega)
          have hS : Hid (valL l (k + 1) = valL l k + (l[k]?.getD 0).toNat % 128 * 128 ^ k) := rfl
          have hN : Hid (numAt l (5 - k) k = if 128 ≤ l[k]?.getD 0 then numAt l (5 - (k + 1)) (k + 1) else if l[k]?.getD 0 = 0 ∧ 0 < k then none else some (valL l (k + 1), k + 1)) := by
            have e : 5 - k = (5 - (k + 1)) + 1 := by omega
            rw [e]
            show numAt l _ k = _
            rw [numAt, if_pos hlt]
          have eg : l[k]?.getD 0 = l[k] := by simp [hlt]
          rw [eg] at hck h8k hA hx hO hS hN
          generalize hxx : l[k].toNat % 128 = x at hA hx hO hS
          generalize hcc : l[k] = cc at hck h8k hA hN
          generalize hvv : valL l k = V at hO hS
          obtain ⟨b0, b1⟩ := h8k
          clear hxx hcc hvv hcell hc eg h8
          by_cases h128 : 128 ≤ cc
          · rw [if_pos h128] at hN
            obtain rfl | rfl | rfl | rfl | rfl : k = 0 ∨ k = 1 ∨ k = 2 ∨ k = 3 ∨ k = 4 := by omega
            all_goals
              simp at hO
              (try rw [Nat.add_zero] at hck)
              go_wp2
              go_round
              case rel => first | exact ⟨1, by decide, rfl, by rw [hS.out]; simp, hnum.trans hN.out⟩ | exact ⟨2, by decide, rfl, by rw [hS.out]; simp, hnum.trans hN.out⟩ | exact ⟨3, by decide, rfl, by rw [hS.out]; simp, hnum.trans hN.out⟩ | exact ⟨4, by decide, rfl, by rw [hS.out]; simp, hnum.trans hN.out⟩ | exact ⟨5, by decide, rfl, by rw [hS.out]; simp, hnum.trans hN.out⟩
              case measure => simp [intOf]
          · rw [if_neg h128] at hN
            by_cases hz : cc = 0 ∧ 0 < k
            · rw [if_pos hz] at hN
              obtain ⟨rfl, hk0⟩ := hz
              have hnn : numR l = none := hnum.trans hN.out
              obtain rfl | rfl | rfl | rfl : k = 1 ∨ k = 2 ∨ k = 3 ∨ k = 4 := by omega
              all_goals
                simp at hO
                go_wp2_with (go_at_call 82; refine (refuse_any b w A B D (some l) hs HR.out).mono ?_; rintro e w1 ⟨⟨v, rfl⟩, hr, hg⟩)
                go_ret
                rw [rdNum, hnn]
                exact ⟨rfl, hr, hg⟩
            · rw [if_neg hz] at hN
              have hnn : numR l = some (valL l (k + 1), k + 1) := hnum.trans hN.out
              have HW : ∀ (y : Value) (l' : List Int), Bs w y l' → Fits D y l' → Rd (w.setCell ⟨b, 0, none⟩ y) b A B D (some l') := fun y l' hy hfy =>
                ⟨hB, hbD, by simpa [World.setCell] using hDw, fun i => by rw [World.frozen?_setCell]; exact hf i, ⟨y, World.cell?_setCell_same w _ _ h0, hy.setCell h0 trivial y, hfy⟩,
                  (World.cell?_setCell_other w _ _ _ (by intro h; injection h with _ h2 _; cases h2)).trans h1⟩
              have HD := HB.out.drop hnc hD (k + 1) (by omega)
              have HW2 : Hid (Rd (w.setCell ⟨b, 0, none⟩ (sliced (some ⟨b', off, none⟩) (k + 1) l.length c 1)) b A B D (some (l.drop (k + 1)))) := HW _ _ HD.1 HD.2
              clear HW HD
              have hzz : ¬ (cc = 0 ∧ (0 : Int) < k) := by omega
              obtain rfl | rfl | rfl | rfl | rfl : k = 0 ∨ k = 1 ∨ k = 2 ∨ k = 3 ∨ k = 4 := by omega
              all_goals
                simp at hO
                (try rw [Nat.add_zero] at hck)
                go_wp2
                all_goals go_ret
                all_goals rw [rdNum, hnn]
                all_goals exact ⟨by rw [hS.out]; simp, by have h2 := HW2.out; go_light; simp_all [sliced, cell_add], Rd.frame _ _⟩
        · have hnn : numR l = none := by
            rw [hnum]
            have e : 5 - k = (5 - (k + 1)) + 1 := by omega
            rw [e, numAt, if_neg hlt]
          go_wp2_with (go_at_call 82; refine (refuse_any b w A B D (some l) hs HR.out).mono ?_; rintro e w1 ⟨⟨v, rfl⟩, hr, hg⟩)
          go_ret
          rw [rdNum, hnn]
          exact ⟨rfl, hr, hg⟩
      · have e : k = 5 := by omega
        subst e
        go_wp2_with (go_at_call 82; refine (refuse_any b w A B D (some l) hs HR.out).mono ?_; rintro e w1 ⟨⟨v, rfl⟩, hr, hg⟩)
        go_ret
        rw [rdNum, hnum]
        exact ⟨rfl, hr, hg⟩
end Go.Proofs.YtafmjckpbcijoaaGreatDoor

/-
  impl.reader: text, end.
-/
namespace Go.Proofs.YtafmjckpbcijoaaGreatDoor
open Go.RowKit
set_option linter.unusedVariables false

theorem elem22 : Tryz.prog.elem 22 = 5 := by rw [Program.elem, Tryz.underlying22]
theorem under22 : Tryz.prog.underlying 22 = some (.slice (Tryz.prog.elem 22)) := by rw [elem22]; exact Tryz.underlying22

theorem slice_h (a : Option Addr) (len c n : Nat) (h : n ≤ c) (wx : World) : (Instr.slice 22 (.slice a len c) none (some (.int .i64 (n : Int))) none).run Tryz.prog wx = .ok (sliced a 0 n c 1) wx := by
  rw [run_slice_h wx 22 a len c under22 .i64 (n : Int) (by omega) (by omega), elem22, size5]
  rfl
theorem slice_l (a : Option Addr) (len c n : Nat) (h : n ≤ len) (wx : World) : (Instr.slice 22 (.slice a len c) (some (.int .i64 (n : Int))) none none).run Tryz.prog wx = .ok (sliced a n len c 1) wx := by
  rw [run_slice_l wx 22 a len c under22 .i64 (n : Int) (by omega) (by omega), elem22, size5]
  rfl

theorem conv_zero (a : Option Addr) (c : Nat) (w : World) : (convert 22 9 (.slice a 0 c)).run Tryz.prog w = .ok (.string (strOfNums [])) w := by
  cases a with
  | none =>
    rw [run_convert_bytes_nil w 22 5 Tryz.underlying22 Tryz.underlying5 0 c 9 Tryz.underlying9]
    rfl
  | some a =>
    have hl : (loadCells a 0).run Tryz.prog w = .ok (([] : List Int).map (Value.int .u8)).toArray w := by
      simpa using run_loadCells_list (P := Tryz.prog) w a [] (fun j v hj => by simp at hj)
    rw [run_convert_bytes_string w 22 9 5 (some a) 0 c Tryz.underlying22 Tryz.underlying5 Tryz.underlying9, run_bytesToString w a 0 c [] hl]
    rfl

set_option maxRecDepth 100000 in
theorem conv_take {w : World} {a : Option Addr} {len c : Nat} {l : List Int} (h : Bs w (.slice a len c) l) (hc : len ≤ c) (n : Nat) (hn : n ≤ l.length) :
    (convert 22 9 (sliced a 0 n c 1)).run Tryz.prog w = .ok (.string (strOfNums (l.take n))) w := by
  by_cases h0 : n = 0
  · subst h0
    rw [List.take_zero]
    exact conv_zero (if c = 0 then a else a.map (·.add (0 * 1))) (c - 0) w
  · obtain ⟨hl, h8, a', cap, e, hcell⟩ := h
    injection e with e1 e2 e3
    subst e1 e2 e3
    obtain ⟨b, off, rfl, hj⟩ := hcell 0 (by omega)
    have hne : ¬ c = 0 := by omega
    have hs : sliced (some ⟨b, off, none⟩) 0 n c 1 = .slice (some ⟨b, off, none⟩) n c := by simp [sliced, hne, cell_add]
    rw [hs]
    refine run_convert_bytes_arg w 22 5 Tryz.underlying22 Tryz.underlying5 b off n c (l.take n) (by simp; omega) (fun i hi => ?_) 9 Tryz.underlying9
    rw [hj i (by omega)]
    simp [List.getD, hi]

theorem rdNum_none {st : RSt} (h : (rdNum st).2 = none) : (rdNum st).1 = 0 := by
  unfold rdNum at h ⊢
  split
  · rfl
  · split
    · rfl
    · next h' => simp [h'] at h

set_option maxHeartbeats 4000000 in
set_option maxRecDepth 100000 in
theorem text_any (b : Nat) (w : World) (A : Nat → Addr) (B D : Nat) (st : RSt) (hs : Sents w A B) (h : Rd w b A B D st) :
    Calls Tryz.prog 92 #[.pointer (some ⟨b, 0, none⟩)] w fun e w' => e = .returned (.string (rdText st).1) ∧ Rd w' b A B D (rdText st).2 ∧ w.grownBy w' (some b) := by
  have HN : Hid (Calls Tryz.prog 91 #[.pointer (some ⟨b, 0, none⟩)] w fun e w' => e = .returned (.int .i64 ((rdNum st).1 : Nat)) ∧ Rd w' b A B D (rdNum st).2 ∧ w.grownBy w' (some b)) := number_any b w A B D st hs h
  have hB0 := h.1
  have hbD := h.2.1
  have hn := rdNum_lt st
  have h0 := @rdNum_none st
  unfold rdText
  generalize (rdNum st).1 = n at HN hn h0
  generalize (rdNum st).2 = t at HN h0
  cases t with
  | none =>
    obtain rfl := h0 rfl
    have c0 := fun w => conv_zero none 0 w
    have e0 : strOfNums [] = ByteArray.empty := rfl
    rw [e0] at c0
    go_enter Tryz.func92, Tryz.ntmps92
    go_wp2_with (go_at_call 91; refine HN.out.mono ?_; rintro e w1 ⟨rfl, hr, hg⟩; obtain ⟨_, _, hDw, hf, q0, q1⟩ := hr; have hf0 := hf 0)
    go_ret
    refine ⟨rfl, ⟨hB0, hbD, by simpa [World.setCell] using hDw, fun i => ?_, ?_, ?_⟩, grownBy_trans hg (Rd.frame _ _)⟩
    · rw [World.frozen?_setCell]; exact hf i
    · exact World.cell?_setCell_same _ _ _ q0
    · rw [World.cell?_setCell_other _ _ _ _ (by intro h; injection h with _ h2 _; cases h2)]; exact q1
  | some l =>
    clear h0
    by_cases hlong : 64 < n ∨ l.length < n
    · simp only [if_pos hlong]
      have hl64 : 64 < (n : Int) ∨ (l.length : Int) < n := by omega
      go_enter Tryz.func92, Tryz.ntmps92
      go_wp2_with (first
        | (go_at_call 91; refine HN.out.mono ?_; rintro e w1 ⟨rfl, hr, hg⟩; have HR : Hid (Rd w1 b A B D (some l)) := hr; obtain ⟨_, _, hDw, hf, ⟨v, q0, ⟨_, _, a, c, rfl, _⟩, _⟩, q1⟩ := hr; have hs1 := hs.kept (grown_below hg hB0 hs.le))
        | (go_at_call 82; refine (refuse_any b _ A B D (some l) hs1 HR.out).mono ?_; rintro e w2 ⟨⟨v, rfl⟩, hr2, hg2⟩))
      all_goals go_ret
      all_goals exact ⟨rfl, hr2, grownBy_trans hg hg2⟩
    · simp only [if_neg hlong]
      have hl64 : (n : Int) ≤ 64 ∧ (n : Int) ≤ l.length := by omega
      go_enter Tryz.func92, Tryz.ntmps92
      go_wp2_with (first
        | (go_at_call 91; refine HN.out.mono ?_; rintro e w1 ⟨rfl, hr, hg⟩; obtain ⟨_, _, hDw, hf, ⟨v, q0, hbs, ⟨a, len, c, rfl, hlc, hD⟩⟩, q1⟩ := hr; have hf0 := hf 0; have HB : Hid (Bs w1 (.slice a len c) l) := hbs; have el : len = l.length := (by obtain ⟨_, _, _, _, e, _⟩ := hbs; injection e); subst el; clear hbs; have t1 := slice_h a l.length c n (by omega); have t2 := slice_l a l.length c n (by omega); have cv := conv_take HB.out hlc n (by omega); have dr := HB.out.drop hlc hD n (by omega); obtain ⟨a2, n2, c2, e2, _, _⟩ := dr.2; rw [e2] at t2 dr; have DR : Hid (Bs w1 (.slice a2 n2 c2) (l.drop n) ∧ Fits D (.slice a2 n2 c2) (l.drop n)) := dr; generalize sliced a 0 n c 1 = S1 at t1 cv; clear dr e2))
      go_ret
      refine ⟨rfl, ⟨hB0, hbD, by simpa [World.setCell] using hDw, fun i => ?_, ⟨_, ?_, DR.out.1.setCell q0 trivial _, DR.out.2⟩, ?_⟩, grownBy_trans hg (Rd.frame _ _)⟩
      · rw [World.frozen?_setCell]; exact hf i
      · exact World.cell?_setCell_same _ _ _ q0
      · rw [World.cell?_setCell_other _ _ _ _ (by intro h; injection h with _ h2 _; cases h2)]; exact q1

theorem grown_cell {w w' : World} {b q : Nat} (h : w.grownBy w' (some b)) (hq : q < w.heap.size) (hne : q ≠ b) : (∀ o, w'.cell? ⟨q, o, none⟩ = w.cell? ⟨q, o, none⟩) ∧ (∀ o, w'.frozen? ⟨q, o, none⟩ = w.frozen? ⟨q, o, none⟩) := by
  have hb := h.block q hq (by intro e; injection e with e; exact hne e)
  exact ⟨fun o => World.cell?_of_block (w := w) hb, fun o => by simp only [World.frozen?, hb]⟩

/-- number, with what stays -/
theorem number_s (b : Nat) (w : World) (A : Nat → Addr) (B D : Nat) (st : RSt) (hs : Sents w A B) (h : Rd w b A B D st) :
    Calls Tryz.prog 91 #[.pointer (some ⟨b, 0, none⟩)] w fun e w' => e = .returned (.int .i64 ((rdNum st).1 : Nat)) ∧ Sents w' A B ∧ Rd w' b A B D (rdNum st).2 ∧ w.grownBy w' (some b) :=
  (number_any b w A B D st hs h).mono fun e w' ⟨h1, h2, h3⟩ => ⟨h1, hs.kept (grown_below h3 h.1 hs.le), h2, h3⟩
theorem text_s (b : Nat) (w : World) (A : Nat → Addr) (B D : Nat) (st : RSt) (hs : Sents w A B) (h : Rd w b A B D st) :
    Calls Tryz.prog 92 #[.pointer (some ⟨b, 0, none⟩)] w fun e w' => e = .returned (.string (rdText st).1) ∧ Sents w' A B ∧ Rd w' b A B D (rdText st).2 ∧ w.grownBy w' (some b) :=
  (text_any b w A B D st hs h).mono fun e w' ⟨h1, h2, h3⟩ => ⟨h1, hs.kept (grown_below h3 h.1 hs.le), h2, h3⟩
theorem grown_alloc {w w' : World} {row : Option Nat} (h : w.grownBy w' row) (o : Obj) : w.grownBy (w'.alloc o) row := grownBy_trans h (World.grownBy_alloc _ _ _)
theorem grown_setNew {w w' : World} {row : Option Nat} (h : w.grownBy w' row) (q i : Nat) (v : Value) (hq : w.heap.size ≤ q) : w.grownBy (w'.setCell ⟨q, i, none⟩ v) row :=
  ⟨h.os, h.tape, h.output, by simpa [World.setCell] using h.size, fun k hk hne => (Below.heap_setCell _ _ _ _ (by show k ≠ q; omega)).trans (h.block k hk hne)⟩

/-- what end answers -/
def endV (A : Nat → Addr) (st : RSt) : Value := if st = some [] then .nilIface else refV (A 5) 0

set_option maxHeartbeats 1000000 in
theorem end_any (b : Nat) (w : World) (A : Nat → Addr) (B D : Nat) (st : RSt) (hs : Sents w A B) (h : Rd w b A B D st) :
    Calls Tryz.prog 64 #[.pointer (some ⟨b, 0, none⟩)] w fun e w' => e = .returned (endV A st) ∧ w.grownBy w' (some b) := by
  have HR : Hid (Rd w b A B D st) := h
  obtain ⟨hB, hbD, hDw, hf, h⟩ := h
  cases st with
  | none =>
    obtain ⟨h0, h1⟩ := h
    go_enter Tryz.func64, Tryz.ntmps64
    go_wp2
    go_ret
    exact ⟨rfl, grownBy_refl _ _⟩
  | some l =>
    obtain ⟨⟨v, h0, ⟨hl, _, a, c, rfl, _⟩, _⟩, h1⟩ := h
    unfold maxLen at hl
    cases l with
    | nil =>
      go_enter Tryz.func64, Tryz.ntmps64
      go_wp2
      go_ret
      exact ⟨rfl, grownBy_refl _ _⟩
    | cons x l =>
      have hp : (0 : Int) < (x :: l).length := by simp
      generalize hL : x :: l = L at *
      have hv : endV A (some L) = refV (A 5) 0 := by subst hL; rfl
      rw [hv]
      go_enter Tryz.func64, Tryz.ntmps64
      go_wp2_with (go_at_call 82; refine (refuse_any b w A B D (some L) hs HR.out).mono ?_; rintro e w1 ⟨⟨v, rfl⟩, hr, hg⟩; obtain ⟨_, _, _, _, q0, q1⟩ := hr)
      go_ret
      exact ⟨rfl, hg⟩
end Go.Proofs.YtafmjckpbcijoaaGreatDoor

/-
  impl.wordAt, impl.openFrame.
-/
namespace Go.Proofs.YtafmjckpbcijoaaGreatDoor
open Go.RowKit
set_option linter.unusedVariables false

/-- the word at a place, lowest byte first -/
def wordN (l : List Int) (i : Nat) : Int := l[i]?.getD 0 + l[i + 1]?.getD 0 * 256 + l[i + 2]?.getD 0 * 65536 + l[i + 3]?.getD 0 * 16777216

theorem or_u32 (k : Nat) (a b : Int) (ha : 0 ≤ a) (ha' : a < 2 ^ k) (hb : 0 ≤ b) (hb' : b ≤ 255) (hk : k ≤ 24) : bits .or .u32 a (b * 2 ^ k) = a + b * 2 ^ k := by
  obtain ⟨a, rfl⟩ := Int.eq_ofNat_of_zero_le ha
  obtain ⟨b, rfl⟩ := Int.eq_ofNat_of_zero_le hb
  have hp : 2 ^ k ≤ 2 ^ 24 := Nat.pow_le_pow_right (by decide) hk
  have h5 : (2 : Nat) ^ 24 = 16777216 := by decide
  have ha2 : a < 2 ^ k := by exact_mod_cast ha'
  have hm : b * 2 ^ k ≤ 255 * 2 ^ k := Nat.mul_le_mul_right _ (by omega)
  have e : (b : Int) * 2 ^ k = ((b * 2 ^ k : Nat) : Int) := by simp
  rw [e, u32_or_nat a (b * 2 ^ k) (by omega) (by omega), Nat.or_comm, nat_join k (b * 2 ^ k) a (Nat.mul_mod_left _ _) ha2]
  omega

set_option maxHeartbeats 2000000 in
set_option maxRecDepth 100000 in
theorem wordAt0 (v : Value) (l : List Int) (w : World) (hv : Bs w v l) (hl : 8 < l.length) :
    Calls Tryz.prog 78 #[v, .int .i64 0] w fun e w' => e = .returned (.int .u32 (wordN l 0)) ∧ Below w.heap.size w w' := by
  obtain ⟨hm, h8, a, cap, rfl, hc⟩ := hv
  obtain ⟨b, off, rfl, hcell⟩ := hc 0 (by omega)
  have c0 := hcell 0 (by omega)
  have c1 := hcell 1 (by omega)
  have c2 := hcell 2 (by omega)
  have c3 := hcell 3 (by omega)
  have b0 := byte_at h8 0
  have b1 := byte_at h8 1
  have b2 := byte_at h8 2
  have b3 := byte_at h8 3
  unfold wordN
  simp only [Nat.zero_add, Nat.add_zero] at *
  generalize l[0]?.getD 0 = x0 at *
  generalize l[1]?.getD 0 = x1 at *
  generalize l[2]?.getD 0 = x2 at *
  generalize l[3]?.getD 0 = x3 at *
  have o1 := or_u32 8 x0 x1 (by omega) (by omega) (by omega) (by omega) (by omega)
  have o2 := or_u32 16 (x0 + x1 * 256) x2 (by omega) (by omega) (by omega) (by omega) (by omega)
  have o3 := or_u32 24 (x0 + x1 * 256 + x2 * 65536) x3 (by omega) (by omega) (by omega) (by omega) (by omega)
  simp only [Int.reducePow] at o1 o2 o3
  clear hcell hc h8
  unfold maxLen at hm
  go_enter Tryz.func78, Tryz.ntmps78
  go_wp2
  go_quiet (fail)
  go_wp2
  go_ret
  exact ⟨rfl, rfl, rfl, rfl, Nat.le_refl _, fun _ _ => rfl⟩
set_option maxHeartbeats 2000000 in
set_option maxRecDepth 100000 in
theorem wordAt4 (v : Value) (l : List Int) (w : World) (hv : Bs w v l) (hl : 8 < l.length) :
    Calls Tryz.prog 78 #[v, .int .i64 4] w fun e w' => e = .returned (.int .u32 (wordN l 4)) ∧ Below w.heap.size w w' := by
  obtain ⟨hm, h8, a, cap, rfl, hc⟩ := hv
  obtain ⟨b, off, rfl, hcell⟩ := hc 0 (by omega)
  have c0 := hcell 4 (by omega)
  have c1 := hcell 5 (by omega)
  have c2 := hcell 6 (by omega)
  have c3 := hcell 7 (by omega)
  have b0 := byte_at h8 4
  have b1 := byte_at h8 5
  have b2 := byte_at h8 6
  have b3 := byte_at h8 7
  unfold wordN
  simp only [Nat.reduceAdd] at *
  generalize l[4]?.getD 0 = x0 at *
  generalize l[5]?.getD 0 = x1 at *
  generalize l[6]?.getD 0 = x2 at *
  generalize l[7]?.getD 0 = x3 at *
  have o1 := or_u32 8 x0 x1 (by omega) (by omega) (by omega) (by omega) (by omega)
  have o2 := or_u32 16 (x0 + x1 * 256) x2 (by omega) (by omega) (by omega) (by omega) (by omega)
  have o3 := or_u32 24 (x0 + x1 * 256 + x2 * 65536) x3 (by omega) (by omega) (by omega) (by omega) (by omega)
  simp only [Int.reducePow] at o1 o2 o3
  clear hcell hc h8
  unfold maxLen at hm
  go_enter Tryz.func78, Tryz.ntmps78
  go_wp2
  go_quiet (fail)
  go_wp2
  go_ret
  exact ⟨rfl, rfl, rfl, rfl, Nat.le_refl _, fun _ _ => rfl⟩

end Go.Proofs.YtafmjckpbcijoaaGreatDoor

/-
  impl.openFrame.
-/
namespace Go.Proofs.YtafmjckpbcijoaaGreatDoor
open Go.RowKit
set_option linter.unusedVariables false

/-- the code of a frame, but for its kind -/
def sumC (l : List Int) : Nat :=
  if ¬ (9 ≤ l.length ∧ l.length ≤ 16384) then 1
  else if wordN l 0 ≠ (l.length : Int) - 8 then 2
  else if wordN l 4 ≠ (crcOf (l.drop 8) : Nat) then 3 else 0

theorem sumC_len {l : List Int} (h : sumC l = 0) : 9 ≤ l.length ∧ l.length ≤ 16384 := by
  unfold sumC at h
  split at h
  · cases h
  · omega

set_option maxHeartbeats 4000000 in
set_option maxRecDepth 100000 in
theorem openFrame_any (a : Option Addr) (len c : Nat) (l : List Int) (w : World) (A : Nat → Addr) (B : Nat) (hs : Sents w A B) (hv : Bs w (.slice a len c) l) (hc : len ≤ c) (D : Nat) (hD : 0 < l.length → ∃ x, a = some x ∧ x.block < D) :
    Calls Tryz.prog 62 #[.slice a len c] w fun e w' =>
      e = .returned (if sumC l = 0 then .tuple #[sliced a 8 len c 1, .nilIface] else .tuple #[.slice none 0 0, refV (A (sumC l)) 0]) ∧ Below w.heap.size w w' := by
  have HV : Hid (Bs w (.slice a len c) l) := hv
  have el : len = l.length := by obtain ⟨_, _, _, _, e, _⟩ := hv; injection e
  have hml := hv.1
  unfold maxLen at hml
  subst el
  clear hv
  by_cases h1 : 9 ≤ l.length ∧ l.length ≤ 16384
  · have t1 : ∀ wx, (Instr.slice 22 (.slice a l.length c) (some (.int .i64 8)) none none).run Tryz.prog wx = .ok (sliced a 8 l.length c 1) wx := slice_l a l.length c 8 (by omega)
    have hin : inB l.length 9 16384 = true := by rw [inB_iff]; omega
    have hd := HV.out.drop hc hD 8 (by omega)
    obtain ⟨a2, n2, c2, e2, _, _⟩ := hd.2
    rw [e2] at t1 hd ⊢
    have e3 : n2 = l.length - 8 := by
      obtain ⟨_, _, _, _, e, _⟩ := hd.1
      injection e with _ e _
      rw [e, List.length_drop]
    subst e3
    have HD : Hid (Bs w (.slice a2 (l.length - 8) c2) (l.drop 8)) := hd.1
    clear hd e2
    have g2 := hs.g2
    have g3 := hs.g3
    have hsub : ((l.length - 8 : Nat) : Int) = (l.length : Int) - 8 := by omega
    have y1 : True := trivial
    have hcr : crcOf (l.drop 8) < 4294967296 := xor_lt _ _ (crcSt_lt (l.drop 8) HD.out.2.1 _) (by decide)
    have hS : sumC l = if wordN l 0 ≠ (l.length : Int) - 8 then 2 else if wordN l 4 ≠ (crcOf (l.drop 8) : Nat) then 3 else 0 := by
      unfold sumC
      rw [if_neg (fun h => h h1)]
    have HW0 : ∀ w' : World, Bs w' (.slice a l.length c) l → Hid (Calls Tryz.prog 78 #[.slice a l.length c, .int .i64 0] w' fun e w'' => e = .returned (.int .u32 (wordN l 0)) ∧ Below w'.heap.size w' w'') := fun w' h => wordAt0 _ l w' h (by omega)
    have HW4 : ∀ w' : World, Bs w' (.slice a l.length c) l → Hid (Calls Tryz.prog 78 #[.slice a l.length c, .int .i64 4] w' fun e w'' => e = .returned (.int .u32 (wordN l 4)) ∧ Below w'.heap.size w' w'') := fun w' h => wordAt4 _ l w' h (by omega)
    have HC : ∀ w' : World, Bs w' (.slice a2 (l.length - 8) c2) (l.drop 8) → Hid (Calls Tryz.prog 75 #[.slice a2 (l.length - 8) c2] w' fun e w'' => e = .returned (.int .u32 (crcOf (l.drop 8) : Nat)) ∧ w'' = w') := fun w' h => implCrc_any _ _ w' h
    generalize crcOf (l.drop 8) = cr at hcr hS HC
    generalize wordN l 0 = w0 at hS HW0
    generalize wordN l 4 = w4 at hS HW4
    by_cases h2 : w0 = (l.length : Int) - 8
    · by_cases h3 : w4 = (cr : Nat)
      · have hsc : sumC l = 0 := by simp [hS, h2, h3]
        rw [if_pos hsc]
        go_enter Tryz.func62, Tryz.ntmps62
        go_wp2_with (first
          | (go_at_call 52; refine (within_any _ _ _ _).mono ?_; rw [hin]; rintro e w1 ⟨rfl, rfl⟩)
          | (go_at_call 78; clear y1; refine (HW0 _ HV.out).out.mono ?_; rw [h2]; rintro e w1 ⟨rfl, hb1⟩)
          | (go_at_call 78; refine (HW4 _ (HV.out.below hb1)).out.mono ?_; rw [h3]; rintro e w2 ⟨rfl, hb2⟩; have hB := hb1.trans (hb2.mono hb1.size))
          | (go_at_call 75; refine (HC _ (HD.out.below hB)).out.mono ?_; rintro e w3 ⟨rfl, rfl⟩))
        go_ret2
        exact ⟨rfl, hB⟩
      · have hsc : sumC l = 3 := by simp [hS, h2, h3]
        rw [hsc]
        simp only [Nat.succ_ne_zero, if_false]
        have n3 : (w4 != (cr : Int)) = true := by simpa using h3
        go_enter Tryz.func62, Tryz.ntmps62
        go_wp2_with (first
          | (go_at_call 52; refine (within_any _ _ _ _).mono ?_; rw [hin]; rintro e w1 ⟨rfl, rfl⟩)
          | (go_at_call 78; clear y1; refine (HW0 _ HV.out).out.mono ?_; rw [h2]; rintro e w1 ⟨rfl, hb1⟩)
          | (go_at_call 78; refine (HW4 _ (HV.out.below hb1)).out.mono ?_; rintro e w2 ⟨rfl, hb2⟩; have hB := hb1.trans (hb2.mono hb1.size); have g3' := (hs.below hB).g3)
          | (go_at_call 75; refine (HC _ (HD.out.below hB)).out.mono ?_; rintro e w3 ⟨rfl, rfl⟩))
        go_quiet (fail)
        go_wp2
        go_ret2
        exact ⟨rfl, ⟨hB.os, hB.tape, hB.output, hB.size, hB.block⟩⟩
    · have hsc : sumC l = 2 := by simp [hS, h2]
      rw [hsc]
      simp only [Nat.succ_ne_zero, if_false]
      have n2 : (w0 != (l.length : Int) - 8) = true := by simpa using h2
      go_enter Tryz.func62, Tryz.ntmps62
      go_wp2_with (first
        | (go_at_call 52; refine (within_any _ _ _ _).mono ?_; rw [hin]; rintro e w1 ⟨rfl, rfl⟩)
        | (go_at_call 78; clear y1; refine (HW0 _ HV.out).out.mono ?_; rintro e w1 ⟨rfl, hb1⟩; have g2' := (hs.below hb1).g2))
      go_quiet (fail)
      go_wp2
      go_ret2
      exact ⟨rfl, ⟨hb1.os, hb1.tape, hb1.output, hb1.size, hb1.block⟩⟩
  · have hsc : sumC l = 1 := by simp [sumC, h1]
    rw [hsc]
    simp only [Nat.succ_ne_zero, if_false]
    have hin : inB l.length 9 16384 = false := by rw [inB_not]; omega
    have g1 := hs.g1
    go_enter Tryz.func62, Tryz.ntmps62
    go_wp2_with (go_at_call 52; refine (within_any _ _ _ _).mono ?_; rw [hin]; rintro e w1 ⟨rfl, rfl⟩)
    go_quiet (fail)
    go_wp2
    go_ret2
    exact ⟨rfl, rfl, rfl, rfl, Nat.le_refl _, fun _ _ => rfl⟩
end Go.Proofs.YtafmjckpbcijoaaGreatDoor

/-
  A frame that is laid is a good one (pure).
-/
namespace Go.Proofs.YtafmjckpbcijoaaGreatDoor
open Go.RowKit
set_option linter.unusedVariables false
set_option linter.unusedSimpArgs false

theorem wordL_len (n : Nat) : (wordL n).length = 4 := by simp [wordL]
theorem wordN_word (n : Nat) (h : n < 4294967296) (r : List Int) : wordN (wordL n ++ r) 0 = n := by
  unfold wordN wordL
  simp
  omega
theorem wordN_word4 (m n : Nat) (h : n < 4294967296) (r : List Int) : wordN (wordL m ++ (wordL n ++ r)) 4 = n := by
  unfold wordN wordL
  simp
  omega
theorem frameL_len (b : List Int) : (frameL b).length = 8 + b.length := by
  unfold frameL
  simp [wordL_len]
  omega
theorem sum_frame (b : List Int) (h8 : ∀ x ∈ b, 0 ≤ x ∧ x ≤ 255) (h1 : 0 < b.length) (h2 : b.length ≤ 16376) : sumC (frameL b) = 0 := by
  have hl := frameL_len b
  have hw : wordN (frameL b) 0 = b.length := by
    unfold frameL
    rw [List.append_assoc]
    exact wordN_word b.length (by omega) _
  have hc : wordN (frameL b) 4 = crcOf b := by
    unfold frameL
    rw [List.append_assoc]
    exact wordN_word4 b.length (crcOf b) (crcOf_lt b h8) _
  have hd : (frameL b).drop 8 = b := by
    unfold frameL
    rw [List.drop_append_of_le_length (by simp [wordL_len]), List.drop_of_length_le (by simp [wordL_len])]
    rfl
  unfold sumC
  rw [hd, hw, hc, if_neg (by omega), if_neg (by omega), if_neg (by simp)]
theorem frame_8 (b : List Int) (h1 : 0 < b.length) : (frameL b)[8]?.getD 0 = b[0]?.getD 0 ∧ (frameL b).drop 9 = b.drop 1 := by
  have hl : (wordL b.length ++ wordL (crcOf b)).length = 8 := by simp [wordL_len]
  refine ⟨?_, ?_⟩
  · unfold frameL
    rw [List.getElem?_append_right (by omega), hl]
  · unfold frameL
    rw [List.drop_append, hl, List.drop_of_length_le (by omega)]
    simp
end Go.Proofs.YtafmjckpbcijoaaGreatDoor

/-
  What is drawn is not too long; what is encoded is a good frame (pure).
-/
namespace Go.Proofs.YtafmjckpbcijoaaGreatDoor
open Go.RowKit
set_option linter.unusedVariables false
set_option linter.unusedSimpArgs false

theorem encC_ok (l : List Int) : (encC l).ky.size ≤ 100 ∧ (encC l).vl.size ≤ 100 ∧ (encC l).ol.size ≤ 100 := by
  have hf := cmd_facts l 0
  have h1 : ∀ k, pickV l k 2 < 2 := fun k => pickV_lt l k 2 (by decide)
  unfold encC
  split
  · unfold badC
    have a1 := h1 (cmdK l 0 + 1 + 1)
    have a2 := h1 (cmdK l 0 + 1 + 1 + 1 + 1)
    have a3 := h1 (cmdK l 0 + 1 + 1 + 1 + 1 + 1)
    have a4 := h1 (cmdK l 0 + 1 + 1 + 1 + 1 + 1 + 1)
    unfold drC
    repeat' split
    all_goals (try dsimp only)
    all_goals (try simp only [longV_size])
    all_goals first | omega | (refine ⟨?_, ?_, ?_⟩ <;> first | omega | decide)
  · unfold drC
    dsimp only
    omega
theorem encY_ok (l : List Int) : (encY l).vl.size ≤ 100 := by
  have hf := rep_facts l 0
  have h1 : ∀ k, pickV l k 2 < 2 := fun k => pickV_lt l k 2 (by decide)
  unfold encY
  split
  · unfold badY
    have a1 := h1 (repK l 0 + 1 + 1 + 1)
    unfold drY
    repeat' split
    all_goals (try dsimp only)
    all_goals (try simp only [longV_size])
    all_goals omega
  · unfold drY
    dsimp only
    omega
theorem ite_both {α : Type} {P : α → Prop} {c : Prop} [Decidable c] {a b : α} (ha : P a) (hb : P b) : P (if c then a else b) := by
  by_cases h : c
  · rw [if_pos h]; exact ha
  · rw [if_neg h]; exact hb
theorem badN_len (l : List Int) (V : Int) (k : Nat) (m : MsgE) (hm : m.es.length ≤ 32) : (badN l V k m).1.es.length ≤ 100 := by
  have a1 := pickV_lt l (k + 1) 4 (by decide)
  unfold badN
  repeat' refine ite_both (P := fun z : MsgE × Nat => z.1.es.length ≤ 100) ?_ ?_
  all_goals (try dsimp only)
  all_goals (try simp only [List.length_set, entsD_len])
  all_goals omega
theorem encM_ok (l : List Int) : (encM l).es.length ≤ 100 := by
  have hd : (drM l).es.length ≤ 32 := (msgD_ok l 0).2.2.2.2.1
  unfold encM
  refine ite_both (P := fun z : MsgE => z.es.length ≤ 100) (badN_len _ _ _ _ hd) ?_
  omega
theorem good_frame {b : List Int} (h8 : ∀ x ∈ frameL b, 0 ≤ x ∧ x ≤ 255) (h1 : 0 < b.length) (h2 : b.length ≤ 16376) : sumC (frameL b) = 0 :=
  sum_frame b (fun x hx => h8 x (List.mem_append_right _ hx)) h1 h2
theorem encMsg_good {ki fr td tm li lt cm ok hi : Int} {l : List Ent} (hF : msgF ki fr td tm li lt cm ok hi l = 0) (h8 : ∀ x ∈ encMsg ki fr td tm li lt cm ok hi l, 0 ≤ x ∧ x ≤ 255) : sumC (encMsg ki fr td tm li lt cm ok hi l) = 0 := by
  unfold encMsg at h8 ⊢
  rw [if_pos hF] at h8 ⊢
  obtain ⟨⟨a1, a2⟩, ⟨a3, a4⟩, ⟨a5, a6⟩, ⟨a7, a8⟩, ⟨a9, a10⟩, ⟨a11, a12⟩, ⟨a13, a14⟩, ⟨a15, a16⟩, ⟨a17, a18⟩, hl32, hall⟩ := msgF_ok hF
  obtain ⟨hp, hlen⟩ := msgL_len ki.toNat fr.toNat td.toNat tm.toNat li.toNat lt.toNat cm.toNat ok.toNat hi.toNat l (by simp; omega) hl32 hall
  exact good_frame h8 hp (by omega)
def encCallL (cl sq op : Int) (k v o : ByteArray) : List Int := if callF cl sq op k.size v.size o.size = 0 then frameL (7 :: cmdL cl.toNat sq.toNat op.toNat k v o) else []
theorem encCall_good {cl sq op : Int} {k v o : ByteArray} (hF : cmdF cl sq op k.size v.size o.size = 0) (hop : op ≠ 0) (h8 : ∀ x ∈ encCallL cl sq op k v o, 0 ≤ x ∧ x ≤ 255) : sumC (encCallL cl sq op k v o) = 0 := by
  have hc : callF cl sq op k.size v.size o.size = 0 := by
    unfold callF
    rw [if_neg (fun h => hop h.2)]
    exact hF
  unfold encCallL at h8 ⊢
  rw [if_pos hc] at h8 ⊢
  obtain ⟨a1, a2, a3, a4, a5, a6, a7, a8, a9⟩ := cmdF_ok hF
  have hlen := cmdL_len cl.toNat sq.toNat op.toNat k v o (by omega) (by omega) (by omega) (by omega) (by omega) (by omega)
  exact good_frame h8 (by simp) (by simp; omega)
theorem encReply_good {cl sq st cd ld : Int} {v : ByteArray} (hF : repF cl sq st cd v.size ld = 0) (h8 : ∀ x ∈ encReply cl sq st cd ld v, 0 ≤ x ∧ x ≤ 255) : sumC (encReply cl sq st cd ld v) = 0 := by
  unfold encReply at h8 ⊢
  rw [if_pos hF] at h8 ⊢
  obtain ⟨a1, a2, a3, a4, a5, a6, a7, a8, a9, a10, a11⟩ := repF_ok hF
  obtain ⟨hp, hlen⟩ := repL_len cl.toNat sq.toNat st.toNat cd.toNat ld.toNat v (by omega) (by omega) (by omega) (by omega) (by omega) (by omega)
  exact good_frame h8 hp (by omega)
theorem encReply_bad {cl sq st cd ld : Int} {v : ByteArray} (hF : ¬ repF cl sq st cd v.size ld = 0) : encReply cl sq st cd ld v = [] := by
  unfold encReply
  rw [if_neg hF]
end Go.Proofs.YtafmjckpbcijoaaGreatDoor

/-
  slices.Clone of bytes; spec.l1copy.
-/
namespace Go.Proofs.YtafmjckpbcijoaaGreatDoor
open Go.RowKit
set_option linter.unusedVariables false

set_option maxRecDepth 100000 in
/-- append of nothing, or of bytes that lie somewhere -/
theorem wpl_append_at {w : World} {ops : Array Oper} {rest : List Oper} {o : Oper} {a : Act} {Q : Exit → Act → World → Prop} (hgd : o.guard = none) (s x : Operand)
    (ho : o.op = .call { callee := .builtin .append, args := #[s, x], argTypes := #[22, 22] })
    {B : Nat} {v : Value} {l l2 : List Int} {b off cu : Nat} (hown : Own w B v l) (hs : a.eval s = v) (hu : Bs w (.slice (some ⟨b, off, none⟩) l2.length cu) l2) (hx : a.eval x = .slice (some ⟨b, off, none⟩) l2.length cu) (hlen : l.length + l2.length ≤ 1073741824) (hB : B ≤ w.heap.size)
    (h : ∀ v' w', Own w' B v' (l ++ l2) → Grew w v w' v' → wpList Tryz.prog ops Q rest (a.put o.dst v') w') : wpList Tryz.prog ops Q (o :: rest) a w := by
  obtain ⟨i0, hi, hz0, hz1, hz2⟩ := info_parts infoU8
  obtain ⟨_, h8, au, cu', e, hc⟩ := hu
  refine wpList_append_own_at w hgd s x 22 ho B 5 i0 (.int .u8 0) 1 1 Tryz.underlying22 hi hz0 hz1 hz2 rfl (by decide) v l.length _ hs hown.2 ⟨b, off, none⟩ l2.length cu (l2.map (Value.int .u8)) hx (by simp) ?_ ?_ (by unfold maxLen; omega) (by omega) hB ?_
  · intro j u hj
    rw [cell_add]
    rw [List.getElem?_map] at hj
    cases hk : l2[j]? with
    | none => rw [hk] at hj; cases hj
    | some y =>
      rw [hk] at hj
      have hjl : j < l2.length := by
        rcases Nat.lt_or_ge j l2.length with h' | h'
        · exact h'
        · rw [List.getElem?_eq_none h'] at hk; cases hk
      obtain ⟨b', off', e', hcell⟩ := hc j hjl
      injection e with e1 e2 e3
      rw [← e1] at e'
      injection e' with e'
      injection e' with f1 f2 f3
      subst f1 f2
      rw [hcell j hjl, hk]
      exact hj
  · intro u hu
    simp only [List.mem_map] at hu
    obtain ⟨y, _, rfl⟩ := hu
    rfl
  · intro v' w' h2 h3 _ h5
    refine h v' w' ⟨fun y hy => ?_, by simpa using h2⟩ ⟨h3, h5.imp id fun e => ⟨_, e, Nat.le_refl _⟩⟩
    rcases List.mem_append.1 hy with hy | hy
    · exact hown.1 y hy
    · exact h8 y hy

set_option maxHeartbeats 1000000 in
set_option maxRecDepth 100000 in
theorem clone_any (b off cap : Nat) (l : List Int) (w : World) (hv : Bs w (.slice (some ⟨b, off, none⟩) l.length cap) l) (hl : l.length ≤ 1048576) :
    Calls Tryz.prog 53 #[.slice (some ⟨b, off, none⟩) l.length cap] w fun e w' => ∃ a' cap', e = .returned (.slice a' l.length cap') ∧ Own w' w.heap.size (.slice a' l.length cap') l ∧ Below w.heap.size w w' := by
  have h0 := Own.lit0 w
  have hv' : Hid (Bs (w.alloc (.cells #[] 5)) (.slice (some ⟨b, off, none⟩) l.length cap) l) := hv.below ((Below.refl _ _).alloc (Nat.le_refl _) _)
  have hnil : ∀ u : World, (binOp .eql 22 (.slice (some ⟨b, off, none⟩) l.length cap) (.slice none 0 0)).run Tryz.prog u = .ok (.bool false) u := fun u => by
    rw [Lib.run_eql_slice_nil u 22 5 (some ⟨b, off, none⟩) l.length cap 0 0 Tryz.underlying22]; rfl
  go_enter Tryz.func53, Tryz.ntmps53
  go_wp2_with (at_builtin; refine wpl_append_at rfl (.tmp 5) (.tmp 6) rfl h0 rfl hv'.out rfl (by simp; omega) (by simp) ?_; intro v3 w3 ho3 hg3; have hB3 := hg3.below h0 (by simp))
  go_ret
  rw [List.nil_append] at ho3
  obtain ⟨a', cap', rfl⟩ := ho3.shape
  exact ⟨_, _, rfl, ho3, ((Below.refl _ _).alloc (Nat.le_refl _) _).trans hB3⟩

theorem Own.setLow {w : World} {B : Nat} {v : Value} {l : List Int} (h : Own w B v l) {b i : Nat} (hb : b < B) (x : Value) : Own (w.setCell ⟨b, i, none⟩ x) B v l := by
  refine ⟨h.1, h.2.1, ?_⟩
  rcases h.2.2 with h | ⟨g, cap, cur, hv, hg, hh, r⟩
  · exact .inl h
  · exact .inr ⟨g, cap, cur, hv, hg, (Below.heap_setCell _ _ _ _ (fun e => by simp only at e; omega)).trans hh, r⟩
end Go.Proofs.YtafmjckpbcijoaaGreatDoor

/-
  A byte set in a row of one's own.
-/
namespace Go.Proofs.YtafmjckpbcijoaaGreatDoor
open Go.RowKit
set_option linter.unusedVariables false
set_option linter.unusedSimpArgs false

theorem Own.store {w : World} {B g cap : Nat} {l : List Int} (h : Own w B (.slice (some ⟨g, 0, none⟩) l.length cap) l) (j : Nat) (x : Int) (h8 : 0 ≤ x ∧ x ≤ 255) :
    Own (w.setCell ⟨g, j, none⟩ (.int .u8 x)) B (.slice (some ⟨g, 0, none⟩) l.length cap) (l.set j x) := by
  refine ⟨fun y hy => ?_, ?_⟩
  · rcases List.mem_or_eq_of_mem_set hy with hy | rfl
    · exact h.1 y hy
    · exact h8
  · have := (h.2.stored j (.int .u8 x)).1
    simpa [List.map_set] using this
end Go.Proofs.YtafmjckpbcijoaaGreatDoor

/-
  impl.mod and spec.l1mod: the document's mod.
-/
namespace Go.Proofs.YtafmjckpbcijoaaGreatDoor
open Go.RowKit
set_option linter.unusedVariables false

theorem tmod_lo (x n : Int) (hn : 0 < n) : -n < x.tmod n := Int.lt_tmod_of_pos x hn
theorem tmod_hi (x n : Int) (hn : 0 < n) : x.tmod n < n := Int.tmod_lt_of_pos x hn
theorem tmod_neg (x n : Int) (hn : 0 < n) (h : x.tmod n < 0) : x.tmod n + n = x % n := by
  have e := Int.tmod_add_mul_tdiv x n
  have b1 := tmod_lo x n hn
  have hx : x = (x.tmod n + n) + n * (x.tdiv n - 1) := by rw [Int.mul_sub]; omega
  have : x % n = ((x.tmod n + n) + n * (x.tdiv n - 1)) % n := by rw [← hx]
  rw [this, Int.add_mul_emod_self_left, Int.emod_eq_of_lt] <;> omega
theorem tmod_pos (x n : Int) (hn : 0 < n) (h : ¬ x.tmod n < 0) : x.tmod n = x % n := by
  have e := Int.tmod_add_mul_tdiv x n
  have b2 := tmod_hi x n hn
  have : x % n = (x.tmod n + n * x.tdiv n) % n := by rw [e]
  rw [this, Int.add_mul_emod_self_left, Int.emod_eq_of_lt] <;> omega

/-- the document's mod, as a name that the walk leaves whole -/
def modI (x n : Int) : Int := x % n
theorem modI_ge (x n : Int) (hn : 0 < n) : 0 ≤ modI x n := Int.emod_nonneg _ (by omega)
theorem modI_lt (x n : Int) (hn : 0 < n) : modI x n < n := Int.emod_lt_of_pos _ hn

set_option maxHeartbeats 400000 in
theorem mod_any (x n : Int) (hn : 0 < n) (hN : n < 2 ^ 62) (hx : -(2 ^ 63) ≤ x) (hX : x < 2 ^ 63) (w : World) :
    Calls Tryz.prog 54 #[.int .i64 x, .int .i64 n] w fun e w' => e = .returned (.int .i64 (modI x n)) ∧ w' = w := by
  have b1 := tmod_lo x n hn
  have b2 := tmod_hi x n hn
  by_cases h : x.tmod n < 0
  · have hb := tmod_neg x n hn h
    unfold modI; rw [← hb]
    go_enter Tryz.func54, Tryz.ntmps54
    go_wp2
    go_ret
    exact ⟨by simp; omega, rfl⟩
  · have hb := tmod_pos x n hn h
    unfold modI; rw [← hb]
    go_enter Tryz.func54, Tryz.ntmps54
    go_wp2
    go_ret
    exact ⟨by simp, rfl⟩
end Go.Proofs.YtafmjckpbcijoaaGreatDoor

/-
  impl.Spoil.
-/
namespace Go.Proofs.YtafmjckpbcijoaaGreatDoor
open Go.RowKit
set_option linter.unusedVariables false

def xorB (c m : Int) : Int := bits .xor .u8 c m
/-- what Spoil answers -/
def spoilL (l : List Int) (at' x : Int) : List Int :=
  if inB l.length 1 16384 = true then l.set (modI at' l.length).toNat (xorB (l[(modI at' l.length).toNat]?.getD 0) (1 + modI x 255)) else []
theorem spoilL_le (l : List Int) (at' x : Int) : (spoilL l at' x).length ≤ l.length := by unfold spoilL; split <;> simp
theorem xorB_byte (c m : Int) (h0 : 0 ≤ c) (h1 : c ≤ 255) (h2 : 0 ≤ m) (h3 : m ≤ 255) : 0 ≤ xorB c m ∧ xorB c m ≤ 255 := by
  obtain ⟨a, rfl⟩ := Int.eq_ofNat_of_zero_le h0
  obtain ⟨b, rfl⟩ := Int.eq_ofNat_of_zero_le h2
  have e : xorB a b = ((a ^^^ b : Nat) : Int) := u8_xor_nat a b (by omega) (by omega)
  have hlt : a ^^^ b < 256 := Nat.xor_lt_two_pow (n := 8) (by omega) (by omega)
  rw [e]
  omega

set_option maxHeartbeats 20000000 in
set_option maxRecDepth 100000 in
theorem spoil_any (b off cap : Nat) (l : List Int) (at' x : Int) (w : World) (hv : Bs w (.slice (some ⟨b, off, none⟩) l.length cap) l) (hl : l.length ≤ 1048576) (ha : -(2 ^ 63) ≤ at') (ha' : at' < 2 ^ 63) (hx : -(2 ^ 63) ≤ x) (hx' : x < 2 ^ 63) :
    Calls Tryz.prog 27 #[.slice (some ⟨b, off, none⟩) l.length cap, .int .i64 at', .int .i64 x] w fun e w' => ∃ a' cap', e = .returned (.slice a' (spoilL l at' x).length cap') ∧ Own w' w.heap.size (.slice a' (spoilL l at' x).length cap') (spoilL l at' x) ∧ Below w.heap.size w w' := by
  cases hi : inB l.length 1 16384
  · have e : spoilL l at' x = [] := by simp [spoilL, hi]
    rw [e]
    go_enter Tryz.func27, Tryz.ntmps27
    go_wp2_with (go_at_call 52; refine (within_any _ _ _ _).mono ?_; rintro e w1 ⟨rfl, hw⟩; obtain rfl := hw.symm; rw [hi])
    go_ret
    exact ⟨none, 0, rfl, Own.nil _ _, Below.refl _ _⟩
  · have hi' := (inB_iff _ _ _).mp hi
    have m0 := modI_ge at' l.length (by omega)
    have m1 := modI_lt at' l.length (by omega)
    have e : spoilL l at' x = l.set (modI at' l.length).toNat (xorB (l[(modI at' l.length).toNat]?.getD 0) (1 + modI x 255)) := by unfold spoilL; rw [if_pos hi]
    rw [e]
    obtain ⟨k, hk⟩ := Int.eq_ofNat_of_zero_le m0
    rw [hk, Int.toNat_natCast, List.length_set]
    have hkl : k < l.length := by omega
    have n0 := modI_ge x 255 (by omega)
    have n1 := modI_lt x 255 (by omega)
    obtain ⟨cc, hcc⟩ : ∃ z, z = l[k]?.getD 0 := ⟨_, rfl⟩
    rw [← hcc]
    go_enter Tryz.func27, Tryz.ntmps27
    go_wp2_with (first
      | (go_at_call 52; refine (within_any _ _ _ _).mono ?_; rintro e w1 ⟨rfl, hw⟩; obtain rfl := hw.symm; rw [hi])
      | (go_at_call 53; refine (clone_any b off cap l _ hv (by omega)).mono ?_; rintro e w2 ⟨a2, cap2, rfl, ho2, hb2⟩; obtain ⟨g, cg, eg⟩ := ho2.shape' (by omega); simp only [Value.slice.injEq] at eg; obtain ⟨rfl, _, rfl⟩ := eg; have hfz := ho2.2.frozenAt k; have hcl : w2.cell? ⟨g, k, none⟩ = some (.int .u8 cc) := (by rw [hcc, ho2.2.cellAt k (by omega)]; simp [hkl]); have h8 := byte_at ho2.1 k; rw [← hcc] at h8; have HO : Hid (Own w2 w.heap.size (.slice (some ⟨g, 0, none⟩) l.length cap2) l) := ho2; clear ho2))
    have hxb := xorB_byte (cc) (1 + modI x 255) h8.1 h8.2 (by omega) (by omega)
    have HST := HO.out.store k _ hxb
    have HS : Hid (Own (w2.setCell ⟨g, k, none⟩ (.int .u8 (xorB (cc) (1 + modI x 255)))) w.heap.size (.slice (some ⟨g, 0, none⟩) l.length cap2) (l.set k (xorB (cc) (1 + modI x 255)))) := HST
    have hgB : w.heap.size ≤ g := (HO.out.2.lt g rfl).1
    have HB : Hid (Below w.heap.size w (w2.setCell ⟨g, k, none⟩ (.int .u8 (xorB (cc) (1 + modI x 255))))) := hb2.setCell hgB _
    have hkl' : (k : Int) < (l.length : Int) := by omega
    have hw1 : IntKind.i64.wrap (1 + modI x 255) = 1 + modI x 255 := by simp [IntKind.wrap, IntKind.signed, IntKind.bits]; omega
    have hw2 : IntKind.u8.wrap (1 + modI x 255) = 1 + modI x 255 := by simp [IntKind.wrap, IntKind.signed, IntKind.bits]; omega
    clear hb2 hv hi hkl HST hxb HO e hcc
    go_region_with (go_at_call 54; refine (mod_any _ _ (by omega) (by omega) (by omega) (by omega) _).mono ?_; rintro e w3 ⟨rfl, hw⟩; obtain rfl := hw.symm; (try rw [hk]))
    all_goals go_wp2
    all_goals go_ret
    all_goals exact ⟨_, _, rfl, HS.out, HB.out.drew⟩
end Go.Proofs.YtafmjckpbcijoaaGreatDoor

/-
  Draws beside a row of bytes of one's own.
-/
namespace Go.Proofs.YtafmjckpbcijoaaGreatDoor
open Go.RowKit
set_option linter.unusedVariables false
set_option linter.unusedSimpArgs false

theorem Own.grownL {w w' : World} {B q : Nat} {v : Value} {l : List Int} (h : Own w B v l) (hg : w.grownBy w' (some q)) (hq : q < B) : Own w' B v l :=
  ⟨h.1, h.2.kept hg (.inr fun e => by have := (h.2.lt q e).1; omega)⟩
section
variable {w0 w w' : World} {g k : Nat} {v u : Value} {l b : List Int}
theorem Dr.pickO (h : Dr w0 w g v l k []) (ho : Own w w0.heap.size u b) (n : Nat) (hL : l.length ≤ 1048576) (hk : k ≤ 900000000) (hn : 0 < n) (hN : n ≤ 4294967296) :
    Calls Tryz.prog 23 #[.pointer (some ⟨g, 0, none⟩), .int .i64 n] w fun e w' => e = .returned (.int .i64 (pickV l k n : Nat)) ∧ Dr w0 w' g v l (k + pickK n) [] ∧ Own w' w0.heap.size u b :=
  (l1pick_any g w v l k n hL hk hn hN h.src).mono fun e w' ⟨h1, h2, h3⟩ => ⟨h1, h.call h2 h3, ho.grownL h3 h.gl⟩
theorem Dr.nextO (h : Dr w0 w g v l k []) (ho : Own w w0.heap.size u b) (hL : l.length ≤ 1048576) (hk : k ≤ 900000000) :
    Calls Tryz.prog 50 #[.pointer (some ⟨g, 0, none⟩)] w fun e w' => e = .returned (.int .i64 (nextV l k)) ∧ Dr w0 w' g v l (k + 1) [] ∧ Own w' w0.heap.size u b :=
  (l1next_any g w v l k hL (by omega) h.src).mono fun e w' ⟨h1, h2, h3⟩ => ⟨h1, h.call h2 h3, ho.grownL h3 h.gl⟩
theorem Dr.storeO (h : Dr w0 w g v l k []) {q j : Nat} (hq : w0.heap.size ≤ q) (y : Value) : Dr w0 (w.setCell ⟨q, j, none⟩ y) g v l k [] :=
  h.belowB ((Below.refl w0.heap.size w).setCell hq y) (Nat.le_refl _) (fun x hx => by cases hx)
theorem Dr.grewO (h : Dr w0 w g v l k []) (ho : Own w w0.heap.size u b) {u' : Value} (hg : Grew w u w' u') : Dr w0 w' g v l k [] :=
  h.grew hg (fun q e => (ho.2.lt q e).1) (fun x hx => by cases hx)
end
end Go.Proofs.YtafmjckpbcijoaaGreatDoor

/-
  append([]byte{}, b...), with and without a guard.
-/
namespace Go.Proofs.YtafmjckpbcijoaaGreatDoor
open Go.RowKit
set_option linter.unusedVariables false
set_option linter.unusedSimpArgs false

theorem Own.capL {w : World} {B n cap : Nat} {a : Option Addr} {l : List Int} (h : Own w B (.slice a n cap) l) (hn : n = l.length) : n ≤ cap := by
  subst hn
  rcases h.2.2 with ⟨e1, e2⟩ | ⟨g, c, cur, e1, _, _, h1, _⟩
  · injection e1 with e1 e3 e4
    omega
  · injection e1 with e1 e3 e4
    omega
theorem run_copyL {w0 : World} (t : TypeId) {v : Value} {n : Nat} {l : List Int} (hn : n = l.length) (hpos : 0 < n) (hlen : n ≤ 1073741824) (hu : Bs w0 v l) :
    ∃ g c w', (Builtin.append_ #[22, 22] t #[.slice (some ⟨w0.heap.size, 0, none⟩) 0 0, v]).run Tryz.prog (w0.alloc (.cells #[] 5)) = .ok (.slice (some ⟨g, 0, none⟩) n c) w' ∧ n ≤ c ∧ Own w' w0.heap.size (.slice (some ⟨g, 0, none⟩) n c) l ∧ Below w0.heap.size w0 w' := by
  have hal : Below w0.heap.size w0 (w0.alloc (.cells #[] 5)) := (Below.refl _ _).alloc (Nat.le_refl _) _
  have hO := Own.lit0 w0
  obtain ⟨i0, hi, hz0, hz1, hz2⟩ := info_parts infoU8
  obtain ⟨_, h8, au, cu, rfl, hc⟩ := hu.below hal
  obtain ⟨b, off, rfl, hcell⟩ := hc 0 (by omega)
  obtain ⟨v', w', hr, h2, h3, _, h5⟩ := run_append_own_at (P := Tryz.prog) (w0.alloc (.cells #[] 5)) w0.heap.size 22 t 5 i0 (.int .u8 0) 1 1 Tryz.underlying22 hi hz0 hz1 hz2 rfl (by decide) (.slice (some ⟨w0.heap.size, 0, none⟩) 0 0) 0 [] hO.2 ⟨b, off, none⟩ l.length cu (l.map (Value.int .u8)) (by simp) (by
      intro j u hj
      rw [cell_add]
      rw [List.getElem?_map] at hj
      cases hk : l[j]? with
      | none => rw [hk] at hj; cases hj
      | some y =>
        rw [hk] at hj
        have hjl : j < l.length := by
          rcases Nat.lt_or_ge j l.length with h' | h'
          · exact h'
          · rw [List.getElem?_eq_none h'] at hk; cases hk
        rw [hcell j hjl, hk]
        exact hj) (by
      intro u hu
      simp only [List.mem_map] at hu
      obtain ⟨y, _, rfl⟩ := hu
      rfl) (by unfold maxLen; omega) (by omega) (by simp)
  have hw : Own w' w0.heap.size v' l := ⟨h8, by simpa using h2⟩
  obtain ⟨g, c, rfl⟩ := hw.shape' (by omega)
  have hg : Grew (w0.alloc (.cells #[] 5)) (.slice (some ⟨w0.heap.size, 0, none⟩) 0 0) w' (.slice (some ⟨g, 0, none⟩) l.length c) := ⟨h3, h5.imp id fun e => ⟨_, e, Nat.le_refl _⟩⟩
  subst hn
  exact ⟨g, c, w', hr, hw.capL rfl, hw, hal.trans (hg.below hO (by simp))⟩
section
variable {w0 : World} {ops : Array Oper} {rest : List Oper} {o : Oper} {a : Act} {Q : Exit → Act → World → Prop}
theorem wpl_copyL (hgd : o.guard = none) (s x : Operand) (ho : o.op = .call { callee := .builtin .append, args := #[s, x], argTypes := #[22, 22] })
    {v : Value} {n : Nat} {l : List Int} (hs : a.eval s = .slice (some ⟨w0.heap.size, 0, none⟩) 0 0) (hx : a.eval x = v) (hn : n = l.length) (hpos : 0 < n) (hlen : n ≤ 1073741824) (hu : Bs w0 v l)
    (h : ∀ g c w', n ≤ c → Own w' w0.heap.size (.slice (some ⟨g, 0, none⟩) n c) l → Below w0.heap.size w0 w' → wpList Tryz.prog ops Q rest (a.put o.dst (.slice (some ⟨g, 0, none⟩) n c)) w') : wpList Tryz.prog ops Q (o :: rest) a (w0.alloc (.cells #[] 5)) := by
  refine wpList_plain hgd fun K hK => ?_
  obtain ⟨g, c, w', hr, h1, h2, h3⟩ := run_copyL (w0 := w0) o.type hn hpos hlen hu
  unfold Oper.wp execOp
  simp only [ho, resolve, invoke, builtin, Sem.run_bind, Sem.run_pure, Result.andThen_ok, List.map_toArray, List.map_cons, List.map_nil, hs, hx, hr]
  exact hK _ _ (h g c w' h1 h2 h3)
theorem wpl_copyLG {gj : Nat} {gb : Bool} (hgd : o.guard = some (gj, gb)) (hy : yielded ops a.tmps gj = some gb) (s x : Operand) (ho : o.op = .call { callee := .builtin .append, args := #[s, x], argTypes := #[22, 22] })
    {v : Value} {n : Nat} {l : List Int} (hs : a.eval s = .slice (some ⟨w0.heap.size, 0, none⟩) 0 0) (hx : a.eval x = v) (hn : n = l.length) (hpos : 0 < n) (hlen : n ≤ 1073741824) (hu : Bs w0 v l)
    (h : ∀ g c w', n ≤ c → Own w' w0.heap.size (.slice (some ⟨g, 0, none⟩) n c) l → Below w0.heap.size w0 w' → wpList Tryz.prog ops Q rest (a.put o.dst (.slice (some ⟨g, 0, none⟩) n c)) w') : wpList Tryz.prog ops Q (o :: rest) a (w0.alloc (.cells #[] 5)) := by
  refine wpList_step fun K hK => ?_
  simp only [Region.wanted, hgd, hy, beq_self_eq_true, if_true]
  obtain ⟨g, c, w', hr, h1, h2, h3⟩ := run_copyL (w0 := w0) o.type hn hpos hlen hu
  unfold Oper.wp execOp
  simp only [ho, resolve, invoke, builtin, Sem.run_bind, Sem.run_pure, Result.andThen_ok, List.map_toArray, List.map_cons, List.map_nil, hs, hx, hr]
  exact hK _ _ (h g c w' h1 h2 h3)
end
end Go.Proofs.YtafmjckpbcijoaaGreatDoor

/-
  What spec.l1drawFrame draws (pure), and slices of a row of one's own.
-/
namespace Go.Proofs.YtafmjckpbcijoaaGreatDoor
open Go.RowKit
set_option linter.unusedVariables false
set_option linter.unusedSimpArgs false

theorem encMsg_len (ki fr td tm li lt cm ok hi : Int) (l : List Ent) : (encMsg ki fr td tm li lt cm ok hi l).length ≤ 12000 := by
  unfold encMsg
  split
  · next hF =>
    obtain ⟨⟨a1, a2⟩, ⟨a3, a4⟩, ⟨a5, a6⟩, ⟨a7, a8⟩, ⟨a9, a10⟩, ⟨a11, a12⟩, ⟨a13, a14⟩, ⟨a15, a16⟩, ⟨a17, a18⟩, hl32, hall⟩ := msgF_ok hF
    obtain ⟨_, hlen⟩ := msgL_len ki.toNat fr.toNat td.toNat tm.toNat li.toNat lt.toNat cm.toNat ok.toNat hi.toNat l (by simp; omega) hl32 hall
    rw [frameL_len]; omega
  · simp
theorem encCallL_len (cl sq op : Int) (k v o : ByteArray) : (encCallL cl sq op k v o).length ≤ 12000 := by
  unfold encCallL
  split
  · next hF =>
    obtain ⟨hc, hop⟩ := callF_ok hF
    obtain ⟨a1, a2, a3, a4, a5, a6, a7, a8, a9⟩ := cmdF_ok hc
    have hlen := cmdL_len cl.toNat sq.toNat op.toNat k v o (by omega) (by omega) (by omega) (by omega) (by omega) (by omega)
    rw [frameL_len]; simp; omega
  · simp
theorem encReply_len (cl sq st cd ld : Int) (v : ByteArray) : (encReply cl sq st cd ld v).length ≤ 12000 := by
  unfold encReply
  split
  · next hF =>
    obtain ⟨a1, a2, a3, a4, a5, a6, a7, a8, a9, a10, a11⟩ := repF_ok hF
    obtain ⟨_, hlen⟩ := repL_len cl.toNat sq.toNat st.toNat cd.toNat ld.toNat v (by omega) (by omega) (by omega) (by omega) (by omega) (by omega)
    rw [frameL_len]; omega
  · simp
/-- the frame and where the draws stand, behind 'if kind == 7' -/
def fr1 (l : List Int) (kind : Int) (X : List Int × Nat) : List Int × Nat :=
  if kind = 7 then (encCallL (cmdCl l X.2) (cmdSq l X.2) (cmdOp l X.2) (cmdKy l X.2) (cmdVl l X.2) (cmdOl l X.2), cmdK l X.2) else X
def fr2 (l : List Int) (kind : Int) (X : List Int × Nat) : List Int × Nat :=
  if kind = 8 then (encReply (repCl l X.2) (repSq l X.2) (repSt l X.2) (repCd l X.2) (repLd l X.2) (repVl l X.2), repK l X.2) else X
theorem fr1_ok (l : List Int) (kind : Int) (X : List Int × Nat) (h : X.1.length ≤ 12000) : (fr1 l kind X).1.length ≤ 12000 ∧ (fr1 l kind X).2 ≤ X.2 + 14 := by
  have := cmdK_le l X.2
  unfold fr1
  split
  · exact ⟨encCallL_len _ _ _ _ _ _, this.2⟩
  · omega
theorem fr2_ok (l : List Int) (kind : Int) (X : List Int × Nat) (h : X.1.length ≤ 12000) : (fr2 l kind X).1.length ≤ 12000 ∧ (fr2 l kind X).2 ≤ X.2 + 8 := by
  have := repK_le l X.2
  unfold fr2
  split
  · exact ⟨encReply_len _ _ _ _ _ _, this.2⟩
  · omega
def orB (c m : Int) : Int := bits .or .u8 c m
/-- the body, changed; k: where the draws stand behind the place -/
def bodyF (l : List Int) (q : Nat) (b : List Int) (i k : Nat) : List Int :=
  if q = 9 then b.take (1 + pickV l k b.length)
  else if q = 10 then b ++ [nextV l k]
  else if q = 11 then b.set i (pickV l k 4 : Nat)
  else if q = 12 then b.set i 128
  else if q = 13 then b.take (1 + pickV l k (b.length - 1)) ++ (if pickV l (k + pickK (b.length - 1)) 2 = 0 then [255, 255, 255, 255, ((pickV l (k + pickK (b.length - 1) + 1) 130 : Nat) : Int)] else [orB (b[1 + pickV l k (b.length - 1)]?.getD 0) 128, 0]) ++ b.drop (1 + pickV l k (b.length - 1) + 1)
  else if q = 14 then b.set 0 (pickV l k 10 : Nat)
  else b.set i (nextV l k)
def frT (l : List Int) (b : List Int) (k q : Nat) : List Int :=
  if q < 6 ∨ b.length < 10 then b
  else if q = 6 then b.set (pickV l k b.length) (xorB (b[pickV l k b.length]?.getD 0) (1 + (pickV l (k + pickK b.length) 255 : Nat)))
  else if q = 7 then b.take (pickV l k b.length)
  else if q = 8 then b ++ [nextV l k]
  else frameL (bodyF l q (b.drop 8) (pickV l k (b.length - 8)) (k + pickK (b.length - 8)))
def frX (l : List Int) (kind : Int) (k : Nat) : List Int × Nat :=
  fr2 l kind (fr1 l kind (encMsg (msgD l k).ki (msgD l k).fr (msgD l k).td (msgD l k).tm (msgD l k).li (msgD l k).lt (msgD l k).cm (msgD l k).ok (msgD l k).hi (msgD l k).es, (msgD l k).k))
/-- what l1drawFrame gives -/
def frL (l : List Int) (kind : Int) (k : Nat) : List Int := frT l (frX l kind k).1 ((frX l kind k).2 + 1) (pickV l (frX l kind k).2 16)

theorem add_zero' (x : Addr) : x.add 0 = x := by unfold Addr.add; split <;> simp_all
theorem sl_hi (q n c m : Nat) (h : m ≤ c) (wx : World) : (Instr.slice 22 (.slice (some ⟨q, 0, none⟩) n c) none (some (.int .i64 (m : Int))) none).run Tryz.prog wx = .ok (.slice (some ⟨q, 0, none⟩) m c) wx := by
  rw [slice_h _ _ _ _ h]
  unfold sliced
  simp [cell_add]
theorem sl_lo (q n c m : Nat) (h : m ≤ n) : ∃ off, (∀ wx, (Instr.slice 22 (.slice (some ⟨q, 0, none⟩) n c) (some (.int .i64 (m : Int))) none none).run Tryz.prog wx = .ok (.slice (some ⟨q, off, none⟩) (n - m) (c - m)) wx) ∧ (m < n → n ≤ c → off = m) := by
  by_cases hc : c = m
  · refine ⟨0, fun wx => ?_, fun _ _ => by omega⟩
    rw [slice_l _ _ _ _ h]
    unfold sliced
    rw [if_pos hc]
  · refine ⟨m, fun wx => ?_, fun _ _ => rfl⟩
    rw [slice_l _ _ _ _ h]
    unfold sliced
    rw [if_neg hc]
    simp [cell_add]
theorem Own.bsTake {w : World} {B n c q : Nat} {b : List Int} (h : Own w B (.slice (some ⟨q, 0, none⟩) n c) b) (hl : b.length ≤ maxLen) (m : Nat) (hm : m ≤ b.length) : Bs w (.slice (some ⟨q, 0, none⟩) m c) (b.take m) := by
  have hb := h.bs hl
  obtain ⟨_, h8, a, cap, e, hc⟩ := hb
  injection e with e1 e2 e3
  subst e1 e3
  have hlen : (b.take m).length = m := by rw [List.length_take]; omega
  refine ⟨by omega, fun x hx => h8 x (List.mem_of_mem_take hx), _, c, by rw [hlen], fun i hi => ?_⟩
  rw [hlen] at hi
  obtain ⟨b', off, e', hcell⟩ := hc i (by omega)
  refine ⟨b', off, e', fun j hj => ?_⟩
  rw [hlen] at hj
  rw [hcell j (by omega), List.getElem?_take, if_pos hj]
theorem Own.bsDrop {w : World} {B n c q off : Nat} {b : List Int} (h : Own w B (.slice (some ⟨q, 0, none⟩) n c) b) (hn : n = b.length) (hl : b.length ≤ maxLen) (m : Nat) (hm : m ≤ b.length) (hoff : m < n → n ≤ c → off = m) : Bs w (.slice (some ⟨q, off, none⟩) (n - m) (c - m)) (b.drop m) := by
  have hb := h.bs hl
  have hcap := h.capL hn
  subst hn
  obtain ⟨_, h8, a, cap, e, hc⟩ := hb
  injection e with e1 e2 e3
  subst e1 e3
  have hlen : (b.drop m).length = b.length - m := List.length_drop
  refine ⟨by omega, fun x hx => h8 x (List.mem_of_mem_drop hx), _, _, by rw [hlen], fun i hi => ?_⟩
  rw [hlen] at hi
  obtain rfl := hoff (by omega) hcap
  obtain ⟨b', o', e', hcell⟩ := hc 0 (by omega)
  injection e' with e'
  injection e' with f1 f2
  subst f1 f2
  refine ⟨_, _, rfl, fun j hj => ?_⟩
  rw [hlen] at hj
  have := hcell (off + j) (by omega)
  rw [List.getElem?_drop]
  rw [Nat.zero_add] at this
  exact this
theorem bodyF_len (l : List Int) (q : Nat) (b : List Int) (i k : Nat) (h : 2 ≤ b.length) : 0 < (bodyF l q b i k).length ∧ (bodyF l q b i k).length ≤ b.length + 10 := by
  have h1 := pickV_lt l k b.length (by omega)
  have h2 := pickV_lt l k (b.length - 1) (by omega)
  unfold bodyF
  repeat' refine ite_both (P := fun z : List Int => 0 < z.length ∧ z.length ≤ b.length + 10) ?_ ?_
  all_goals (try simp only [List.length_set, List.length_append, List.length_take, List.length_drop, List.length_cons, List.length_nil])
  all_goals first
    | omega
    | (split <;> (simp only [List.length_cons, List.length_nil]; omega))
theorem Own.storeN {w : World} {B g n cap : Nat} {l : List Int} (h : Own w B (.slice (some ⟨g, 0, none⟩) n cap) l) (hn : n = l.length) (j : Nat) (x : Int) (h8 : 0 ≤ x ∧ x ≤ 255) :
    Own (w.setCell ⟨g, j, none⟩ (.int .u8 x)) B (.slice (some ⟨g, 0, none⟩) n cap) (l.set j x) := by
  subst hn
  exact h.store j x h8
theorem Own.cellN {w : World} {B g n cap : Nat} {l : List Int} (h : Own w B (.slice (some ⟨g, 0, none⟩) n cap) l) (hn : n = l.length) (j : Nat) (hj : j < l.length) : w.cell? ⟨g, j, none⟩ = some (.int .u8 (l[j]?.getD 0)) := by
  subst hn
  rw [h.2.cellAt j (by omega)]
  simp [hj]
theorem Own.frozenN {w : World} {B g n cap : Nat} {l : List Int} (h : Own w B (.slice (some ⟨g, 0, none⟩) n cap) l) (hn : n = l.length) (j : Nat) : w.frozen? ⟨g, j, none⟩ = false := by
  subst hn
  exact h.2.frozenAt j
theorem orB_byte (c : Int) (h0 : 0 ≤ c) (h1 : c ≤ 255) : 0 ≤ orB c 128 ∧ orB c 128 ≤ 255 := by
  obtain ⟨a, rfl⟩ := Int.eq_ofNat_of_zero_le h0
  have e := or_128 a
  rw [show ((a : Int) % 256) = a by omega] at e
  unfold orB
  rw [e]
  omega
end Go.Proofs.YtafmjckpbcijoaaGreatDoor

/-
  spec.l1num, spec.l1text, spec.l1four, spec.l1frame.
-/
namespace Go.Proofs.YtafmjckpbcijoaaGreatDoor
open Go.RowKit
set_option linter.unusedVariables false

set_option maxHeartbeats 1000000 in
set_option maxRecDepth 100000 in
theorem specNum_any (n : Nat) : n < 9223372036854775808 → ∀ w : World,
    Calls Tryz.prog 35 #[.int .i64 n] w fun e w' => ∃ v', e = .returned v' ∧ Own w' w.heap.size v' (numL n) ∧ Below w.heap.size w w' := by
  induction n using Nat.strongRecOn with
  | ind n ih =>
  intro hn w
  by_cases h : n < 128
  · clear ih
    have hO := Own.lit w [(n : Int)] #[.int .u8 (n : Int)] rfl (by simp; omega) (by simp [maxLen])
    rw [numL_small h]
    go_enter Tryz.func35, Tryz.ntmps35
    go_wp2
    go_ret
    exact ⟨_, rfl, by simpa using hO, (Below.refl _ _).alloc (Nat.le_refl _) _⟩
  · have hI : Hid (∀ w : World, Calls Tryz.prog 35 #[.int .i64 ((n / 128 : Nat) : Int)] w fun e w' => ∃ v', e = .returned v' ∧ Own w' w.heap.size v' (numL (n / 128)) ∧ Below w.heap.size w w') := ih (n / 128) (by omega) (by omega)
    have hO : Own (w.alloc (.cells #[.int .u8 ((n : Int) % 128 + 128)] 5)) w.heap.size (.slice (some ⟨w.heap.size, 0, none⟩) 1 1) [(n : Int) % 128 + 128] := Own.lit w [(n : Int) % 128 + 128] #[.int .u8 ((n : Int) % 128 + 128)] rfl (by simp; omega) (by simp [maxLen])
    have HO : Hid (Own (w.alloc (.cells #[.int .u8 ((n : Int) % 128 + 128)] 5)) w.heap.size (.slice (some ⟨w.heap.size, 0, none⟩) 1 1) [(n : Int) % 128 + 128]) := hO
    have eN : ((n % 128 + 128 : Nat) : Int) = (n : Int) % 128 + 128 := by omega
    have h9 := numL_len9 (n / 128) (by omega)
    have hp := numL_pos (n / 128)
    rw [numL_big h, eN]
    clear ih hO eN
    go_enter Tryz.func35, Tryz.ntmps35
    go_wp2_with (first
      | (go_at_call 35; refine Calls.mono (hI.out _) ?_; rintro e w1 ⟨v1, rfl, ho1, hb1⟩; have hz := hb1.size; simp at hz)
      | (at_builtin; refine wpl_append rfl (.tmp 18) (.tmp 19) rfl (HO.out.below hb1) rfl (ho1.bs (by unfold maxLen; omega)) rfl hp (by simp; omega) (by omega) ?_; intro v2 w2 ho2 hg2))
    go_ret
    exact ⟨_, rfl, by simpa using ho2, ((Below.refl _ _).alloc (Nat.le_refl _) _).trans ((hb1.mono (by simp)).trans (hg2.below (HO.out.below hb1) (by omega)))⟩

theorem strL_get (s : ByteArray) (k : Nat) (h : k < s.size) : (strL s).take (k + 1) = (strL s).take k ++ [((s[k]'h).toNat : Int)] := by
  rw [List.take_succ_eq_append_getElem (by rw [strL_len]; exact h)]
  congr 1
  simp [strL]
  rfl

set_option maxHeartbeats 1000000 in
set_option maxRecDepth 100000 in
theorem specText_any (s : ByteArray) (w : World) (hs : s.size ≤ 1048576) :
    Calls Tryz.prog 36 #[.string s] w fun e w' => ∃ v', e = .returned v' ∧ Own w' w.heap.size v' (textL s) ∧ Below w.heap.size w w' := by
  have h9 := numL_len9 s.size (by omega)
  go_enter Tryz.func36, Tryz.ntmps36
  go_wp2_with (go_at_call 35; refine (specNum_any s.size (by omega) _).mono ?_; rintro e w1 ⟨v1, rfl, ho1, hb1⟩)
  go_loopw [3, 4] (fun o i wr => ∃ k : Nat, k ≤ s.size ∧ i = .int .i64 k ∧ Own wr w.heap.size o (numL s.size ++ (strL s).take k) ∧ Below w.heap.size w wr) (fun _ i _ => s.size - (intOf i).toNat)
  case atStart => exact ⟨0, Nat.zero_le _, rfl, by simpa using ho1, hb1⟩
  case round =>
    obtain ⟨k, hk, rfl, ho, hb⟩ := hrel
    have hz := hb.size
    have hl : ((strL s).take k).length ≤ k := List.length_take_le _ _
    clear ho1 hb1
    by_cases hlt : k < s.size
    · have HS : Hid ((strL s).take (k + 1) = (strL s).take k ++ [((s[k]'hlt).toNat : Int)]) := strL_get s k hlt
      have h8 : ((s[k]'hlt).toNat : Int) ≤ 255 := by have := (s[k]'hlt).toNat_lt; omega
      go_wp2_with (at_builtin; refine wpl_append rfl (.tmp 14) (.tmp 18) rfl (ho.below ((Below.refl _ _).alloc (Nat.le_refl _) _)) rfl (Bs.one _ ((s[k]'hlt).toNat : Int) (by omega)) rfl (by simp) (by simp; omega) (by simp; omega) ?_; intro v2 w2 ho2 hg2)
      go_roundw
      case rel => exact ⟨k + 1, by omega, by go_num, by rw [HS.out, ← List.append_assoc]; exact ho2, hb.trans (((Below.refl _ _).alloc (by omega) _).trans (hg2.below (ho.below ((Below.refl _ _).alloc (Nat.le_refl _) _)) (by simp; omega)))⟩
      case measure => simp [intOf]; omega
    · have e : (strL s).take k = strL s := List.take_of_length_le (by rw [strL_len]; omega)
      rw [e] at ho
      go_wp2
      go_ret
      exact ⟨_, rfl, ho, hb⟩

theorem wordL_int (x : Nat) (hx : x < 4294967296) : wordL x = [(x : Int) % 256, (x : Int) / 256 % 256, (x : Int) / 65536 % 256, (x : Int) / 16777216] := by
  unfold wordL
  congr 4 <;> omega

set_option maxHeartbeats 1000000 in
theorem specFour_any (x : Nat) (w : World) (hx : x < 4294967296) :
    Calls Tryz.prog 58 #[.int .u32 x] w fun e w' => ∃ v', e = .returned v' ∧ Own w' w.heap.size v' (wordL x) ∧ Below w.heap.size w w' := by
  have hO := Own.lit w [(x : Int) % 256, (x : Int) / 256 % 256, (x : Int) / 65536 % 256, (x : Int) / 16777216] #[.int .u8 ((x : Int) % 256), .int .u8 ((x : Int) / 256 % 256), .int .u8 ((x : Int) / 65536 % 256), .int .u8 ((x : Int) / 16777216)] rfl (by intro y hy; simp only [List.mem_cons, List.not_mem_nil, or_false] at hy; omega) (by simp [maxLen])
  have HO : Hid _ := hO
  clear hO
  rw [wordL_int x hx]
  go_enter Tryz.func58, Tryz.ntmps58
  go_wp2
  go_ret
  exact ⟨_, rfl, HO.out, (Below.refl _ _).alloc (Nat.le_refl _) _⟩

end Go.Proofs.YtafmjckpbcijoaaGreatDoor

/-
  spec.l1frame.
-/
namespace Go.Proofs.YtafmjckpbcijoaaGreatDoor
open Go.RowKit
set_option linter.unusedVariables false

set_option maxHeartbeats 200000 in
set_option maxRecDepth 100000 in
theorem specFrame_any (v : Value) (l : List Int) (w : World) (hv : Bs w v l) (hpos : 0 < l.length) (hl : l.length ≤ 100000) :
    Calls Tryz.prog 37 #[v] w fun e w' => ∃ v', e = .returned v' ∧ Own w' w.heap.size v' (frameL l) ∧ Below w.heap.size w w' := by
  have hV : Hid (Bs w v l) := hv
  have hcrc := crcOf_lt l hv.2.1
  obtain ⟨hml, h8, a, cap, rfl, hc⟩ := hv
  clear hc
  have hw4 : ∀ x, (wordL x).length = 4 := fun x => rfl
  have hF : frameL l = wordL l.length ++ wordL (crcOf l) ++ l := rfl
  rw [hF]
  clear hF
  generalize hc : crcOf l = c at hcrc
  have HC : Hid (crcOf l = c) := hc
  clear hc
  have hfirst : True := trivial
  go_enter Tryz.func37, Tryz.ntmps37
  go_wp2_with (first
    | (go_at_call 59; refine (specCrc_any _ l _ (hV.out.below hB)).mono ?_; rw [HC.out]; rintro e w' ⟨rfl, rfl⟩)
    | (go_at_call 58; clear hfirst; refine (specFour_any l.length _ (by omega)).mono ?_; rintro e w1 ⟨v1, rfl, ho1, hb1⟩; have hB := hb1; have hz1 := hb1.size)
    | (go_at_call 58; refine (specFour_any c _ hcrc).mono ?_; rintro e w2 ⟨v2, rfl, ho2, hb2⟩; replace hB := hB.trans (hb2.mono hz1); have hz2 := hB.size; have hp1 := ho1.below hb2)
    | (at_builtin; refine wpl_append rfl (.tmp 8) (.tmp 11) rfl hp1 rfl (ho2.bs (by unfold maxLen; rw [hw4]; omega)) rfl (by rw [hw4]; omega) (by simp [hw4]) hz2 ?_; intro v3 w3 ho3 hg3; replace hB := hB.trans (hg3.below hp1 hz2); have hz3 := hB.size)
    | (at_builtin; refine wpl_append rfl (.tmp 13) (.tmp 14) rfl ho3 rfl (hV.out.below hB) rfl hpos (by simp [hw4]; omega) hz3 ?_; intro v4 w4 ho4 hg4; replace hB := hB.trans (hg4.below ho3 hz3)))
  go_ret
  exact ⟨_, rfl, by simpa using ho4, hB⟩
end Go.Proofs.YtafmjckpbcijoaaGreatDoor

/-
  spec.l1cmdBytes.
-/
namespace Go.Proofs.YtafmjckpbcijoaaGreatDoor
open Go.RowKit
set_option linter.unusedVariables false

set_option maxHeartbeats 2000000 in
set_option maxRecDepth 100000 in
theorem specCmdBytes_any (cl sq op : Nat) (k vl o : ByteArray) (w : World)
    (h1 : cl < 9223372036854775808) (h2 : sq < 9223372036854775808) (h3 : op < 9223372036854775808) (hk : k.size ≤ 64) (hvl : vl.size ≤ 64) (hol : o.size ≤ 64) :
    Calls Tryz.prog 73 #[.agg #[.int .i64 cl, .int .i64 sq, .int .i64 op, .string k, .string vl, .string o]] w fun e w' =>
      ∃ v', e = .returned v' ∧ Own w' w.heap.size v' (cmdL cl sq op k vl o) ∧ Below w.heap.size w w' := by
  have l1 := numL_len9 cl h1
  have l2 := numL_len9 sq h2
  have l3 := numL_len9 op h3
  have l4 := textL_len k (by omega)
  have l5 := textL_len vl (by omega)
  have l6 := textL_len o (by omega)
  have p2 := numL_pos sq
  have p3 := numL_pos op
  have p4 := textL_pos k
  have p5 := textL_pos vl
  have p6 := textL_pos o
  have g1 : True := trivial
  have g2 : True := trivial
  have g3 : True := trivial
  have g4 : True := trivial
  have g5 : True := trivial
  have g6 : True := trivial
  go_enter Tryz.func73, Tryz.ntmps73
  go_wp2_with (first
    | (go_at_call 35; clear g1; refine (specNum_any cl h1 _).mono ?_; rintro e w1 ⟨v1, rfl, ho, hb⟩; have hB : Below (w.heap.size + 1) (w.alloc (.cells #[.int .i64 cl, .int .i64 sq, .int .i64 op, .string k, .string vl, .string o] 33)) w1 := hb.mono (by simp); replace ho := ho.le (B' := w.heap.size + 1) (by simp); have hz := hB.size; simp at hz; have cc := fun (o : Nat) => hB.cell (p := ⟨w.heap.size, o, none⟩) (by simp))
    | (go_at_call 35; clear g2; refine (specNum_any sq h2 _).mono ?_; rintro e w2 ⟨v2, rfl, hr, hb⟩; replace hB := hB.trans (hb.mono (by omega)); replace ho := ho.below hb; replace hz := hB.size; simp at hz; have cc := fun (o : Nat) => hB.cell (p := ⟨w.heap.size, o, none⟩) (by simp))
    | (at_builtin; refine wpl_append rfl (.tmp 7) (.tmp 10) rfl ho rfl (hr.bs (by unfold maxLen; omega)) rfl (by omega) (by (try simp only [List.length_append]); omega) (by omega) ?_; intro u2 x2 hn hg; replace hB := hB.trans (hg.below ho (by omega)); replace ho := hn; clear hn hr; replace hz := hB.size; simp at hz; have cc := fun (o : Nat) => hB.cell (p := ⟨w.heap.size, o, none⟩) (by simp))
    | (go_at_call 35; clear g3; refine (specNum_any op h3 _).mono ?_; rintro e w3 ⟨v3, rfl, hr, hb⟩; replace hB := hB.trans (hb.mono (by omega)); replace ho := ho.below hb; replace hz := hB.size; simp at hz; have cc := fun (o : Nat) => hB.cell (p := ⟨w.heap.size, o, none⟩) (by simp))
    | (at_builtin; refine wpl_append rfl (.tmp 12) (.tmp 15) rfl ho rfl (hr.bs (by unfold maxLen; omega)) rfl (by omega) (by (try simp only [List.length_append]); omega) (by omega) ?_; intro u3 x3 hn hg; replace hB := hB.trans (hg.below ho (by omega)); replace ho := hn; clear hn hr; replace hz := hB.size; simp at hz; have cc := fun (o : Nat) => hB.cell (p := ⟨w.heap.size, o, none⟩) (by simp))
    | (go_at_call 36; clear g4; refine (specText_any k _ (by omega)).mono ?_; rintro e w4 ⟨v4, rfl, hr, hb⟩; replace hB := hB.trans (hb.mono (by omega)); replace ho := ho.below hb; replace hz := hB.size; simp at hz; have cc := fun (o : Nat) => hB.cell (p := ⟨w.heap.size, o, none⟩) (by simp))
    | (at_builtin; refine wpl_append rfl (.tmp 17) (.tmp 20) rfl ho rfl (hr.bs (by unfold maxLen; omega)) rfl (by omega) (by (try simp only [List.length_append]); omega) (by omega) ?_; intro u4 x4 hn hg; replace hB := hB.trans (hg.below ho (by omega)); replace ho := hn; clear hn hr; replace hz := hB.size; simp at hz; have cc := fun (o : Nat) => hB.cell (p := ⟨w.heap.size, o, none⟩) (by simp))
    | (go_at_call 36; clear g5; refine (specText_any vl _ (by omega)).mono ?_; rintro e w5 ⟨v5, rfl, hr, hb⟩; replace hB := hB.trans (hb.mono (by omega)); replace ho := ho.below hb; replace hz := hB.size; simp at hz; have cc := fun (o : Nat) => hB.cell (p := ⟨w.heap.size, o, none⟩) (by simp))
    | (at_builtin; refine wpl_append rfl (.tmp 22) (.tmp 25) rfl ho rfl (hr.bs (by unfold maxLen; omega)) rfl (by omega) (by (try simp only [List.length_append]); omega) (by omega) ?_; intro u5 x5 hn hg; replace hB := hB.trans (hg.below ho (by omega)); replace ho := hn; clear hn hr; replace hz := hB.size; simp at hz; have cc := fun (o : Nat) => hB.cell (p := ⟨w.heap.size, o, none⟩) (by simp))
    | (go_at_call 36; clear g6; refine (specText_any o _ (by omega)).mono ?_; rintro e w6 ⟨v6, rfl, hr, hb⟩; replace hB := hB.trans (hb.mono (by omega)); replace ho := ho.below hb; replace hz := hB.size; simp at hz; have cc := fun (o : Nat) => hB.cell (p := ⟨w.heap.size, o, none⟩) (by simp))
    | (at_builtin; refine wpl_append rfl (.tmp 27) (.tmp 30) rfl ho rfl (hr.bs (by unfold maxLen; omega)) rfl (by omega) (by (try simp only [List.length_append]); omega) (by omega) ?_; intro u6 x6 hn hg; replace hB := hB.trans (hg.below ho (by omega)); replace ho := hn; clear hn hr; replace hz := hB.size; simp at hz; have cc := fun (o : Nat) => hB.cell (p := ⟨w.heap.size, o, none⟩) (by simp)))
  go_ret
  refine ⟨_, rfl, ?_, ((Below.refl _ _).alloc (Nat.le_refl _) _).trans (hB.mono (by omega))⟩
  have := ho.le (B' := w.heap.size) (by omega)
  simpa [cmdL, numsL, List.append_assoc] using this
end Go.Proofs.YtafmjckpbcijoaaGreatDoor

/-
  spec.l1entryBytes.
-/
namespace Go.Proofs.YtafmjckpbcijoaaGreatDoor
open Go.RowKit
set_option linter.unusedVariables false

set_option maxHeartbeats 2000000 in
set_option maxRecDepth 100000 in
theorem specEntryBytes_nat (t cl sq op : Nat) (k vl o : ByteArray) (w : World) (h0 : t < 9223372036854775808) (h1 : cl < 9223372036854775808) (h2 : sq < 9223372036854775808) (h3 : op < 9223372036854775808) (hk : k.size ≤ 64) (hvl : vl.size ≤ 64) (ho : o.size ≤ 64) :
    Calls Tryz.prog 47 #[.agg #[.int .i64 t, .int .i64 cl, .int .i64 sq, .int .i64 op, .string k, .string vl, .string o]] w fun e w' => ∃ v', e = .returned v' ∧ Own w' w.heap.size v' (entN t cl sq op k vl o) ∧ Below w.heap.size w w' := by
  have h9 := numL_len9 t h0
  have hn : (numsL [cl, sq, op]).length ≤ 27 := numsL_len [cl, sq, op] (by simp; omega)
  have t1 := textL_len k (by omega)
  have t2 := textL_len vl (by omega)
  have t3 := textL_len o (by omega)
  have p3 := textL_pos o
  have hcl : (cmdL cl sq op k vl o).length ≤ 300 := by simp only [cmdL, List.length_append]; omega
  have hcp : 0 < (cmdL cl sq op k vl o).length := by simp only [cmdL, List.length_append]; omega
  clear hn t1 t2 t3 p3
  go_enter Tryz.func47, Tryz.ntmps47
  go_wp2_with (first
    | (go_at_call 35; refine (specNum_any t h0 _).mono ?_; rintro e w1 ⟨v1, rfl, ho1, hb⟩; have hB : Below (w.heap.size + 1) (w.alloc (.cells #[.int .i64 t, .int .i64 cl, .int .i64 sq, .int .i64 op, .string k, .string vl, .string o] 87)) w1 := hb.mono (by simp); replace ho1 := ho1.le (B' := w.heap.size + 1) (by simp); have hz : w.heap.size < w1.heap.size := (by have := hB.size; simp at this; omega); have cc := fun (o : Nat) => hB.cell (p := ⟨w.heap.size, o, none⟩) (by simp))
    | (go_at_call 73; refine (specCmdBytes_any cl sq op k vl o _ h1 h2 h3 hk hvl ho).mono ?_; rintro e w2 ⟨v2, rfl, ho2, hb2⟩; replace ho1 := ho1.below hb2; replace hB := hB.trans (hb2.mono (by omega)); have hz2 : w.heap.size < w2.heap.size := (by have := hb2.size; omega))
    | (at_builtin; refine wpl_append rfl (.tmp 7) (.tmp 10) rfl ho1 rfl (ho2.bs (by unfold maxLen; omega)) rfl hcp (by omega) (by omega) ?_; intro v3 w3 ho3 hg3; replace hB := hB.trans (hg3.below ho1 (by omega))))
  go_ret
  exact ⟨_, rfl, ho3.le (by omega), ((Below.refl _ _).alloc (Nat.le_refl _) _).trans (hB.mono (by omega))⟩

end Go.Proofs.YtafmjckpbcijoaaGreatDoor

/-
  spec.MsgFault at the kinds 1 tq 4.
-/
namespace Go.Proofs.YtafmjckpbcijoaaGreatDoor
open Go.RowKit
set_option linter.unusedVariables false
set_option linter.unusedSimpArgs false

theorem inB_zero (x : Int) : inB x 0 0 = (x == 0) := by
  rw [Bool.eq_iff_iff, inB_iff]
  simp
  omega
theorem beq_swap (a b : Bool) : (a == b) = (b == a) := by cases a <;> cases b <;> rfl

set_option maxHeartbeats 8000000 in
set_option maxRecDepth 100000 in
theorem specMsgFault_1 (fr tq tm li lt cm ok hi : Int) (ev : Value) (l : List Ent) (w : World) (hv : Es w ev l) (hll : l.length ≤ 1048576) :
    Calls Tryz.prog 7 #[.agg #[.int .i64 1, .int .i64 fr, .int .i64 tq, .int .i64 tm, .int .i64 li, .int .i64 lt, .int .i64 cm, .int .i64 ok, .int .i64 hi, ev]] w fun r w' => r = .returned (.int .i64 (msgF 1 fr tq tm li lt cm ok hi l)) ∧ Below w.heap.size w w' := by
  have hV : Hid (Es w ev l) := hv
  obtain ⟨hl, hf, a, cap, rfl, hc⟩ := hv
  clear hc hf
  have h16 : inB 1 1 6 = true := rfl
  have hB : Below w.heap.size w (w.alloc (.cells #[.int .i64 1, .int .i64 fr, .int .i64 tq, .int .i64 tm, .int .i64 li, .int .i64 lt, .int .i64 cm, .int .i64 ok, .int .i64 hi, .slice a l.length cap] 27)) := (Below.refl _ _).alloc (Nat.le_refl _) _
  go_enter Tryz.func7, Tryz.ntmps7
  go_wp2_with (first
    | (go_at_call 25; refine (l1in_any _ _ _ _).mono ?_; rintro r w' ⟨rfl, rfl⟩))
  all_goals go_ret
  all_goals refine ⟨ret_int ?_, by first | exact hB | exact (Below.refl _ _).alloc (Nat.le_refl _) _⟩
  all_goals (clear hB hV; go_light)
  all_goals (simp_all [msgF, endsB, posB, marksB, entsB, inB_zero, beq_swap (lt == 0) (li == 0)])

set_option maxHeartbeats 8000000 in
set_option maxRecDepth 100000 in
theorem specMsgFault_3 (fr tq tm li lt cm ok hi : Int) (ev : Value) (l : List Ent) (w : World) (hv : Es w ev l) (hll : l.length ≤ 1048576) :
    Calls Tryz.prog 7 #[.agg #[.int .i64 3, .int .i64 fr, .int .i64 tq, .int .i64 tm, .int .i64 li, .int .i64 lt, .int .i64 cm, .int .i64 ok, .int .i64 hi, ev]] w fun r w' => r = .returned (.int .i64 (msgF 3 fr tq tm li lt cm ok hi l)) ∧ Below w.heap.size w w' := by
  have hV : Hid (Es w ev l) := hv
  obtain ⟨hl, hf, a, cap, rfl, hc⟩ := hv
  clear hc hf
  have h16 : inB 3 1 6 = true := rfl
  have hB : Below w.heap.size w (w.alloc (.cells #[.int .i64 3, .int .i64 fr, .int .i64 tq, .int .i64 tm, .int .i64 li, .int .i64 lt, .int .i64 cm, .int .i64 ok, .int .i64 hi, .slice a l.length cap] 27)) := (Below.refl _ _).alloc (Nat.le_refl _) _
  go_enter Tryz.func7, Tryz.ntmps7
  go_wp2_with (first
    | (go_at_call 25; refine (l1in_any _ _ _ _).mono ?_; rintro r w' ⟨rfl, rfl⟩))
  all_goals go_ret
  all_goals refine ⟨ret_int ?_, by first | exact hB | exact (Below.refl _ _).alloc (Nat.le_refl _) _⟩
  all_goals (clear hB hV; go_light)
  all_goals (simp_all [msgF, endsB, posB, marksB, entsB, inB_zero, beq_swap (lt == 0) (li == 0)])

set_option maxHeartbeats 8000000 in
set_option maxRecDepth 100000 in
theorem specMsgFault_2 (fr tq tm li lt cm ok hi : Int) (ev : Value) (l : List Ent) (w : World) (hv : Es w ev l) (hll : l.length ≤ 1048576) :
    Calls Tryz.prog 7 #[.agg #[.int .i64 2, .int .i64 fr, .int .i64 tq, .int .i64 tm, .int .i64 li, .int .i64 lt, .int .i64 cm, .int .i64 ok, .int .i64 hi, ev]] w fun r w' => r = .returned (.int .i64 (msgF 2 fr tq tm li lt cm ok hi l)) ∧ Below w.heap.size w w' := by
  have hV : Hid (Es w ev l) := hv
  obtain ⟨hl, hf, a, cap, rfl, hc⟩ := hv
  clear hc hf
  have h16 : inB 2 1 6 = true := rfl
  have hB : Below w.heap.size w (w.alloc (.cells #[.int .i64 2, .int .i64 fr, .int .i64 tq, .int .i64 tm, .int .i64 li, .int .i64 lt, .int .i64 cm, .int .i64 ok, .int .i64 hi, .slice a l.length cap] 27)) := (Below.refl _ _).alloc (Nat.le_refl _) _
  go_enter Tryz.func7, Tryz.ntmps7
  go_wp2_with (first
    | (go_at_call 25; refine (l1in_any _ _ _ _).mono ?_; rintro r w' ⟨rfl, rfl⟩))
  all_goals go_ret
  all_goals refine ⟨ret_int ?_, by first | exact hB | exact (Below.refl _ _).alloc (Nat.le_refl _) _⟩
  all_goals (clear hB hV; go_light)
  all_goals (simp_all [msgF, endsB, posB, marksB, entsB, inB_zero])
  all_goals (intro h0; exfalso; omega)

set_option maxHeartbeats 8000000 in
set_option maxRecDepth 100000 in
theorem specMsgFault_4 (fr tq tm li lt cm ok hi : Int) (ev : Value) (l : List Ent) (w : World) (hv : Es w ev l) (hll : l.length ≤ 1048576) :
    Calls Tryz.prog 7 #[.agg #[.int .i64 4, .int .i64 fr, .int .i64 tq, .int .i64 tm, .int .i64 li, .int .i64 lt, .int .i64 cm, .int .i64 ok, .int .i64 hi, ev]] w fun r w' => r = .returned (.int .i64 (msgF 4 fr tq tm li lt cm ok hi l)) ∧ Below w.heap.size w w' := by
  have hV : Hid (Es w ev l) := hv
  obtain ⟨hl, hf, a, cap, rfl, hc⟩ := hv
  clear hc hf
  have h16 : inB 4 1 6 = true := rfl
  have hB : Below w.heap.size w (w.alloc (.cells #[.int .i64 4, .int .i64 fr, .int .i64 tq, .int .i64 tm, .int .i64 li, .int .i64 lt, .int .i64 cm, .int .i64 ok, .int .i64 hi, .slice a l.length cap] 27)) := (Below.refl _ _).alloc (Nat.le_refl _) _
  go_enter Tryz.func7, Tryz.ntmps7
  go_wp2_with (first
    | (go_at_call 25; refine (l1in_any _ _ _ _).mono ?_; rintro r w' ⟨rfl, rfl⟩))
  all_goals go_ret
  all_goals refine ⟨ret_int ?_, by first | exact hB | exact (Below.refl _ _).alloc (Nat.le_refl _) _⟩
  all_goals (clear hB hV; go_light)
  all_goals (simp_all [msgF, endsB, posB, marksB, entsB, inB_zero])
  all_goals (intro h0; exfalso; omega)

end Go.Proofs.YtafmjckpbcijoaaGreatDoor

/-
  spec.MsgFault at the kind 5.
-/
namespace Go.Proofs.YtafmjckpbcijoaaGreatDoor
open Go.RowKit
set_option linter.unusedVariables false
set_option linter.unusedSimpArgs false

set_option maxHeartbeats 8000000 in
set_option maxRecDepth 100000 in
theorem specMsgFault_5a (fr tq tm li lt cm : Int) (hp : inB li 0 4096 = true) (p1 : 0 ≤ li) (p2 : li ≤ 4096) (ev : Value) (l : List Ent) (w : World) (hv : Es w ev l) (hll : l.length ≤ 1048576) :
    Calls Tryz.prog 7 #[.agg #[.int .i64 5, .int .i64 fr, .int .i64 tq, .int .i64 tm, .int .i64 li, .int .i64 lt, .int .i64 cm, .int .i64 0, .int .i64 0, ev]] w fun r w' => r = .returned (.int .i64 (msgF 5 fr tq tm li lt cm 0 0 l)) ∧ Below w.heap.size w w' := by
  have hV : Hid (Es w ev l) := hv
  obtain ⟨hl, hf, a, cap, rfl, hc⟩ := hv
  clear hc hf
  have h16 : inB 5 1 6 = true := rfl
  have hB : Below w.heap.size w (w.alloc (.cells #[.int .i64 5, .int .i64 fr, .int .i64 tq, .int .i64 tm, .int .i64 li, .int .i64 lt, .int .i64 cm, .int .i64 0, .int .i64 0, .slice a l.length cap] 27)) := (Below.refl _ _).alloc (Nat.le_refl _) _
  go_enter Tryz.func7, Tryz.ntmps7
  go_wp2_with (first
    | (go_at_call 25; refine (l1in_any _ _ _ _).mono ?_; rintro r w' ⟨rfl, rfl⟩)
    | (go_at_call 26; refine (l1rising_any _ _ _ l _ (hV.out.below hB) hll).mono ?_; rintro r w1 ⟨rfl, hb⟩; replace hB := hB.trans (hb.mono (by simp))))
  all_goals go_ret
  all_goals refine ⟨ret_int ?_, by first | exact hB | exact (Below.refl _ _).alloc (Nat.le_refl _) _⟩
  all_goals (clear hB hV; go_light)
  all_goals (simp_all [msgF, endsB, posB, marksB, entsB, inB_zero, beq_swap (lt == 0) (li == 0)])
  all_goals first | omega | (intros; exfalso; omega) | (cases hfit : fitL tm lt l <;> simp_all <;> omega)

set_option maxHeartbeats 8000000 in
set_option maxRecDepth 100000 in
theorem specMsgFault_5b (fr tq tm li lt cm hi : Int) (hh : (hi != 0) = true) (ev : Value) (l : List Ent) (w : World) (hv : Es w ev l) (hll : l.length ≤ 1048576) :
    Calls Tryz.prog 7 #[.agg #[.int .i64 5, .int .i64 fr, .int .i64 tq, .int .i64 tm, .int .i64 li, .int .i64 lt, .int .i64 cm, .int .i64 0, .int .i64 hi, ev]] w fun r w' => r = .returned (.int .i64 (msgF 5 fr tq tm li lt cm 0 hi l)) ∧ Below w.heap.size w w' := by
  have hV : Hid (Es w ev l) := hv
  obtain ⟨hl, hf, a, cap, rfl, hc⟩ := hv
  clear hc hf
  have h16 : inB 5 1 6 = true := rfl
  have hB : Below w.heap.size w (w.alloc (.cells #[.int .i64 5, .int .i64 fr, .int .i64 tq, .int .i64 tm, .int .i64 li, .int .i64 lt, .int .i64 cm, .int .i64 0, .int .i64 hi, .slice a l.length cap] 27)) := (Below.refl _ _).alloc (Nat.le_refl _) _
  go_enter Tryz.func7, Tryz.ntmps7
  go_wp2_with (first
    | (go_at_call 25; refine (l1in_any _ _ _ _).mono ?_; rintro r w' ⟨rfl, rfl⟩))
  all_goals go_ret
  all_goals refine ⟨ret_int ?_, by first | exact hB | exact (Below.refl _ _).alloc (Nat.le_refl _) _⟩
  all_goals (clear hB hV; go_light)
  all_goals (simp_all [msgF, endsB, posB, marksB, entsB, inB_zero, beq_swap (lt == 0) (li == 0)])

set_option maxHeartbeats 8000000 in
set_option maxRecDepth 100000 in
theorem specMsgFault_5c (fr tq tm li lt cm ok hi : Int) (hh : (ok != 0) = true) (ev : Value) (l : List Ent) (w : World) (hv : Es w ev l) (hll : l.length ≤ 1048576) :
    Calls Tryz.prog 7 #[.agg #[.int .i64 5, .int .i64 fr, .int .i64 tq, .int .i64 tm, .int .i64 li, .int .i64 lt, .int .i64 cm, .int .i64 ok, .int .i64 hi, ev]] w fun r w' => r = .returned (.int .i64 (msgF 5 fr tq tm li lt cm ok hi l)) ∧ Below w.heap.size w w' := by
  have hV : Hid (Es w ev l) := hv
  obtain ⟨hl, hf, a, cap, rfl, hc⟩ := hv
  clear hc hf
  have h16 : inB 5 1 6 = true := rfl
  have hB : Below w.heap.size w (w.alloc (.cells #[.int .i64 5, .int .i64 fr, .int .i64 tq, .int .i64 tm, .int .i64 li, .int .i64 lt, .int .i64 cm, .int .i64 ok, .int .i64 hi, .slice a l.length cap] 27)) := (Below.refl _ _).alloc (Nat.le_refl _) _
  go_enter Tryz.func7, Tryz.ntmps7
  go_wp2_with (first
    | (go_at_call 25; refine (l1in_any _ _ _ _).mono ?_; rintro r w' ⟨rfl, rfl⟩))
  all_goals go_ret
  all_goals refine ⟨ret_int ?_, by first | exact hB | exact (Below.refl _ _).alloc (Nat.le_refl _) _⟩
  all_goals (clear hB hV; go_light)
  all_goals (simp_all [msgF, endsB, posB, marksB, entsB, inB_zero, beq_swap (lt == 0) (li == 0)])

set_option maxHeartbeats 8000000 in
set_option maxRecDepth 100000 in
theorem specMsgFault_5d (fr tq tm li lt cm ok hi : Int) (hp : inB li 0 4096 = false) (ev : Value) (l : List Ent) (w : World) (hv : Es w ev l) (hll : l.length ≤ 1048576) :
    Calls Tryz.prog 7 #[.agg #[.int .i64 5, .int .i64 fr, .int .i64 tq, .int .i64 tm, .int .i64 li, .int .i64 lt, .int .i64 cm, .int .i64 ok, .int .i64 hi, ev]] w fun r w' => r = .returned (.int .i64 (msgF 5 fr tq tm li lt cm ok hi l)) ∧ Below w.heap.size w w' := by
  have hV : Hid (Es w ev l) := hv
  obtain ⟨hl, hf, a, cap, rfl, hc⟩ := hv
  clear hc hf
  have h16 : inB 5 1 6 = true := rfl
  have hB : Below w.heap.size w (w.alloc (.cells #[.int .i64 5, .int .i64 fr, .int .i64 tq, .int .i64 tm, .int .i64 li, .int .i64 lt, .int .i64 cm, .int .i64 ok, .int .i64 hi, .slice a l.length cap] 27)) := (Below.refl _ _).alloc (Nat.le_refl _) _
  go_enter Tryz.func7, Tryz.ntmps7
  go_wp2_with (first
    | (go_at_call 25; refine (l1in_any _ _ _ _).mono ?_; rintro r w' ⟨rfl, rfl⟩))
  all_goals go_ret
  all_goals refine ⟨ret_int ?_, by first | exact hB | exact (Below.refl _ _).alloc (Nat.le_refl _) _⟩
  all_goals (clear hB hV; go_light)
  all_goals (simp_all [msgF, endsB, posB, marksB, entsB, inB_zero, beq_swap (lt == 0) (li == 0)])

end Go.Proofs.YtafmjckpbcijoaaGreatDoor

/-
  spec.MsgFault at the kind 6, and whole.
-/
namespace Go.Proofs.YtafmjckpbcijoaaGreatDoor
open Go.RowKit
set_option linter.unusedVariables false
set_option linter.unusedSimpArgs false

set_option maxHeartbeats 8000000 in
set_option maxRecDepth 100000 in
theorem specMsgFault_6a0 (fr tq tm li lt cm hi : Int) (hp : inB li 0 4096 = true) (p1 : 0 ≤ li) (p2 : li ≤ 4096) (ev : Value) (l : List Ent) (w : World) (hv : Es w ev l) (hll : l.length ≤ 1048576) :
    Calls Tryz.prog 7 #[.agg #[.int .i64 6, .int .i64 fr, .int .i64 tq, .int .i64 tm, .int .i64 li, .int .i64 lt, .int .i64 cm, .int .i64 0, .int .i64 hi, ev]] w fun r w' => r = .returned (.int .i64 (msgF 6 fr tq tm li lt cm 0 hi l)) ∧ Below w.heap.size w w' := by
  have hV : Hid (Es w ev l) := hv
  obtain ⟨hl, hf, a, cap, rfl, hc⟩ := hv
  clear hc hf
  have h16 : inB 6 1 6 = true := rfl
  have hB : Below w.heap.size w (w.alloc (.cells #[.int .i64 6, .int .i64 fr, .int .i64 tq, .int .i64 tm, .int .i64 li, .int .i64 lt, .int .i64 cm, .int .i64 0, .int .i64 hi, .slice a l.length cap] 27)) := (Below.refl _ _).alloc (Nat.le_refl _) _
  go_enter Tryz.func7, Tryz.ntmps7
  go_wp2_with (first
    | (go_at_call 25; refine (l1in_any _ _ _ _).mono ?_; rintro r w' ⟨rfl, rfl⟩))
  all_goals go_ret
  all_goals refine ⟨ret_int ?_, by first | exact hB | exact (Below.refl _ _).alloc (Nat.le_refl _) _⟩
  all_goals (clear hB hV; go_light)
  all_goals (simp_all [msgF, endsB, posB, marksB, entsB, inB_zero])
  all_goals rfl

set_option maxHeartbeats 8000000 in
set_option maxRecDepth 100000 in
theorem specMsgFault_6a1 (fr tq tm li lt cm hi : Int) (hp : inB li 0 4096 = true) (p1 : 0 ≤ li) (p2 : li ≤ 4096) (ev : Value) (l : List Ent) (w : World) (hv : Es w ev l) (hll : l.length ≤ 1048576) :
    Calls Tryz.prog 7 #[.agg #[.int .i64 6, .int .i64 fr, .int .i64 tq, .int .i64 tm, .int .i64 li, .int .i64 lt, .int .i64 cm, .int .i64 1, .int .i64 hi, ev]] w fun r w' => r = .returned (.int .i64 (msgF 6 fr tq tm li lt cm 1 hi l)) ∧ Below w.heap.size w w' := by
  have hV : Hid (Es w ev l) := hv
  obtain ⟨hl, hf, a, cap, rfl, hc⟩ := hv
  clear hc hf
  have h16 : inB 6 1 6 = true := rfl
  have hB : Below w.heap.size w (w.alloc (.cells #[.int .i64 6, .int .i64 fr, .int .i64 tq, .int .i64 tm, .int .i64 li, .int .i64 lt, .int .i64 cm, .int .i64 1, .int .i64 hi, .slice a l.length cap] 27)) := (Below.refl _ _).alloc (Nat.le_refl _) _
  go_enter Tryz.func7, Tryz.ntmps7
  go_wp2_with (first
    | (go_at_call 25; refine (l1in_any _ _ _ _).mono ?_; rintro r w' ⟨rfl, rfl⟩))
  all_goals go_ret
  all_goals refine ⟨ret_int ?_, by first | exact hB | exact (Below.refl _ _).alloc (Nat.le_refl _) _⟩
  all_goals (clear hB hV; go_light)
  all_goals (simp_all [msgF, endsB, posB, marksB, entsB, inB_zero])

set_option maxHeartbeats 8000000 in
set_option maxRecDepth 100000 in
theorem specMsgFault_6a2 (fr tq tm li lt cm ok hi : Int) (hp : inB li 0 4096 = true) (p1 : 0 ≤ li) (p2 : li ≤ 4096) (ho : inB ok 0 1 = false) (ev : Value) (l : List Ent) (w : World) (hv : Es w ev l) (hll : l.length ≤ 1048576) :
    Calls Tryz.prog 7 #[.agg #[.int .i64 6, .int .i64 fr, .int .i64 tq, .int .i64 tm, .int .i64 li, .int .i64 lt, .int .i64 cm, .int .i64 ok, .int .i64 hi, ev]] w fun r w' => r = .returned (.int .i64 (msgF 6 fr tq tm li lt cm ok hi l)) ∧ Below w.heap.size w w' := by
  have hV : Hid (Es w ev l) := hv
  obtain ⟨hl, hf, a, cap, rfl, hc⟩ := hv
  clear hc hf
  have h16 : inB 6 1 6 = true := rfl
  have hB : Below w.heap.size w (w.alloc (.cells #[.int .i64 6, .int .i64 fr, .int .i64 tq, .int .i64 tm, .int .i64 li, .int .i64 lt, .int .i64 cm, .int .i64 ok, .int .i64 hi, .slice a l.length cap] 27)) := (Below.refl _ _).alloc (Nat.le_refl _) _
  go_enter Tryz.func7, Tryz.ntmps7
  go_wp2_with (first
    | (go_at_call 25; refine (l1in_any _ _ _ _).mono ?_; rintro r w' ⟨rfl, rfl⟩))
  all_goals go_ret
  all_goals refine ⟨ret_int ?_, by first | exact hB | exact (Below.refl _ _).alloc (Nat.le_refl _) _⟩
  all_goals (clear hB hV; go_light)
  all_goals (simp_all [msgF, endsB, posB, marksB, entsB, inB_zero])

set_option maxHeartbeats 8000000 in
set_option maxRecDepth 100000 in
theorem specMsgFault_6b (fr tq tm li lt cm ok hi : Int) (hp : inB li 0 4096 = false) (p1 : li < 0) (ev : Value) (l : List Ent) (w : World) (hv : Es w ev l) (hll : l.length ≤ 1048576) :
    Calls Tryz.prog 7 #[.agg #[.int .i64 6, .int .i64 fr, .int .i64 tq, .int .i64 tm, .int .i64 li, .int .i64 lt, .int .i64 cm, .int .i64 ok, .int .i64 hi, ev]] w fun r w' => r = .returned (.int .i64 (msgF 6 fr tq tm li lt cm ok hi l)) ∧ Below w.heap.size w w' := by
  have hV : Hid (Es w ev l) := hv
  obtain ⟨hl, hf, a, cap, rfl, hc⟩ := hv
  clear hc hf
  have h16 : inB 6 1 6 = true := rfl
  have hB : Below w.heap.size w (w.alloc (.cells #[.int .i64 6, .int .i64 fr, .int .i64 tq, .int .i64 tm, .int .i64 li, .int .i64 lt, .int .i64 cm, .int .i64 ok, .int .i64 hi, .slice a l.length cap] 27)) := (Below.refl _ _).alloc (Nat.le_refl _) _
  go_enter Tryz.func7, Tryz.ntmps7
  go_wp2_with (first
    | (go_at_call 25; refine (l1in_any _ _ _ _).mono ?_; rintro r w' ⟨rfl, rfl⟩))
  all_goals go_ret
  all_goals refine ⟨ret_int ?_, by first | exact hB | exact (Below.refl _ _).alloc (Nat.le_refl _) _⟩
  all_goals (clear hB hV; go_light)
  all_goals (simp_all [msgF, endsB, posB, marksB, entsB, inB_zero])

set_option maxHeartbeats 8000000 in
set_option maxRecDepth 100000 in
theorem specMsgFault_6c (fr tq tm li lt cm ok hi : Int) (hp : inB li 0 4096 = false) (p1 : 0 ≤ li) (p2 : 4096 < li) (ev : Value) (l : List Ent) (w : World) (hv : Es w ev l) (hll : l.length ≤ 1048576) :
    Calls Tryz.prog 7 #[.agg #[.int .i64 6, .int .i64 fr, .int .i64 tq, .int .i64 tm, .int .i64 li, .int .i64 lt, .int .i64 cm, .int .i64 ok, .int .i64 hi, ev]] w fun r w' => r = .returned (.int .i64 (msgF 6 fr tq tm li lt cm ok hi l)) ∧ Below w.heap.size w w' := by
  have hV : Hid (Es w ev l) := hv
  obtain ⟨hl, hf, a, cap, rfl, hc⟩ := hv
  clear hc hf
  have h16 : inB 6 1 6 = true := rfl
  have hB : Below w.heap.size w (w.alloc (.cells #[.int .i64 6, .int .i64 fr, .int .i64 tq, .int .i64 tm, .int .i64 li, .int .i64 lt, .int .i64 cm, .int .i64 ok, .int .i64 hi, .slice a l.length cap] 27)) := (Below.refl _ _).alloc (Nat.le_refl _) _
  go_enter Tryz.func7, Tryz.ntmps7
  go_wp2_with (first
    | (go_at_call 25; refine (l1in_any _ _ _ _).mono ?_; rintro r w' ⟨rfl, rfl⟩))
  all_goals go_ret
  all_goals refine ⟨ret_int ?_, by first | exact hB | exact (Below.refl _ _).alloc (Nat.le_refl _) _⟩
  all_goals (clear hB hV; go_light)
  all_goals (simp_all [msgF, endsB, posB, marksB, entsB, inB_zero])

theorem specMsgFault_any (ki fr tq tm li lt cm ok hi : Int) (ev : Value) (l : List Ent) (w : World) (hv : Es w ev l) (hll : l.length ≤ 1048576) :
    Calls Tryz.prog 7 #[.agg #[.int .i64 ki, .int .i64 fr, .int .i64 tq, .int .i64 tm, .int .i64 li, .int .i64 lt, .int .i64 cm, .int .i64 ok, .int .i64 hi, ev]] w fun r w' => r = .returned (.int .i64 (msgF ki fr tq tm li lt cm ok hi l)) ∧ Below w.heap.size w w' := by
  by_cases hk : inB ki 1 6 = true
  · obtain ⟨k1, k2⟩ := (inB_iff _ _ _).1 hk
    rcases (by omega : ki = 1 ∨ ki = 2 ∨ ki = 3 ∨ ki = 4 ∨ ki = 5 ∨ ki = 6) with rfl | rfl | rfl | rfl | rfl | rfl
    · exact specMsgFault_1 fr tq tm li lt cm ok hi ev l w hv hll
    · exact specMsgFault_2 fr tq tm li lt cm ok hi ev l w hv hll
    · exact specMsgFault_3 fr tq tm li lt cm ok hi ev l w hv hll
    · exact specMsgFault_4 fr tq tm li lt cm ok hi ev l w hv hll
    · by_cases hp : inB li 0 4096 = true
      · obtain ⟨p1, p2⟩ := (inB_iff _ _ _).1 hp
        by_cases h0 : ok = 0
        · subst h0
          by_cases h1 : hi = 0
          · subst h1
            exact specMsgFault_5a fr tq tm li lt cm hp p1 p2 ev l w hv hll
          · exact specMsgFault_5b fr tq tm li lt cm hi (by simpa using h1) ev l w hv hll
        · exact specMsgFault_5c fr tq tm li lt cm ok hi (by simpa using h0) ev l w hv hll
      · exact specMsgFault_5d fr tq tm li lt cm ok hi (by simpa using hp) ev l w hv hll
    · by_cases hp : inB li 0 4096 = true
      · obtain ⟨p1, p2⟩ := (inB_iff _ _ _).1 hp
        by_cases ho : inB ok 0 1 = true
        · obtain ⟨o1, o2⟩ := (inB_iff _ _ _).1 ho
          rcases (by omega : ok = 0 ∨ ok = 1) with rfl | rfl
          · exact specMsgFault_6a0 fr tq tm li lt cm hi hp p1 p2 ev l w hv hll
          · exact specMsgFault_6a1 fr tq tm li lt cm hi hp p1 p2 ev l w hv hll
        · exact specMsgFault_6a2 fr tq tm li lt cm ok hi hp p1 p2 (by simpa using ho) ev l w hv hll
      · have hp' : inB li 0 4096 = false := by simpa using hp
        rcases (inB_not _ _ _).1 hp' with p | p
        · exact specMsgFault_6b fr tq tm li lt cm ok hi hp' p ev l w hv hll
        · exact specMsgFault_6c fr tq tm li lt cm ok hi hp' (by omega) p ev l w hv hll
  · have hk' : inB ki 1 6 = false := by simpa using hk
    have hE : msgF ki fr tq tm li lt cm ok hi l = 1 := by simp [msgF, hk']
    rw [hE]
    obtain ⟨hl, hf, a, cap, rfl, hc⟩ := hv
    clear hc hf
    go_enter Tryz.func7, Tryz.ntmps7
    go_wp2_with (go_at_call 25; refine (l1in_any _ _ _ _).mono ?_; rintro r w' ⟨rfl, rfl⟩)
    go_ret
    exact ⟨rfl, (Below.refl _ _).alloc (Nat.le_refl _) _⟩
end Go.Proofs.YtafmjckpbcijoaaGreatDoor

/-
  spec.l1entryBytes, spec.EncodeMsg.
-/
namespace Go.Proofs.YtafmjckpbcijoaaGreatDoor
open Go.RowKit
set_option linter.unusedVariables false

set_option maxHeartbeats 16000000 in
set_option maxRecDepth 100000 in
theorem specEncodeMsg_yes (ki fr tq tm li lt cm ok hi : Nat) (ev : Value) (l : List Ent) (w : World) (hv : Es w ev l) (hll : l.length ≤ 1048576) (hF : msgF ki fr tq tm li lt cm ok hi l = 0) :
    Calls Tryz.prog 21 #[.agg #[.int .i64 ki, .int .i64 fr, .int .i64 tq, .int .i64 tm, .int .i64 li, .int .i64 lt, .int .i64 cm, .int .i64 ok, .int .i64 hi, ev]] w fun e w' => ∃ v', e = .returned v' ∧ Own w' w.heap.size v' (frameL (msgL ki fr tq tm li lt cm ok hi l)) ∧ Below w.heap.size w w' := by
  obtain ⟨⟨a1, a2⟩, ⟨a3, a4⟩, ⟨a5, a6⟩, ⟨a7, a8⟩, ⟨a9, a10⟩, ⟨a11, a12⟩, ⟨a13, a14⟩, ⟨a15, a16⟩, ⟨a17, a18⟩, hl32, hall⟩ := msgF_ok hF
  obtain ⟨hp, hlen⟩ := msgL_len ki fr tq tm li lt cm ok hi l (by simp; omega) hl32 hall
  have HA : Hid (∀ e ∈ l, entB e = true) := hall
  have HN : Hid (∀ n ∈ [fr, tq, tm, li, lt, cm, ok, hi, l.length], n < 9223372036854775808) := (by simp; omega : ∀ n ∈ [fr, tq, tm, li, lt, cm, ok, hi, l.length], n < 9223372036854775808)
  have hn9 : (numsL [fr, tq, tm, li, lt, cm, ok, hi, l.length]).length ≤ 81 := numsL_len [fr, tq, tm, li, lt, cm, ok, hi, l.length] HN.out
  have hV : Hid (Es w ev l) := hv
  obtain ⟨hl, hf, a, cap, rfl, hc⟩ := hv
  have HCl : Hid (∀ i, i < l.length → ∃ b off, a = some ⟨b, off, none⟩ ∧ ∀ j (h : j < l.length), EntAt w b (off + j * 7) l[j]) := hc
  clear hc hf hall
  go_enter Tryz.func21, Tryz.ntmps21
  go_wp2_with (go_at_call 7; refine (specMsgFault_any _ _ _ _ _ _ _ _ _ _ l _ (hV.out.below ((Below.refl _ _).alloc (Nat.le_refl _) _)) hll).mono ?_; rintro e w1 ⟨rfl, hb⟩; rw [hF]; have hB0 : Below (w.heap.size + 1) (w.alloc (.cells #[.int .i64 ki, .int .i64 fr, .int .i64 tq, .int .i64 tm, .int .i64 li, .int .i64 lt, .int .i64 cm, .int .i64 ok, .int .i64 hi, .slice a l.length cap] 27)) w1 := hb.mono (by simp); have hz1 : w.heap.size < w1.heap.size := (by have := hB0.size; simp at this; omega); have cc := fun (o : Nat) => hB0.cell (p := ⟨w.heap.size, o, none⟩) (by simp); clear hb)
  have hI := Ints.nine w1 fr tq tm li lt cm ok hi l.length
  have hO1 := (Own.lit (w1.alloc (.cells #[.int .i64 fr, .int .i64 tq, .int .i64 tm, .int .i64 li, .int .i64 lt, .int .i64 cm, .int .i64 ok, .int .i64 hi, .int .i64 (l.length : Nat)] 3)) [(ki : Int)] #[.int .u8 (ki : Int)] rfl (by simp; omega) (by simp [maxLen]))
  have hZ : ((w1.alloc (.cells #[.int .i64 fr, .int .i64 tq, .int .i64 tm, .int .i64 li, .int .i64 lt, .int .i64 cm, .int .i64 ok, .int .i64 hi, .int .i64 (l.length : Nat)] 3)).alloc (.cells #[.int .u8 (ki : Int)] 5)).heap.size = w1.heap.size + 1 + 1 := by simp
  go_loopw [4, 5] (fun o i wr => ∃ k : Nat, k ≤ 9 ∧ i = .int .i64 k ∧ Own wr (w1.heap.size + 1) o ([(ki : Int)] ++ numsL ([fr, tq, tm, li, lt, cm, ok, hi, l.length].take k)) ∧ Below (w1.heap.size + 1) ((w1.alloc (.cells #[.int .i64 fr, .int .i64 tq, .int .i64 tm, .int .i64 li, .int .i64 lt, .int .i64 cm, .int .i64 ok, .int .i64 hi, .int .i64 (l.length : Nat)] 3)).alloc (.cells #[.int .u8 (ki : Int)] 5)) wr) (fun _ i _ => 9 - (intOf i).toNat)
  case atStart => exact ⟨0, Nat.zero_le _, rfl, by simpa [numsL] using hO1.le (B' := w1.heap.size + 1) (by simp), Below.refl _ _⟩
  case round =>
    obtain ⟨k, hk, rfl, ho, hB⟩ := hrel
    have hz : w1.heap.size + 1 + 1 ≤ wr.heap.size := by have := hB.size; rw [hZ] at this; exact this
    by_cases hlt : k < 9
    · have hck := hI k (by simpa using hlt)
      have hlen9 := numsL_len ([fr, tq, tm, li, lt, cm, ok, hi, l.length].take k) (fun n hn => HN.out n (List.mem_of_mem_take hn))
      have hcw : wr.cell? ⟨w1.heap.size, k, none⟩ = some (.int .i64 ([fr, tq, tm, li, lt, cm, ok, hi, l.length][k]?.getD 0 : Nat)) := by
        rw [hB.cell (p := ⟨w1.heap.size, k, none⟩) (by simp), World.cell?_alloc_past _ _ _ (by simp)]
        exact hck
      have hn : [fr, tq, tm, li, lt, cm, ok, hi, l.length][k]?.getD 0 < 9223372036854775808 := by
        have hkl : k < [fr, tq, tm, li, lt, cm, ok, hi, l.length].length := by simpa using hlt
        rw [List.getElem?_eq_getElem hkl]
        exact HN.out _ (List.getElem_mem hkl)
      have HS : Hid (numsL ([fr, tq, tm, li, lt, cm, ok, hi, l.length].take (k + 1)) = numsL ([fr, tq, tm, li, lt, cm, ok, hi, l.length].take k) ++ numL ([fr, tq, tm, li, lt, cm, ok, hi, l.length][k]?.getD 0)) := numsL_snoc _ k (by simpa using hlt)
      rw [List.length_take] at hlen9
      have hT : ([fr, tq, tm, li, lt, cm, ok, hi, l.length] : List Nat).length = 9 := rfl
      rw [hT] at hlen9
      generalize [fr, tq, tm, li, lt, cm, ok, hi, l.length][k]?.getD 0 = x at hcw hn HS
      have l9 := numL_len9 x hn
      have lp := numL_pos x
      clear hck hI hO1 cc hT
      go_wp2_with (first
        | (go_at_call 35; refine (specNum_any x hn _).mono ?_; rintro e w2 ⟨v2, rfl, ho2, hb2⟩; have hop := ho.below hb2; have hz2 := hb2.size)
        | (at_builtin; refine wpl_append rfl (.tmp 41) (.tmp 46) rfl hop rfl (ho2.bs (by unfold maxLen; omega)) rfl lp (by simp; omega) (by omega) ?_; intro v3 w3 ho3 hg3))
      go_roundw
      case rel => exact ⟨k + 1, by omega, by go_num, by rw [HS.out, ← List.append_assoc]; exact ho3, hB.trans ((hb2.mono (by omega)).trans (hg3.below hop (by omega)))⟩
      case measure => simp [intOf]; omega
    · have e9 : k = 9 := by omega
      subst e9
      have hT : [fr, tq, tm, li, lt, cm, ok, hi, l.length].take 9 = [fr, tq, tm, li, lt, cm, ok, hi, l.length] := rfl
      rw [hT] at ho
      have hBw : ∀ wx, Below (w1.heap.size + 1) ((w1.alloc (.cells #[.int .i64 fr, .int .i64 tq, .int .i64 tm, .int .i64 li, .int .i64 lt, .int .i64 cm, .int .i64 ok, .int .i64 hi, .int .i64 (l.length : Nat)] 3)).alloc (.cells #[.int .u8 (ki : Int)] 5)) wx → Below w.heap.size w wx := fun wx hx => ((Below.refl _ _).alloc (Nat.le_refl _) _).trans ((hB0.mono (by omega)).trans (((Below.refl _ _).alloc (by omega) _).trans (((Below.refl _ _).alloc (by simp; omega) _).trans (hx.mono (by omega)))))
      have c9 : w1.cell? ⟨w.heap.size, 9, none⟩ = some (.slice a l.length cap) := by rw [cc 9]; simp
      have hcx : ∀ wx, Below (w1.heap.size + 1) ((w1.alloc (.cells #[.int .i64 fr, .int .i64 tq, .int .i64 tm, .int .i64 li, .int .i64 lt, .int .i64 cm, .int .i64 ok, .int .i64 hi, .int .i64 (l.length : Nat)] 3)).alloc (.cells #[.int .u8 (ki : Int)] 5)) wx → wx.cell? ⟨w.heap.size, 9, none⟩ = some (.slice a l.length cap) := fun wx hx => by
        rw [hx.cell (p := ⟨w.heap.size, 9, none⟩) (show w.heap.size < w1.heap.size + 1 by omega), World.cell?_alloc_past _ _ _ (by simp; omega), World.cell?_alloc_past _ _ _ hz1]
        exact c9
      have HX : Hid (∀ wx, Below (w1.heap.size + 1) ((w1.alloc (.cells #[.int .i64 fr, .int .i64 tq, .int .i64 tm, .int .i64 li, .int .i64 lt, .int .i64 cm, .int .i64 ok, .int .i64 hi, .int .i64 (l.length : Nat)] 3)).alloc (.cells #[.int .u8 (ki : Int)] 5)) wx → wx.cell? ⟨w.heap.size, 9, none⟩ = some (.slice a l.length cap)) := hcx
      have HW : Hid (∀ wx, Below (w1.heap.size + 1) ((w1.alloc (.cells #[.int .i64 fr, .int .i64 tq, .int .i64 tm, .int .i64 li, .int .i64 lt, .int .i64 cm, .int .i64 ok, .int .i64 hi, .int .i64 (l.length : Nat)] 3)).alloc (.cells #[.int .u8 (ki : Int)] 5)) wx → Below w.heap.size w wx) := hBw
      clear hI hO1 hT hcx hBw c9 cc
      obtain ⟨N, hN⟩ : ∃ N, N = numsL [fr, tq, tm, li, lt, cm, ok, hi, l.length] := ⟨_, rfl⟩
      have hM : msgL ki fr tq tm li lt cm ok hi l = [(ki : Int)] ++ N ++ entsL l := by rw [hN]; simp [msgL]
      rw [hM] at hp hlen
      rw [← hN] at ho hn9
      have HM : Hid (msgL ki fr tq tm li lt cm ok hi l = [(ki : Int)] ++ N ++ entsL l) := hM
      clear hM hN
      generalize hW2 : (w1.alloc (.cells #[.int .i64 fr, .int .i64 tq, .int .i64 tm, .int .i64 li, .int .i64 lt, .int .i64 cm, .int .i64 ok, .int .i64 hi, .int .i64 (l.length : Nat)] 3)).alloc (.cells #[.int .u8 (ki : Int)] 5) = W2 at hB HX HW hZ
      clear hW2
      go_wp2
      go_loopw [4, 6] (fun o i wx => ∃ k : Nat, k ≤ l.length ∧ i = .int .i64 k ∧ Own wx (w1.heap.size + 1) o ([(ki : Int)] ++ N ++ entsL (l.take k)) ∧ Below (w1.heap.size + 1) W2 wx) (fun _ i _ => l.length - (intOf i).toNat)
      case atStart => exact ⟨0, Nat.zero_le _, rfl, by simpa [entsL] using ho, hB⟩
      case round =>
        obtain ⟨k, hk, rfl, ho', hB'⟩ := hrel
        have hzy : w1.heap.size + 1 + 1 ≤ wr.heap.size := by have := hB'.size; omega
        have c9 := HX.out _ hB'
        clear ho hB
        by_cases hlt : k < l.length
        · obtain ⟨b, off, rfl, hj⟩ := HCl.out k hlt
          obtain ⟨c0, c1, c2, c3, c4, c5, c6⟩ := (hj k hlt).below (HW.out _ hB')
          have hlenE := entsL_len (l.take k) (fun e he => HA.out e (List.mem_of_mem_take he))
          rw [List.length_take] at hlenE
          have HS : Hid (entsL (l.take (k + 1)) = entsL (l.take k) ++ entL l[k]) := entsL_snoc l k hlt
          obtain ⟨t, cl, sq, op, ky, vl, od, he, d0, d1, d2, d3, d4, d5, d6, hE⟩ := entB_nat (HA.out l[k] (List.getElem_mem hlt))
          obtain ⟨ep, el⟩ := entN_len t cl sq op ky vl od d0 d1 d2 d3 d4 d5 d6
          rw [hE] at HS
          rw [he] at c0 c1 c2 c3 c4 c5 c6
          clear hj hE he
          go_wp2_with (first
            | (go_at_call 47; refine (specEntryBytes_nat t cl sq op ky vl od _ d0 d1 d2 d3 d4 d5 d6).mono ?_; rintro e w2 ⟨v2, rfl, ho2, hb2⟩; have hop := ho'.below hb2; have hz2 := hb2.size)
            | (at_builtin; refine wpl_append rfl (.tmp 55) (.tmp 61) rfl hop rfl (ho2.bs (by unfold maxLen; omega)) rfl ep (by simp; omega) (by omega) ?_; intro v3 w3 ho3 hg3))
          go_roundw
          case rel => (repeat apply Exists.intro); exact ⟨⟨k + 1, by omega, by go_num, by rw [HS.out, ← List.append_assoc]; exact ho3, hB'.trans ((hb2.mono (by omega)).trans (hg3.below hop (by omega)))⟩, rfl⟩
          case measure => simp [intOf]; omega
        · have e : l.take k = l := List.take_of_length_le (by omega)
          rw [e] at ho'
          go_wp2_with (go_at_call 37; refine (specFrame_any _ _ _ (ho'.bs (by unfold maxLen; omega)) hp (by omega)).mono ?_; rintro e w4 ⟨v4, rfl, ho4, hb4⟩)
          go_ret
          exact ⟨_, rfl, by rw [HM.out]; exact ho4.le (by omega), (HW.out _ hB').trans (hb4.mono (by omega))⟩

set_option maxHeartbeats 2000000 in
set_option maxRecDepth 100000 in
theorem specEncodeMsg_any (ki fr tq tm li lt cm ok hi : Int) (ev : Value) (l : List Ent) (w : World) (hv : Es w ev l) (hll : l.length ≤ 1048576) :
    Calls Tryz.prog 21 #[.agg #[.int .i64 ki, .int .i64 fr, .int .i64 tq, .int .i64 tm, .int .i64 li, .int .i64 lt, .int .i64 cm, .int .i64 ok, .int .i64 hi, ev]] w fun e w' => ∃ v', e = .returned v' ∧ Own w' w.heap.size v' (encMsg ki fr tq tm li lt cm ok hi l) ∧ Below w.heap.size w w' := by
  by_cases hF : msgF ki fr tq tm li lt cm ok hi l = 0
  · rw [encMsg, if_pos hF]
    obtain ⟨⟨a1, a2⟩, ⟨a3, a4⟩, ⟨a5, a6⟩, ⟨a7, a8⟩, ⟨a9, a10⟩, ⟨a11, a12⟩, ⟨a13, a14⟩, ⟨a15, a16⟩, ⟨a17, a18⟩, hl32, hall⟩ := msgF_ok hF
    obtain ⟨ki, rfl⟩ := Int.eq_ofNat_of_zero_le (show 0 ≤ ki by omega)
    obtain ⟨fr, rfl⟩ := Int.eq_ofNat_of_zero_le (show 0 ≤ fr by omega)
    obtain ⟨tq, rfl⟩ := Int.eq_ofNat_of_zero_le (show 0 ≤ tq by omega)
    obtain ⟨tm, rfl⟩ := Int.eq_ofNat_of_zero_le (show 0 ≤ tm by omega)
    obtain ⟨li, rfl⟩ := Int.eq_ofNat_of_zero_le a9
    obtain ⟨lt, rfl⟩ := Int.eq_ofNat_of_zero_le a11
    obtain ⟨cm, rfl⟩ := Int.eq_ofNat_of_zero_le a13
    obtain ⟨ok, rfl⟩ := Int.eq_ofNat_of_zero_le a15
    obtain ⟨hi, rfl⟩ := Int.eq_ofNat_of_zero_le a17
    simp only [Int.toNat_natCast]
    exact specEncodeMsg_yes ki fr tq tm li lt cm ok hi ev l w hv hll hF
  · rw [encMsg, if_neg hF]
    have n0 : (msgF ki fr tq tm li lt cm ok hi l != 0) = true := by simpa using hF
    have hV : Hid (Es w ev l) := hv
    clear hv
    go_enter Tryz.func21, Tryz.ntmps21
    go_wp2_with (go_at_call 7; refine (specMsgFault_any _ _ _ _ _ _ _ _ _ _ l _ (hV.out.below ((Below.refl _ _).alloc (Nat.le_refl _) _)) hll).mono ?_; rintro e w1 ⟨rfl, hb⟩; have hB : Below w.heap.size w w1 := ((Below.refl _ _).alloc (Nat.le_refl _) _).trans (hb.mono (by simp)); have h7 := Own.lit0 w1; have hz := hB.size)
    go_ret
    exact ⟨_, rfl, h7.le hz, hB.trans ((Below.refl _ _).alloc hz _)⟩
end Go.Proofs.YtafmjckpbcijoaaGreatDoor

/-
  spec.EncodeCall.
-/
namespace Go.Proofs.YtafmjckpbcijoaaGreatDoor
open Go.RowKit
set_option linter.unusedVariables false

/-- what EncodeCall answers -/
def encCall (cl sq op : Int) (k v o : ByteArray) : List Int := if callF cl sq op k.size v.size o.size = 0 then frameL (7 :: cmdL cl.toNat sq.toNat op.toNat k v o) else []

set_option maxHeartbeats 2000000 in
set_option maxRecDepth 100000 in
theorem specEncodeCall_any (cl sq op : Int) (k vl o : ByteArray) (w : World) (hk : k.size ≤ maxLen) (hvl : vl.size ≤ maxLen) (ho : o.size ≤ maxLen) :
    Calls Tryz.prog 83 #[.agg #[.int .i64 cl, .int .i64 sq, .int .i64 op, .string k, .string vl, .string o]] w fun e w' =>
      ∃ v', e = .returned v' ∧ Own w' w.heap.size v' (encCall cl sq op k vl o) ∧ Below w.heap.size w w' := by
  by_cases hF : callF cl sq op k.size vl.size o.size = 0
  · rw [encCall, if_pos hF]
    obtain ⟨hc, hop⟩ := callF_ok hF
    obtain ⟨a1, a2, a3, a4, a5, a6, a7, a8, a9⟩ := cmdF_ok hc
    obtain ⟨cl, rfl⟩ := Int.eq_ofNat_of_zero_le a1
    obtain ⟨sq, rfl⟩ := Int.eq_ofNat_of_zero_le a3
    obtain ⟨op, rfl⟩ := Int.eq_ofNat_of_zero_le a5
    have hlen := cmdL_len cl sq op k vl o (by omega) (by omega) (by omega) (by omega) (by omega) (by omega)
    have hp : 0 < (cmdL cl sq op k vl o).length := by have := textL_pos o; simp only [cmdL, List.length_append]; omega
    have n0 : ((op : Int) == 0) = false := by simpa using hop
    simp only [Int.toNat_natCast]
    have HC : Hid (cmdF cl sq op k.size vl.size o.size = 0) := hc
    clear hc hF hop
    go_enter Tryz.func83, Tryz.ntmps83
    go_wp2_with (first
      | (go_at_call 11; refine (specCmdFault_any _ _ _ k vl o hk hvl ho _).mono ?_; rintro e w1 ⟨rfl, hb⟩; rw [HC.out]; have hB : Below (w.heap.size + 1) (w.alloc (.cells #[.int .i64 cl, .int .i64 sq, .int .i64 op, .string k, .string vl, .string o] 33)) w1 := hb.mono (by simp); have hz : w.heap.size < w1.heap.size := (by have := hB.size; simp at this; omega); have cc := fun (o : Nat) => hB.cell (p := ⟨w.heap.size, o, none⟩) (by simp); have h7 := Own.lit w1 [7] #[.int .u8 7] rfl (by simp) (by simp [maxLen]))
      | (go_at_call 73; refine (specCmdBytes_any cl sq op k vl o _ (by omega) (by omega) (by omega) (by omega) (by omega) (by omega)).mono ?_; rintro e w2 ⟨v2, rfl, ho2, hb2⟩; replace h7 := h7.below hb2; have hz2 := hb2.size; simp at hz2)
      | (at_builtin; refine wpl_append rfl (.tmp 14) (.tmp 16) rfl h7 rfl (ho2.bs (by unfold maxLen; omega)) rfl hp (by simp; omega) (by omega) ?_; intro v3 w3 ho3 hg3; have hB3 := hg3.below h7 (by omega); have hz3 := hB3.size)
      | (go_at_call 37; refine (specFrame_any _ _ _ (ho3.bs (by unfold maxLen; simp; omega)) (by simp) (by simp; omega)).mono ?_; rintro e w4 ⟨v4, rfl, ho4, hb4⟩))
    go_ret
    refine ⟨_, rfl, by simpa using ho4.le (B' := w.heap.size) (by omega), ((Below.refl _ _).alloc (Nat.le_refl _) _).trans ((hB.mono (by omega)).trans (((Below.refl _ _).alloc (by omega) _).trans ((hb2.mono (by simp; omega)).trans ((hB3.mono (by omega)).trans (hb4.mono (by omega))))))⟩
  · rw [encCall, if_neg hF]
    by_cases h0 : cmdF cl sq op k.size vl.size o.size = 0
    · have hop : op = 0 := by
        by_cases h : op = 0
        · exact h
        · exact absurd (by rw [callF, if_neg (fun h' => h h'.2), h0]) hF
      subst hop
      clear hF
      go_enter Tryz.func83, Tryz.ntmps83
      go_wp2_with (go_at_call 11; refine (specCmdFault_any _ _ _ k vl o hk hvl ho _).mono ?_; rintro e w1 ⟨rfl, hb⟩; have hB : Below (w.heap.size + 1) (w.alloc (.cells #[.int .i64 cl, .int .i64 sq, .int .i64 0, .string k, .string vl, .string o] 33)) w1 := hb.mono (by simp); have hz : w.heap.size < w1.heap.size := (by have := hB.size; simp at this; omega); have cc := fun (o : Nat) => hB.cell (p := ⟨w.heap.size, o, none⟩) (by simp); have h7 := Own.lit0 w1)
      go_ret
      exact ⟨_, rfl, h7.le (by omega), ((Below.refl _ _).alloc (Nat.le_refl _) _).trans ((hB.mono (by omega)).trans ((Below.refl _ _).alloc (by omega) _))⟩
    · have n0 : (cmdF cl sq op k.size vl.size o.size != 0) = true := by simpa using h0
      go_enter Tryz.func83, Tryz.ntmps83
      go_wp2_with (go_at_call 11; refine (specCmdFault_any _ _ _ k vl o hk hvl ho _).mono ?_; rintro e w1 ⟨rfl, hb⟩; have hB : Below (w.heap.size + 1) (w.alloc (.cells #[.int .i64 cl, .int .i64 sq, .int .i64 op, .string k, .string vl, .string o] 33)) w1 := hb.mono (by simp); have hz : w.heap.size < w1.heap.size := (by have := hB.size; simp at this; omega); have cc := fun (o : Nat) => hB.cell (p := ⟨w.heap.size, o, none⟩) (by simp); have h7 := Own.lit0 w1)
      go_ret
      exact ⟨_, rfl, h7.le (by omega), ((Below.refl _ _).alloc (Nat.le_refl _) _).trans ((hB.mono (by omega)).trans ((Below.refl _ _).alloc (by omega) _))⟩
end Go.Proofs.YtafmjckpbcijoaaGreatDoor

/-
  spec.EncodeReply.
-/
namespace Go.Proofs.YtafmjckpbcijoaaGreatDoor
open Go.RowKit
set_option linter.unusedVariables false

set_option maxHeartbeats 4000000 in
set_option maxRecDepth 100000 in
theorem specEncodeReply_any (cl sq st cd ld : Int) (v : ByteArray) (w : World) (hv : v.size ≤ maxLen) :
    Calls Tryz.prog 14 #[.agg #[.int .i64 cl, .int .i64 sq, .int .i64 st, .int .i64 cd, .string v, .int .i64 ld]] w fun e w' => ∃ v', e = .returned v' ∧ Own w' w.heap.size v' (encReply cl sq st cd ld v) ∧ Below w.heap.size w w' := by
  by_cases hF : repF cl sq st cd v.size ld = 0
  · rw [encReply, if_pos hF]
    obtain ⟨a1, a2, a3, a4, a5, a6, a7, a8, a9, a10, a11⟩ := repF_ok hF
    obtain ⟨cl, rfl⟩ := Int.eq_ofNat_of_zero_le (show 0 ≤ cl by omega)
    obtain ⟨sq, rfl⟩ := Int.eq_ofNat_of_zero_le (show 0 ≤ sq by omega)
    obtain ⟨st, rfl⟩ := Int.eq_ofNat_of_zero_le (show 0 ≤ st by omega)
    obtain ⟨cd, rfl⟩ := Int.eq_ofNat_of_zero_le a7
    obtain ⟨ld, rfl⟩ := Int.eq_ofNat_of_zero_le a10
    simp only [Int.toNat_natCast]
    have l1 := numL_len9 cl (by omega)
    have l2 := numL_len9 sq (by omega)
    have l3 := numL_len9 st (by omega)
    have l4 := numL_len9 cd (by omega)
    have l5 := textL_len v (by omega)
    have l6 := numL_len9 ld (by omega)
    have p1 := numL_pos cl
    have p2 := numL_pos sq
    have p3 := numL_pos st
    have p4 := numL_pos cd
    have p5 := textL_pos v
    have p6 := numL_pos ld
    have g1 : True := trivial
    have g2 : True := trivial
    have g3 : True := trivial
    have g4 : True := trivial
    have g5 : True := trivial
    have g6 : True := trivial
    go_enter Tryz.func14, Tryz.ntmps14
    go_wp2_with (first
      | (go_at_call 34; refine (specReplyFault_any _ _ _ _ _ v hv _).mono ?_; rintro e w1 ⟨rfl, hb⟩; rw [hF]; have hB : Below (w.heap.size + 1) (w.alloc (.cells #[.int .i64 cl, .int .i64 sq, .int .i64 st, .int .i64 cd, .string v, .int .i64 ld] 38)) w1 := hb.mono (by simp); have hz : w.heap.size < w1.heap.size := (by have := hB.size; simp at this; omega); have cc := fun (o : Nat) => hB.cell (p := ⟨w.heap.size, o, none⟩) (by simp); replace hB := hB.trans ((Below.refl _ _).alloc (by omega) (.cells #[.int .u8 8] 5)); have ho := (Own.lit w1 [8] #[.int .u8 8] rfl (by simp) (by simp [maxLen])).le (B' := w.heap.size + 1) (by omega); have hz' : w.heap.size < (w1.alloc (.cells #[.int .u8 8] 5)).heap.size := (by simp; omega))
      | (go_at_call 35; clear g1; refine (specNum_any cl (by omega) _).mono ?_; rintro e y1 ⟨v1, rfl, hr, hb⟩; replace hB := hB.trans (hb.mono (by omega)); replace ho := ho.below hb; have hz' : w.heap.size < y1.heap.size := (by have := hB.size; simp at this; omega); have cc := fun (o : Nat) => hB.cell (p := ⟨w.heap.size, o, none⟩) (by simp))
      | (at_builtin; refine wpl_append rfl (.tmp 9) (.tmp 12) rfl ho rfl (hr.bs (by unfold maxLen; omega)) rfl (by omega) (by (try simp only [List.length_append, List.length_cons, List.length_nil]); omega) (by omega) ?_; intro u1 x1 hn hg; replace hB := hB.trans (hg.below ho (by omega)); replace ho := hn; clear hn hr; have hz' : w.heap.size < x1.heap.size := (by have := hB.size; simp at this; omega); have cc := fun (o : Nat) => hB.cell (p := ⟨w.heap.size, o, none⟩) (by simp))
      | (go_at_call 35; clear g2; refine (specNum_any sq (by omega) _).mono ?_; rintro e y2 ⟨v2, rfl, hr, hb⟩; replace hB := hB.trans (hb.mono (by omega)); replace ho := ho.below hb; have hz' : w.heap.size < y2.heap.size := (by have := hB.size; simp at this; omega); have cc := fun (o : Nat) => hB.cell (p := ⟨w.heap.size, o, none⟩) (by simp))
      | (at_builtin; refine wpl_append rfl (.tmp 14) (.tmp 17) rfl ho rfl (hr.bs (by unfold maxLen; omega)) rfl (by omega) (by (try simp only [List.length_append, List.length_cons, List.length_nil]); omega) (by omega) ?_; intro u2 x2 hn hg; replace hB := hB.trans (hg.below ho (by omega)); replace ho := hn; clear hn hr; have hz' : w.heap.size < x2.heap.size := (by have := hB.size; simp at this; omega); have cc := fun (o : Nat) => hB.cell (p := ⟨w.heap.size, o, none⟩) (by simp))
      | (go_at_call 35; clear g3; refine (specNum_any st (by omega) _).mono ?_; rintro e y3 ⟨v3, rfl, hr, hb⟩; replace hB := hB.trans (hb.mono (by omega)); replace ho := ho.below hb; have hz' : w.heap.size < y3.heap.size := (by have := hB.size; simp at this; omega); have cc := fun (o : Nat) => hB.cell (p := ⟨w.heap.size, o, none⟩) (by simp))
      | (at_builtin; refine wpl_append rfl (.tmp 19) (.tmp 22) rfl ho rfl (hr.bs (by unfold maxLen; omega)) rfl (by omega) (by (try simp only [List.length_append, List.length_cons, List.length_nil]); omega) (by omega) ?_; intro u3 x3 hn hg; replace hB := hB.trans (hg.below ho (by omega)); replace ho := hn; clear hn hr; have hz' : w.heap.size < x3.heap.size := (by have := hB.size; simp at this; omega); have cc := fun (o : Nat) => hB.cell (p := ⟨w.heap.size, o, none⟩) (by simp))
      | (go_at_call 35; clear g4; refine (specNum_any cd (by omega) _).mono ?_; rintro e y4 ⟨v4, rfl, hr, hb⟩; replace hB := hB.trans (hb.mono (by omega)); replace ho := ho.below hb; have hz' : w.heap.size < y4.heap.size := (by have := hB.size; simp at this; omega); have cc := fun (o : Nat) => hB.cell (p := ⟨w.heap.size, o, none⟩) (by simp))
      | (at_builtin; refine wpl_append rfl (.tmp 24) (.tmp 27) rfl ho rfl (hr.bs (by unfold maxLen; omega)) rfl (by omega) (by (try simp only [List.length_append, List.length_cons, List.length_nil]); omega) (by omega) ?_; intro u4 x4 hn hg; replace hB := hB.trans (hg.below ho (by omega)); replace ho := hn; clear hn hr; have hz' : w.heap.size < x4.heap.size := (by have := hB.size; simp at this; omega); have cc := fun (o : Nat) => hB.cell (p := ⟨w.heap.size, o, none⟩) (by simp))
      | (go_at_call 36; clear g5; refine (specText_any v _ (by omega)).mono ?_; rintro e y5 ⟨v5, rfl, hr, hb⟩; replace hB := hB.trans (hb.mono (by omega)); replace ho := ho.below hb; have hz' : w.heap.size < y5.heap.size := (by have := hB.size; simp at this; omega); have cc := fun (o : Nat) => hB.cell (p := ⟨w.heap.size, o, none⟩) (by simp))
      | (at_builtin; refine wpl_append rfl (.tmp 29) (.tmp 32) rfl ho rfl (hr.bs (by unfold maxLen; omega)) rfl (by omega) (by (try simp only [List.length_append, List.length_cons, List.length_nil]); omega) (by omega) ?_; intro u5 x5 hn hg; replace hB := hB.trans (hg.below ho (by omega)); replace ho := hn; clear hn hr; have hz' : w.heap.size < x5.heap.size := (by have := hB.size; simp at this; omega); have cc := fun (o : Nat) => hB.cell (p := ⟨w.heap.size, o, none⟩) (by simp))
      | (go_at_call 35; clear g6; refine (specNum_any ld (by omega) _).mono ?_; rintro e y6 ⟨v6, rfl, hr, hb⟩; replace hB := hB.trans (hb.mono (by omega)); replace ho := ho.below hb; have hz' : w.heap.size < y6.heap.size := (by have := hB.size; simp at this; omega); have cc := fun (o : Nat) => hB.cell (p := ⟨w.heap.size, o, none⟩) (by simp))
      | (at_builtin; refine wpl_append rfl (.tmp 34) (.tmp 37) rfl ho rfl (hr.bs (by unfold maxLen; omega)) rfl (by omega) (by (try simp only [List.length_append, List.length_cons, List.length_nil]); omega) (by omega) ?_; intro u6 x6 hn hg; replace hB := hB.trans (hg.below ho (by omega)); replace ho := hn; clear hn hr; have hz' : w.heap.size < x6.heap.size := (by have := hB.size; simp at this; omega); have cc := fun (o : Nat) => hB.cell (p := ⟨w.heap.size, o, none⟩) (by simp))
      | (go_at_call 37; refine (specFrame_any _ _ _ (ho.bs (by unfold maxLen; simp only [List.length_append, List.length_cons, List.length_nil]; omega)) (by simp) (by simp only [List.length_append, List.length_cons, List.length_nil]; omega)).mono ?_; rintro e w4 ⟨v4, rfl, ho4, hb4⟩))
    go_ret
    refine ⟨_, rfl, ?_, ((Below.refl _ _).alloc (Nat.le_refl _) _).trans ((hB.mono (by omega)).trans (hb4.mono (by omega)))⟩
    have := ho4.le (B' := w.heap.size) (by omega)
    simpa [repL, numsL, List.append_assoc] using this
  · rw [encReply, if_neg hF]
    have n0 : (repF cl sq st cd v.size ld != 0) = true := by simpa using hF
    go_enter Tryz.func14, Tryz.ntmps14
    go_wp2_with (go_at_call 34; refine (specReplyFault_any _ _ _ _ _ v hv _).mono ?_; rintro e w1 ⟨rfl, hb⟩; have hB : Below w.heap.size w w1 := ((Below.refl _ _).alloc (Nat.le_refl _) _).trans (hb.mono (by simp)); have h7 := Own.lit0 w1; have hz := hB.size)
    go_ret
    exact ⟨_, rfl, h7.le hz, hB.trans ((Below.refl _ _).alloc hz _)⟩
end Go.Proofs.YtafmjckpbcijoaaGreatDoor

/-
  spec.l1copy.
-/
namespace Go.Proofs.YtafmjckpbcijoaaGreatDoor
open Go.RowKit
set_option linter.unusedVariables false

set_option maxHeartbeats 1000000 in
set_option maxRecDepth 100000 in
theorem l1copy_any (a : Option Addr) (cap : Nat) (l : List Int) (w : World) (hv : Bs w (.slice a l.length cap) l) (hl : l.length ≤ 1048576) :
    Calls Tryz.prog 84 #[.slice a l.length cap] w fun e w' => ∃ a' cap', e = .returned (.slice a' l.length cap') ∧ Own w' w.heap.size (.slice a' l.length cap') l ∧ Below w.heap.size w w' := by
  have h0 := Own.lit0 w
  obtain ⟨hm, h8, a', cap', e, hc⟩ := hv
  injection e with e1 e2 e3
  subst e1 e3
  clear e2
  have h0' : Hid (Own (w.alloc (.cells #[] 5)) w.heap.size (.slice (some ⟨w.heap.size, 0, none⟩) 0 0) (l.take 0)) := h0
  clear h0
  go_enter Tryz.func84, Tryz.ntmps84
  go_wp2
  go_loopw [3, 4] (fun o i wr => ∃ k : Nat, k ≤ l.length ∧ i = .int .i64 k ∧ Own wr w.heap.size o (l.take k) ∧ Below w.heap.size w wr) (fun _ i _ => l.length - (intOf i).toNat)
  case atStart => exact ⟨0, Nat.zero_le _, rfl, h0'.out, (Below.refl _ _).alloc (Nat.le_refl _) _⟩
  case round =>
    obtain ⟨k, hk, rfl, ho, hb⟩ := hrel
    by_cases hlt : k < l.length
    · obtain ⟨b, off, rfl, hcell⟩ := hc k hlt
      have hck : wr.cell? ⟨b, off + k, none⟩ = some (.int .u8 (l[k]?.getD 0)) := by rw [hb.cell (cell_lt (hcell k hlt))]; exact hcell k hlt
      have h8k := byte_at h8 k
      have hlk : (l.take k).length = k := by rw [List.length_take]; omega
      have e1 : l.take (k + 1) = l.take k ++ [l[k]?.getD 0] := by rw [List.take_succ_eq_append_getElem hlt, List.getElem?_eq_getElem hlt]; rfl
      have HT : Hid (l.take (k + 1) = l.take k ++ [l[k]?.getD 0]) := e1
      have hz := hb.size
      clear hcell h8 hc e1
      generalize l[k]?.getD 0 = z at hck h8k HT
      obtain ⟨z0, z1⟩ := h8k
      go_wp2_with (at_builtin; refine wpl_append rfl (.tmp 12) (.tmp 17) rfl (ho.below ((Below.refl _ _).alloc (Nat.le_refl _) _)) rfl (Bs.one _ z ⟨z0, z1⟩) rfl (by simp) (by simp; omega) (by simp; omega) ?_; intro v2 w2 ho2 hg2)
      go_roundw
      case rel => exact ⟨k + 1, by omega, by go_num, by rw [HT.out]; exact ho2, hb.trans (((Below.refl _ _).alloc (by omega) _).trans (hg2.below (ho.below ((Below.refl _ _).alloc (Nat.le_refl _) _)) (by simp; omega)))⟩
      case measure => simp [intOf]; omega
    · have e : l.take k = l := List.take_of_length_le (by omega)
      rw [e] at ho
      obtain ⟨a', cap', rfl⟩ := ho.shape
      go_wp2
      go_ret
      exact ⟨_, _, rfl, ho, hb⟩

end Go.Proofs.YtafmjckpbcijoaaGreatDoor

/-
  spec.l1drawFrame.
-/
namespace Go.Proofs.YtafmjckpbcijoaaGreatDoor
open Go.RowKit
set_option linter.unusedVariables false
set_option linter.unusedSimpArgs false

set_option maxHeartbeats 16000000 in
set_option maxRecDepth 100000 in
theorem l1drawFrame_any (g : Nat) (w : World) (v : Value) (l : List Int) (k : Nat) (kind : Int) (hL : l.length ≤ 1048576) (hk : k ≤ 1000) (h : Src w g v l k) :
    Calls Tryz.prog 67 #[.pointer (some ⟨g, 0, none⟩), .int .i64 kind] w fun r w' => ∃ a n c, r = .returned (.slice a n c) ∧ n = (frL l kind k).length ∧ n ≤ c ∧ Bs w' (.slice a n c) (frL l kind k) ∧ w.grownBy w' (some g) := by
  have hg0 := h.lt
  have hby := fun j => h.byte j
  have HBY : Hid (∀ j, 0 ≤ nextV l j ∧ nextV l j ≤ 255) := hby
  have HD0 : Hid (Dr w w g v l k []) := Dr.start h
  have hok := msgD_ok l k
  have HDm : Hid (∀ u : World, Src u g v l k → Calls Tryz.prog 22 #[.pointer (some ⟨g, 0, none⟩)] u fun r w' => ∃ ea ec, r = .returned (.agg #[.int .i64 (msgD l k).ki, .int .i64 (msgD l k).fr, .int .i64 (msgD l k).td, .int .i64 (msgD l k).tm, .int .i64 (msgD l k).li, .int .i64 (msgD l k).lt, .int .i64 (msgD l k).cm, .int .i64 (msgD l k).ok, .int .i64 (msgD l k).hi, .slice ea (msgD l k).es.length ec]) ∧ OwnE w' u.heap.size (.slice ea (msgD l k).es.length ec) (msgD l k).es ∧ Src w' g v l (msgD l k).k ∧ u.grownBy w' (some g)) := fun u hu => l1drawMsg_any g u v l k hL (by omega) hu
  obtain ⟨R, hR⟩ : ∃ R, R = frL l kind k := ⟨_, rfl⟩
  rw [← hR]
  have hR1 : R = frT l (frX l kind k).1 ((frX l kind k).2 + 1) (pickV l (frX l kind k).2 16) := hR
  unfold frX at hR1
  clear hR
  generalize msgD l k = M at *
  obtain ⟨ne, hne⟩ : ∃ ne, ne = M.es.length := ⟨_, rfl⟩
  rw [← hne] at HDm hok
  have Hne : Hid (ne = M.es.length) := hne
  clear hne
  have hK0 : M.k ≤ 2000 := by omega
  have hE32 : ne ≤ 32 := hok.2.2.2.2.1
  clear hok hby
  have HEm : Hid (∀ (u : World) (ea : Option Addr) (ec B0 : Nat), OwnE u B0 (.slice ea ne ec) M.es → Calls Tryz.prog 21 #[.agg #[.int .i64 M.ki, .int .i64 M.fr, .int .i64 M.td, .int .i64 M.tm, .int .i64 M.li, .int .i64 M.lt, .int .i64 M.cm, .int .i64 M.ok, .int .i64 M.hi, .slice ea ne ec]] u fun r w' => ∃ v', r = .returned v' ∧ Own w' u.heap.size v' (encMsg M.ki M.fr M.td M.tm M.li M.lt M.cm M.ok M.hi M.es) ∧ Below u.heap.size u w') := fun u ea ec B0 ho => specEncodeMsg_any _ _ _ _ _ _ _ _ _ _ M.es u (ho.es (by rw [← Hne.out]; unfold maxLen; omega)) (by rw [← Hne.out]; omega)
  have hl0 := encMsg_len M.ki M.fr M.td M.tm M.li M.lt M.cm M.ok M.hi M.es
  generalize encMsg M.ki M.fr M.td M.tm M.li M.lt M.cm M.ok M.hi M.es = BM at *
  generalize M.k = K0 at *
  obtain ⟨B1, K1, hX1⟩ : ∃ B1 K1, fr1 l kind (BM, K0) = (B1, K1) := ⟨_, _, rfl⟩
  have hk1 := fr1_ok l kind (BM, K0) hl0
  rw [hX1] at hk1 hR1
  obtain ⟨B2, K2, hX2⟩ : ∃ B2 K2, fr2 l kind (B1, K1) = (B2, K2) := ⟨_, _, rfl⟩
  have hk2 := fr2_ok l kind (B1, K1) hk1.1
  rw [hX2] at hk2 hR1
  dsimp only at hk1 hk2 hR1
  have HX1 : Hid (fr1 l kind (BM, K0) = (B1, K1)) := hX1
  have HX2 : Hid (fr2 l kind (B1, K1) = (B2, K2)) := hX2
  clear hX1 hX2
  obtain ⟨n0, hn0⟩ : ∃ n, n = BM.length := ⟨_, rfl⟩
  obtain ⟨n1, hn1⟩ : ∃ n, n = B1.length := ⟨_, rfl⟩
  obtain ⟨n2, hn2⟩ : ∃ n, n = B2.length := ⟨_, rfl⟩
  rw [← hn0] at hl0
  rw [← hn1] at hk1
  rw [← hn2] at hk2
  have Hn0 : Hid (n0 = BM.length) := hn0
  have Hn1 : Hid (n1 = B1.length) := hn1
  have Hn2 : Hid (n2 = B2.length) := hn2
  have b16 := pickV_lt l K2 16 (by decide)
  obtain ⟨q, hq⟩ : ∃ q, q = pickV l K2 16 := ⟨_, rfl⟩
  rw [← hq] at hR1 b16
  have Hq : Hid (q = pickV l K2 16) := hq
  have HR : Hid (R = frT l B2 (K2 + 1) q) := hR1
  clear hq hR1 hn0 hn1 hn2
  obtain ⟨hk1a, hk1b⟩ := hk1
  obtain ⟨hk2a, hk2b⟩ := hk2
  go_enter Tryz.func67, Tryz.ntmps67
  go_upto_if 16 with (first
    | (go_at_call 22; refine (HDm.out _ HD0.out.src).mono ?_; rintro r w1 ⟨ea, ec, rfl, ho1, hs1, hg1⟩; have HD1 : Hid (Dr w w1 g v l K0 []) := HD0.out.call hs1 hg1; have HO1 : Hid (OwnE w1 w.heap.size (.slice ea ne ec) M.es) := ho1; clear ho1 hs1 hg1)
    | (go_at_call 21; refine (HEm.out _ ea ec _ HO1.out).mono ?_; rintro r w2 ⟨v2, rfl, ho2, hb2⟩; have HD2 : Hid (Dr w w2 g v l K0 []) := HD1.out.below hb2; have hol2 : Own w2 w.heap.size v2 BM := ho2.le HD1.out.size; obtain ⟨a2, c2, rfl⟩ := hol2.shape; rw [← Hn0.out] at hol2; rw [← Hn0.out]; have HO2 : Hid (Own w2 w.heap.size (.slice a2 n0 c2) BM) := hol2; clear hol2 ho2 hb2))
  go_cut [5, 16] (fun s _ wx => ∃ ba bc, s = .slice ba n1 bc ∧ Own wx w.heap.size (.slice ba n1 bc) B1 ∧ Dr w wx g v l K1 [])
  case first =>
    by_cases c7 : kind = 7
    · subst c7
      have hx := HX1.out
      unfold fr1 at hx
      rw [if_pos rfl] at hx
      dsimp only at hx
      injection hx with hxa hxb
      have HBB : Hid (encCallL (cmdCl l K0) (cmdSq l K0) (cmdOp l K0) (cmdKy l K0) (cmdVl l K0) (cmdOl l K0) = B1) := hxa
      have HKK : Hid (cmdK l K0 = K1) := hxb
      have hf := cmd_facts l K0
      clear hxa hxb HX1
      have HCe : Hid (∀ u : World, Calls Tryz.prog 83 #[.agg #[.int .i64 (cmdCl l K0), .int .i64 (cmdSq l K0), .int .i64 (cmdOp l K0), .string (cmdKy l K0), .string (cmdVl l K0), .string (cmdOl l K0)]] u fun e w' => ∃ v', e = .returned v' ∧ Own w' u.heap.size v' B1 ∧ Below u.heap.size u w') := fun u => by
        rw [← HBB.out]
        exact specEncodeCall_any _ _ _ _ _ _ u (by unfold maxLen; omega) (by unfold maxLen; omega) (by unfold maxLen; omega)
      clear hf
      go_wp2_with (first
        | (go_at_call 30; refine (l1drawCmd_any g _ v l K0 hL (by omega) HD2.out.src).mono ?_; rintro r w3 ⟨rfl, hs3, hg3⟩; rw [HKK.out] at hs3; have HD3 : Hid (Dr w w3 g v l K1 []) := HD2.out.call hs3 hg3; clear hs3 hg3)
        | (go_at_call 83; refine (HCe.out _).mono ?_; rintro r w4 ⟨v4, rfl, ho4, hb4⟩; have HD4 : Hid (Dr w w4 g v l K1 []) := HD3.out.below hb4; have hol4 : Own w4 w.heap.size v4 B1 := ho4.le HD3.out.size; obtain ⟨a4, c4, rfl⟩ := hol4.shape; rw [← Hn1.out] at hol4; rw [← Hn1.out]; have HO4 : Hid (Own w4 w.heap.size (.slice a4 n1 c4) B1) := hol4; clear hol4 ho4 hb4))
      go_meet
      exact ⟨a4, c4, rfl, HO4.out, HD4.out⟩
    · have hx := HX1.out
      unfold fr1 at hx
      rw [if_neg c7] at hx
      injection hx with hxa hxb
      subst hxa hxb
      have hnn : n0 = n1 := Hn0.out.trans Hn1.out.symm
      subst hnn
      have c7' : (kind == 7) = false := by rw [beq_eq_false_iff_ne]; exact c7
      go_wp2_with fail
      go_meet
      exact ⟨a2, c2, rfl, HO2.out, HD2.out⟩
  case rest =>
    obtain ⟨ba, bc, rfl, ho5, hd5⟩ := hcut
    have HO5 : Hid (Own wc w.heap.size (.slice ba n1 bc) B1) := ho5
    have HD5 : Hid (Dr w wc g v l K1 []) := hd5
    clear ho5 hd5 HX1 HD2 HO2 HO1 HD1
    obtain ⟨W5, hW5⟩ : ∃ W5, W5 = wc := ⟨_, rfl⟩
    subst hW5
    go_upto_if 21 with fail
    go_cut [5, 21] (fun s _ wx => ∃ ba bc, s = .slice ba n2 bc ∧ Own wx w.heap.size (.slice ba n2 bc) B2 ∧ Dr w wx g v l K2 [])
    case first =>
      by_cases c8 : kind = 8
      · subst c8
        have hx := HX2.out
        unfold fr2 at hx
        rw [if_pos rfl] at hx
        dsimp only at hx
        injection hx with hxa hxb
        have HBB : Hid (encReply (repCl l K1) (repSq l K1) (repSt l K1) (repCd l K1) (repLd l K1) (repVl l K1) = B2) := hxa
        have HKK : Hid (repK l K1 = K2) := hxb
        have hf := rep_facts l K1
        clear hxa hxb HX2
        have HCe : Hid (∀ u : World, Calls Tryz.prog 14 #[.agg #[.int .i64 (repCl l K1), .int .i64 (repSq l K1), .int .i64 (repSt l K1), .int .i64 (repCd l K1), .string (repVl l K1), .int .i64 (repLd l K1)]] u fun e w' => ∃ v', e = .returned v' ∧ Own w' u.heap.size v' B2 ∧ Below u.heap.size u w') := fun u => by
          rw [← HBB.out]
          exact specEncodeReply_any _ _ _ _ _ _ u (by unfold maxLen; omega)
        clear hf
        go_wp2_with (first
          | (go_at_call 32; refine (l1drawReply_any g _ v l K1 hL (by omega) HD5.out.src).mono ?_; rintro r w3 ⟨rfl, hs3, hg3⟩; rw [HKK.out] at hs3; have HD3 : Hid (Dr w w3 g v l K2 []) := HD5.out.call hs3 hg3; clear hs3 hg3)
          | (go_at_call 14; refine (HCe.out _).mono ?_; rintro r w4 ⟨v4, rfl, ho4, hb4⟩; have HD4 : Hid (Dr w w4 g v l K2 []) := HD3.out.below hb4; have hol4 : Own w4 w.heap.size v4 B2 := ho4.le HD3.out.size; obtain ⟨a4, c4, rfl⟩ := hol4.shape; rw [← Hn2.out] at hol4; rw [← Hn2.out]; have HO4 : Hid (Own w4 w.heap.size (.slice a4 n2 c4) B2) := hol4; clear hol4 ho4 hb4))
        go_meet
        exact ⟨a4, c4, rfl, HO4.out, HD4.out⟩
      · have hx := HX2.out
        unfold fr2 at hx
        rw [if_neg c8] at hx
        injection hx with hxa hxb
        subst hxa hxb
        have hnn : n1 = n2 := Hn1.out.trans Hn2.out.symm
        subst hnn
        have c8' : (kind == 8) = false := by rw [beq_eq_false_iff_ne]; exact c8
        go_wp2_with fail
        go_meet
        exact ⟨ba, bc, rfl, HO5.out, HD5.out⟩
    case rest =>
      obtain ⟨ca, cc, rfl, ho6, hd6⟩ := hcut
      have HO6 : Hid (Own wc w.heap.size (.slice ca n2 cc) B2) := ho6
      have HD6 : Hid (Dr w wc g v l K2 []) := hd6
      clear ho6 hd6 HX2 HD5 HO5 Hn0 Hn1 HEm HDm Hne
      obtain ⟨W6, hW6⟩ : ∃ W6, W6 = wc := ⟨_, rfl⟩
      subst hW6
      go_upto_region 7 with (go_at_call 23; refine (HD6.out.pickO HO6.out 16 hL (by omega) (by decide) (by decide)).mono ?_; rintro r w7 ⟨rfl, hd7, ho7⟩; rw [← Hq.out]; have HD7 : Hid (Dr w w7 g v l (K2 + 1) []) := hd7; have HO7 : Hid (Own w7 w.heap.size (.slice ca n2 cc) B2) := ho7; clear hd7 ho7 HD6 HO6)
      clear Hq
      by_cases cs : q < 6 ∨ n2 < 10
      · have hRB : R = B2 := by
          rw [HR.out]
          unfold frT
          rw [if_pos (by rw [← Hn2.out]; exact cs)]
        have HRB : Hid (R = B2) := hRB
        clear hRB HR
        by_cases c6 : q < 6
        · have d6 : (q : Int) < 6 := by omega
          go_wp2_with fail
          go_ret
          exact ⟨_, _, _, rfl, by rw [HRB.out]; exact Hn2.out, HO7.out.capL Hn2.out, by rw [HRB.out]; exact HO7.out.bs (by rw [← Hn2.out]; unfold maxLen; omega), HD7.out.grown⟩
        · have d6 : ¬ (q : Int) < 6 := by omega
          have d7 : (n2 : Int) < 10 := by omega
          go_wp2_with fail
          go_ret
          exact ⟨_, _, _, rfl, by rw [HRB.out]; exact Hn2.out, HO7.out.capL Hn2.out, by rw [HRB.out]; exact HO7.out.bs (by rw [← Hn2.out]; unfold maxLen; omega), HD7.out.grown⟩
      · have d6 : ¬ (q : Int) < 6 := by omega
        have d7 : ¬ (n2 : Int) < 10 := by omega
        have hn10 : 10 ≤ n2 := by omega
        have hq6 : 6 ≤ q := by omega
        have hRB : R = if q = 6 then B2.set (pickV l (K2 + 1) n2) (xorB (B2[pickV l (K2 + 1) n2]?.getD 0) (1 + (pickV l (K2 + 1 + pickK n2) 255 : Nat))) else if q = 7 then B2.take (pickV l (K2 + 1) n2) else if q = 8 then B2 ++ [nextV l (K2 + 1)] else frameL (bodyF l q (B2.drop 8) (pickV l (K2 + 1) (n2 - 8)) (K2 + 1 + pickK (n2 - 8))) := by
          rw [HR.out, Hn2.out]
          unfold frT
          rw [if_neg (by rw [← Hn2.out]; exact cs)]
        have HRB : Hid (R = if q = 6 then B2.set (pickV l (K2 + 1) n2) (xorB (B2[pickV l (K2 + 1) n2]?.getD 0) (1 + (pickV l (K2 + 1 + pickK n2) 255 : Nat))) else if q = 7 then B2.take (pickV l (K2 + 1) n2) else if q = 8 then B2 ++ [nextV l (K2 + 1)] else frameL (bodyF l q (B2.drop 8) (pickV l (K2 + 1) (n2 - 8)) (K2 + 1 + pickK (n2 - 8)))) := hRB
        clear hRB HR cs
        obtain ⟨g2, cg, eg⟩ := HO7.out.shape' (by rw [← Hn2.out]; omega)
        injection eg with eg1 eg2 eg3
        subst eg1
        clear eg2 eg3 cg
        have hcap : n2 ≤ cc := HO7.out.capL Hn2.out
        have hg2 : w.heap.size ≤ g2 := (HO7.out.2.lt g2 rfl).1
        have pk2 := pickK_le n2
        rcases (show q = 6 ∨ q = 7 ∨ q = 8 ∨ 9 ≤ q by omega) with rfl | rfl | rfl | hq9
        · have hRB : R = B2.set (pickV l (K2 + 1) n2) (xorB (B2[pickV l (K2 + 1) n2]?.getD 0) (1 + (pickV l (K2 + 1 + pickK n2) 255 : Nat))) := HRB.out
          have bp := pickV_lt l (K2 + 1) n2 (by omega)
          have br := pickV_lt l (K2 + 1 + pickK n2) 255 (by decide)
          obtain ⟨p, hp⟩ : ∃ p, p = pickV l (K2 + 1) n2 := ⟨_, rfl⟩
          obtain ⟨r, hr⟩ : ∃ r, r = pickV l (K2 + 1 + pickK n2) 255 := ⟨_, rfl⟩
          rw [← hp, ← hr] at hRB
          rw [← hp] at bp
          rw [← hr] at br
          have hc8 := byte_at HO7.out.1 p
          obtain ⟨z, hz⟩ : ∃ z, z = B2[p]?.getD 0 := ⟨_, rfl⟩
          rw [← hz] at hRB hc8
          have Hz : Hid (z = B2[p]?.getD 0) := hz
          have Hp : Hid (p = pickV l (K2 + 1) n2) := hp
          have Hr : Hid (r = pickV l (K2 + 1 + pickK n2) 255) := hr
          have HRR : Hid (R = B2.set p (xorB z (1 + (r : Int)))) := hRB
          have hxb := xorB_byte z (1 + (r : Int)) hc8.1 hc8.2 (by omega) (by omega)
          have HXB : Hid (0 ≤ xorB z (1 + (r : Int)) ∧ xorB z (1 + (r : Int)) ≤ 255) := hxb
          clear hRB HRB hp hr hz hxb
          go_upto_region 11 with (go_at_call 23; refine (HD7.out.pickO HO7.out n2 hL (by omega) (by omega) (by omega)).mono ?_; rintro r' w8 ⟨rfl, hd, ho⟩; rw [← Hp.out]; have HD8 : Hid (Dr w w8 g v l (K2 + 1 + pickK n2) []) := hd; have HO8 : Hid (Own w8 w.heap.size (.slice (some ⟨g2, 0, none⟩) n2 cc) B2) := ho; clear hd ho)
          have hp' : (p : Int) < (n2 : Int) := by omega
          have hw1 : IntKind.i64.wrap (1 + (r : Int)) = 1 + (r : Int) := by rw [IntKind.wrap_i64]; omega
          have hw2 : IntKind.u8.wrap (1 + (r : Int)) = 1 + (r : Int) := by simp [IntKind.wrap, IntKind.signed, IntKind.bits]; omega
          have hfz8 := HO8.out.frozenN Hn2.out p
          have hcl8 : w8.cell? ⟨g2, p, none⟩ = some (.int .u8 z) := by rw [Hz.out]; exact HO8.out.cellN Hn2.out p (by rw [← Hn2.out]; omega)
          go_region_with (go_at_call 23; refine (HD8.out.drew.pickO (HO8.out.below ((Below.refl _ _).drew)) 255 hL (by omega) (by decide) (by decide)).mono ?_; rintro r' w9 ⟨rfl, hd, ho⟩; rw [← Hr.out]; have HD9 : Hid (Dr w w9 g v l (K2 + 1 + pickK n2 + pickK 255) []) := hd; have HO9 : Hid (Own w9 w.heap.size (.slice (some ⟨g2, 0, none⟩) n2 cc) B2) := ho; have hfz9 := ho.frozenN Hn2.out p; have hcl9 : w9.cell? ⟨g2, p, none⟩ = some (.int .u8 z) := (by rw [Hz.out]; exact ho.cellN Hn2.out p (by rw [← Hn2.out]; omega)); clear hd ho)
          all_goals go_wp2
          all_goals go_ret
          all_goals exact ⟨_, _, _, rfl, by rw [HRR.out, List.length_set]; exact Hn2.out, hcap, by rw [HRR.out]; exact (HO9.out.storeN Hn2.out p _ HXB.out).bs (by rw [List.length_set, ← Hn2.out]; unfold maxLen; omega), (HD9.out.storeO hg2 _).grown⟩
        · have hRB : R = B2.take (pickV l (K2 + 1) n2) := HRB.out
          have bp := pickV_lt l (K2 + 1) n2 (by omega)
          obtain ⟨p, hp⟩ : ∃ p, p = pickV l (K2 + 1) n2 := ⟨_, rfl⟩
          rw [← hp] at hRB bp
          have Hp : Hid (p = pickV l (K2 + 1) n2) := hp
          have HRR : Hid (R = B2.take p) := hRB
          clear hRB HRB hp
          have hsl := sl_hi g2 n2 cc p (by omega)
          go_wp2_with (go_at_call 23; refine (HD7.out.pickO HO7.out n2 hL (by omega) (by omega) (by omega)).mono ?_; rintro r' w8 ⟨rfl, hd, ho⟩; rw [← Hp.out]; have HD8 : Hid (Dr w w8 g v l (K2 + 1 + pickK n2) []) := hd; have HO8 : Hid (Own w8 w.heap.size (.slice (some ⟨g2, 0, none⟩) n2 cc) B2) := ho; clear hd ho)
          go_ret
          exact ⟨_, _, _, rfl, by rw [HRR.out, List.length_take, ← Hn2.out]; omega, by omega, by rw [HRR.out]; exact HO8.out.bsTake (by rw [← Hn2.out]; unfold maxLen; omega) p (by rw [← Hn2.out]; omega), HD8.out.grown⟩
        · have hRB : R = B2 ++ [nextV l (K2 + 1)] := HRB.out
          have hx8 := HBY.out (K2 + 1)
          obtain ⟨x, hx⟩ : ∃ x, x = nextV l (K2 + 1) := ⟨_, rfl⟩
          rw [← hx] at hRB hx8
          have Hx : Hid (x = nextV l (K2 + 1)) := hx
          have HRR : Hid (R = B2 ++ [x]) := hRB
          have HX8 : Hid (0 ≤ x ∧ x ≤ 255) := hx8
          clear hRB HRB hx
          have hw : IntKind.u8.wrap x = x := by simp [IntKind.wrap, IntKind.signed, IntKind.bits]; omega
          go_wp2_with (first
            | (go_at_call 50; refine (HD7.out.nextO HO7.out hL (by omega)).mono ?_; rintro r' w8 ⟨rfl, hd, ho⟩; rw [← Hx.out]; have HD8 : Hid (Dr w w8 g v l (K2 + 1 + 1) []) := hd; have HO8 : Hid (Own w8 w.heap.size (.slice (some ⟨g2, 0, none⟩) n2 cc) B2) := ho; clear hd ho)
            | (at_builtin; refine wpl_append rfl (.tmp 64) (.tmp 68) rfl (HO8.out.below ((Below.refl _ _).alloc (Nat.le_refl _) _)) rfl (Bs.one _ x HX8.out) rfl (by simp) (by rw [← Hn2.out]; simp; omega) (by have := HD8.out.size; simp; omega) ?_; intro v9 w9 ho9 hg9; have HD9 : Hid (Dr w w9 g v l (K2 + 1 + 1) []) := (HD8.out.other _).grewO (HO8.out.below ((Below.refl _ _).alloc (Nat.le_refl _) _)) hg9; obtain ⟨a9, c9, rfl⟩ := ho9.shape; obtain ⟨n9, hn9⟩ : ∃ n, n = (B2 ++ [x]).length := ⟨_, rfl⟩; rw [← hn9] at ho9; rw [← hn9]; have Hn9 : Hid (n9 = (B2 ++ [x]).length) := hn9; have HO9 : Hid (Own w9 w.heap.size (.slice a9 n9 c9) (B2 ++ [x])) := ho9; clear ho9 hg9 hn9))
          go_ret
          exact ⟨_, _, _, rfl, by rw [HRR.out]; exact Hn9.out, HO9.out.capL Hn9.out, by rw [HRR.out]; exact HO9.out.bs (by rw [List.length_append, ← Hn2.out]; unfold maxLen; simp; omega), HD9.out.grown⟩
        · have hRB : R = frameL (bodyF l q (B2.drop 8) (pickV l (K2 + 1) (n2 - 8)) (K2 + 1 + pickK (n2 - 8))) := by
            rw [HRB.out, if_neg (by omega), if_neg (by omega), if_neg (by omega)]
          obtain ⟨off, hsl, hoff⟩ := sl_lo g2 n2 cc 8 (by omega)
          have hbd := fun (u : World) (h : Own u w.heap.size (.slice (some ⟨g2, 0, none⟩) n2 cc) B2) => h.bsDrop Hn2.out (by rw [← Hn2.out]; unfold maxLen; omega) 8 (by rw [← Hn2.out]; omega) hoff
          have hdl : (B2.drop 8).length = n2 - 8 := by rw [List.length_drop, ← Hn2.out]
          obtain ⟨BD, hBD⟩ : ∃ z, z = B2.drop 8 := ⟨_, rfl⟩
          rw [← hBD] at hRB hbd hdl
          obtain ⟨nb, hnb⟩ : ∃ z, z = n2 - 8 := ⟨_, rfl⟩
          rw [← hnb] at hRB hbd hdl hsl
          have hnb2 : 2 ≤ nb := by omega
          have hnbM : nb ≤ 12000 := by omega
          have Hnb : Hid (nb = BD.length) := hdl.symm
          obtain ⟨cb, hcb⟩ : ∃ z, z = cc - 8 := ⟨_, rfl⟩
          rw [← hcb] at hbd hsl
          replace hsl : ∀ wx, (Instr.slice 22 (.slice (some ⟨g2, 0, none⟩) n2 cc) (some (.int .i64 8)) none none).run Tryz.prog wx = .ok (.slice (some ⟨g2, off, none⟩) nb cb) wx := hsl
          have HCp : Hid (∀ u : World, Own u w.heap.size (.slice (some ⟨g2, 0, none⟩) n2 cc) B2 → Calls Tryz.prog 84 #[.slice (some ⟨g2, off, none⟩) nb cb] u fun e w' => ∃ a' c', e = .returned (.slice a' nb c') ∧ Own w' u.heap.size (.slice a' nb c') BD ∧ Below u.heap.size u w') := fun u hu => by
            have hx := hbd u hu
            rw [Hnb.out] at hx ⊢
            exact l1copy_any _ _ BD u hx (by rw [← Hnb.out]; omega)
          have bi := pickV_lt l (K2 + 1) nb (by omega)
          obtain ⟨i, hi⟩ : ∃ z, z = pickV l (K2 + 1) nb := ⟨_, rfl⟩
          obtain ⟨K4, hK4⟩ : ∃ z, z = K2 + 1 + pickK nb := ⟨_, rfl⟩
          have pk4 := pickK_le nb
          have hK4b : K4 ≤ 4000 := by omega
          rw [← hi] at bi hRB
          rw [← hK4] at hRB
          have Hi : Hid (i = pickV l (K2 + 1) nb) := hi
          have HK4 : Hid (K4 = K2 + 1 + pickK nb) := hK4
          have hbl := bodyF_len l q BD i K4 (by rw [← Hnb.out]; omega)
          rw [← Hnb.out] at hbl
          obtain ⟨BX, hBX⟩ : ∃ z, z = bodyF l q BD i K4 := ⟨_, rfl⟩
          rw [← hBX] at hRB hbl
          have HBX : Hid (BX = bodyF l q BD i K4) := hBX
          have HRR : Hid (R = frameL BX) := hRB
          obtain ⟨nx, hnx⟩ : ∃ z, z = BX.length := ⟨_, rfl⟩
          rw [← hnx] at hbl
          have Hnx : Hid (nx = BX.length) := hnx
          clear hRB HRB hBD hdl hi hK4 hBX hnx hbd hoff hnb hcb
          have G0 : True := trivial
          have n9 : ¬ q = 6 ∧ ¬ q = 7 ∧ ¬ q = 8 := by omega
          have e6 : ((q : Int) == 6) = false := by rw [beq_eq_false_iff_ne]; omega
          have e7 : ((q : Int) == 7) = false := by rw [beq_eq_false_iff_ne]; omega
          have e8 : ((q : Int) == 8) = false := by rw [beq_eq_false_iff_ne]; omega
          clear n9
          go_upto_if 78 with (first
            | (go_at_call 84; refine (HCp.out _ HO7.out).mono ?_; rintro r' w8 ⟨a8, c8, rfl, ho8, hb8⟩; have HD8 : Hid (Dr w w8 g v l (K2 + 1) []) := HD7.out.below hb8; have ho8' : Own w8 w.heap.size (.slice a8 nb c8) BD := ho8.le HD7.out.size; obtain ⟨g3, cg, eg⟩ := ho8'.shape' (by rw [← Hnb.out]; omega); injection eg with eg1 eg2 eg3; subst eg1; clear eg2 eg3 cg; have HO8 : Hid (Own w8 w.heap.size (.slice (some ⟨g3, 0, none⟩) nb c8) BD) := ho8'; clear ho8 ho8' hb8)
            | (go_at_call 23; refine (HD8.out.pickO HO8.out nb hL (by omega) (by omega) (by omega)).mono ?_; rintro r' w9 ⟨rfl, hd, ho⟩; rw [← Hi.out]; (rw [← HK4.out] at hd); have HD9 : Hid (Dr w w9 g v l K4 []) := hd; have HO9 : Hid (Own w9 w.heap.size (.slice (some ⟨g3, 0, none⟩) nb c8) BD) := ho; clear hd ho))
          have hcap3 : nb ≤ c8 := HO9.out.capL Hnb.out
          have hg3 : w.heap.size ≤ g3 := (HO9.out.2.lt g3 rfl).1
          clear HO7 HD7 HO8 HD8 HCp hsl
          go_cut [8, 78] (fun s _ wx => ∃ xa xc, s = .slice xa nx xc ∧ Bs wx (.slice xa nx xc) BX ∧ w.grownBy wx (some g))
          case first =>
            rcases (show q = 9 ∨ q = 10 ∨ q = 11 ∨ q = 12 ∨ q = 13 ∨ q = 14 ∨ q = 15 by omega) with rfl | rfl | rfl | rfl | rfl | rfl | rfl
            · have hB : BX = BD.take (1 + pickV l K4 nb) := by rw [HBX.out, Hnb.out]; rfl
              have bp := pickV_lt l K4 nb (by omega)
              obtain ⟨p, hp⟩ : ∃ p, p = pickV l K4 nb := ⟨_, rfl⟩
              rw [← hp] at bp hB
              have Hp : Hid (p = pickV l K4 nb) := hp
              clear hp
              have HBB : Hid (BX = BD.take (1 + p)) := hB
              clear hB HBX
              have hnn : nx = 1 + p := by rw [Hnx.out, HBB.out, List.length_take, ← Hnb.out]; omega
              subst hnn
              have hw : IntKind.i64.wrap (1 + (p : Int)) = 1 + (p : Int) := by rw [IntKind.wrap_i64]; omega
              have hsl : ∀ wx, (Instr.slice 22 (.slice (some ⟨g3, 0, none⟩) nb c8) none (some (.int .i64 (1 + (p : Int)))) none).run Tryz.prog wx = .ok (.slice (some ⟨g3, 0, none⟩) (1 + p) c8) wx := fun wx => by
                have := sl_hi g3 nb c8 (1 + p) (by omega) wx
                rwa [show ((1 + p : Nat) : Int) = 1 + (p : Int) by omega] at this
              go_wp2_with (go_at_call 23; refine (HD9.out.pickO HO9.out nb hL (by omega) (by omega) (by omega)).mono ?_; rintro r' w10 ⟨rfl, hd, ho⟩; rw [← Hp.out]; have HD10 : Hid (Dr w w10 g v l (K4 + pickK nb) []) := hd; have HO10 : Hid (Own w10 w.heap.size (.slice (some ⟨g3, 0, none⟩) nb c8) BD) := ho; clear hd ho)
              go_meet
              exact ⟨_, _, rfl, by rw [HBB.out]; exact HO10.out.bsTake (by rw [← Hnb.out]; unfold maxLen; omega) (1 + p) (by rw [← Hnb.out]; omega), HD10.out.grown⟩
            · have hB : BX = BD ++ [nextV l K4] := by rw [HBX.out]; rfl
              have hx8 := HBY.out K4
              obtain ⟨x, hx⟩ : ∃ x, x = nextV l K4 := ⟨_, rfl⟩
              rw [← hx] at hB hx8
              have Hx : Hid (x = nextV l K4) := hx
              have HX8 : Hid (0 ≤ x ∧ x ≤ 255) := hx8
              have hw : IntKind.u8.wrap x = x := by simp [IntKind.wrap, IntKind.signed, IntKind.bits]; omega
              clear hx
              have HBB : Hid (BX = BD ++ [x]) := hB
              clear hB HBX
              go_wp2_with (first
                | (go_at_call 50; refine (HD9.out.nextO HO9.out hL (by omega)).mono ?_; rintro r' w10 ⟨rfl, hd, ho⟩; rw [← Hx.out]; have HD10 : Hid (Dr w w10 g v l (K4 + 1) []) := hd; have HO10 : Hid (Own w10 w.heap.size (.slice (some ⟨g3, 0, none⟩) nb c8) BD) := ho; clear hd ho)
                | (at_builtin; refine wpl_append rfl (.tmp 88) (.tmp 92) rfl (HO10.out.below ((Below.refl _ _).alloc (Nat.le_refl _) _)) rfl (Bs.one _ x HX8.out) rfl (by simp) (by rw [← Hnb.out]; simp; omega) (by have := HD10.out.size; simp; omega) ?_; intro v11 w11 ho11 hg11; have HD11 : Hid (Dr w w11 g v l (K4 + 1) []) := (HD10.out.other _).grewO (HO10.out.below ((Below.refl _ _).alloc (Nat.le_refl _) _)) hg11; obtain ⟨a11, c11, rfl⟩ := ho11.shape; rw [← HBB.out, ← Hnx.out] at ho11; rw [← HBB.out, ← Hnx.out]; have HO11 : Hid (Own w11 w.heap.size (.slice a11 nx c11) BX) := ho11; clear ho11 hg11))
              go_meet
              exact ⟨_, _, rfl, HO11.out.bs (by rw [← Hnx.out]; unfold maxLen; omega), HD11.out.grown⟩
            · have hB : BX = BD.set i (pickV l K4 4 : Nat) := by rw [HBX.out]; rfl
              have bp := pickV_lt l K4 4 (by omega)
              obtain ⟨p, hp⟩ : ∃ p, p = pickV l K4 4 := ⟨_, rfl⟩
              rw [← hp] at bp hB
              have Hp : Hid (p = pickV l K4 4) := hp
              clear hp
              have hw : IntKind.u8.wrap (p : Int) = (p : Int) := by simp [IntKind.wrap, IntKind.signed, IntKind.bits]; omega
              have HBB : Hid (BX = BD.set i ((p : Int))) := hB
              clear hB HBX
              have hnn : nb = nx := by rw [Hnx.out, HBB.out, List.length_set, ← Hnb.out]
              subst hnn
              have hj : (i : Int) < (nb : Int) := by omega
              go_wp2_with (go_at_call 23; refine (HD9.out.pickO HO9.out 4 hL (by omega) (by omega) (by omega)).mono ?_; rintro r' w10 ⟨rfl, hd, ho⟩; rw [← Hp.out]; have HD10 : Hid (Dr w w10 g v l (K4 + pickK 4) []) := hd; have HO10 : Hid (Own w10 w.heap.size (.slice (some ⟨g3, 0, none⟩) nb c8) BD) := ho; clear hd ho; have hfz := HO10.out.frozenN Hnb.out i; have hcl := HO10.out.cellN Hnb.out (i) (by rw [← Hnb.out]; omega))
              go_meet
              exact ⟨_, _, rfl, by rw [HBB.out]; exact (HO10.out.storeN Hnb.out (i) _ ⟨by omega, by omega⟩).bs (by rw [List.length_set, ← Hnb.out]; unfold maxLen; omega), (HD10.out.storeO hg3 _).grown⟩
            · have hB : BX = BD.set i 128 := by rw [HBX.out]; rfl
              have HBB : Hid (BX = BD.set i 128) := hB
              clear hB HBX
              have hnn : nb = nx := by rw [Hnx.out, HBB.out, List.length_set, ← Hnb.out]
              subst hnn
              have hj : (i : Int) < (nb : Int) := by omega
              have hfz := HO9.out.frozenN Hnb.out i
              have hcl := HO9.out.cellN Hnb.out i (by rw [← Hnb.out]; omega)
              go_wp2_with fail
              go_meet
              exact ⟨_, _, rfl, by rw [HBB.out]; exact (HO9.out.storeN Hnb.out i _ (by omega)).bs (by rw [List.length_set, ← Hnb.out]; unfold maxLen; omega), (HD9.out.storeO hg3 _).grown⟩
            · have hB : BX = BD.take (1 + pickV l K4 (nb - 1)) ++ (if pickV l (K4 + pickK (nb - 1)) 2 = 0 then [255, 255, 255, 255, ((pickV l (K4 + pickK (nb - 1) + 1) 130 : Nat) : Int)] else [orB (BD[1 + pickV l K4 (nb - 1)]?.getD 0) 128, 0]) ++ BD.drop (1 + pickV l K4 (nb - 1) + 1) := by rw [HBX.out, Hnb.out]; rfl
              obtain ⟨m1, hm1⟩ : ∃ z, z = nb - 1 := ⟨_, rfl⟩
              rw [← hm1] at hB
              have hm1p : 0 < m1 := by omega
              have hm1b : m1 ≤ 12000 := by omega
              have bp := pickV_lt l K4 m1 (by omega)
              have pk5 := pickK_le m1
              obtain ⟨p, hp⟩ : ∃ z, z = pickV l K4 m1 := ⟨_, rfl⟩
              obtain ⟨K5, hK5⟩ : ∃ z, z = K4 + pickK m1 := ⟨_, rfl⟩
              obtain ⟨i2, hi2⟩ : ∃ z, z = 1 + p := ⟨_, rfl⟩
              rw [← hp] at hB bp
              rw [← hK5, ← hi2] at hB
              have hi2n : i2 < nb := by omega
              have hi2p : 0 < i2 := by omega
              have bs2 := pickV_lt l K5 2 (by decide)
              have br := pickV_lt l (K5 + 1) 130 (by decide)
              obtain ⟨s2, hs2⟩ : ∃ z, z = pickV l K5 2 := ⟨_, rfl⟩
              obtain ⟨r, hr⟩ : ∃ z, z = pickV l (K5 + 1) 130 := ⟨_, rfl⟩
              rw [← hs2] at hB bs2
              rw [← hr] at hB br
              have hz8 := byte_at HO9.out.1 i2
              obtain ⟨z, hz⟩ : ∃ z, z = BD[i2]?.getD 0 := ⟨_, rfl⟩
              rw [← hz] at hB hz8
              have hob := orB_byte z hz8.1 hz8.2
              obtain ⟨MR, hMR⟩ : ∃ M, M = if s2 = 0 then [255, 255, 255, 255, (r : Int)] else [orB z 128, 0] := ⟨_, rfl⟩
              rw [← hMR] at hB
              have hMl : 0 < MR.length ∧ MR.length ≤ 5 := by rw [hMR]; split <;> simp
              obtain ⟨nm, hnm⟩ : ∃ n, n = MR.length := ⟨_, rfl⟩
              rw [← hnm] at hMl
              have Hp : Hid (p = pickV l K4 m1) := hp
              have HK5 : Hid (K5 = K4 + pickK m1) := hK5
              have hK5b : K5 ≤ 5000 := by omega
              have Hs2 : Hid (s2 = pickV l K5 2) := hs2
              have Hr : Hid (r = pickV l (K5 + 1) 130) := hr
              have Hz : Hid (z = BD[i2]?.getD 0) := hz
              have HMR : Hid (MR = if s2 = 0 then [255, 255, 255, 255, (r : Int)] else [orB z 128, 0]) := hMR
              have Hnm : Hid (nm = MR.length) := hnm
              have HBB : Hid (BX = BD.take i2 ++ MR ++ BD.drop (i2 + 1)) := hB
              have hlit : ∀ y ∈ [orB z 128, 0], 0 ≤ y ∧ y ≤ 255 := fun y hy => by
                simp at hy
                rcases hy with rfl | rfl
                · exact hob
                · omega
              have HLit : Hid (∀ y ∈ [orB z 128, 0], 0 ≤ y ∧ y ≤ 255) := hlit
              have hw1 : IntKind.i64.wrap ((nb : Int) - 1) = (m1 : Int) := by rw [IntKind.wrap_i64] <;> omega
              have hw2 : IntKind.i64.wrap (1 + (p : Int)) = (i2 : Int) := by rw [IntKind.wrap_i64] <;> omega
              have hw3 : IntKind.i64.wrap ((i2 : Int) + 1) = (i2 : Int) + 1 := by rw [IntKind.wrap_i64] <;> omega
              have hj : (i2 : Int) < (nb : Int) := by omega
              have hnb1 : (1 : Int) < (nb : Int) := by omega
              clear hB HBX hm1 hp hK5 hi2 hs2 hr hz hMR hnm hob hlit
              go_upto_if 128 with (first
                | (go_at_call 23; clear G0; refine (HD9.out.pickO HO9.out m1 hL (by omega) (by omega) (by omega)).mono ?_; rintro r' w10 ⟨rfl, hd, ho⟩; rw [← Hp.out]; (rw [← HK5.out] at hd); have HD10 : Hid (Dr w w10 g v l K5 []) := hd; have HO10 : Hid (Own w10 w.heap.size (.slice (some ⟨g3, 0, none⟩) nb c8) BD) := ho; have hcl : w10.cell? ⟨g3, i2, none⟩ = some (.int .u8 z) := (by rw [Hz.out]; exact ho.cellN Hnb.out i2 (by rw [← Hnb.out]; omega)); clear hd ho)
                | (go_at_call 23; refine (l1pick_any g _ v l K5 2 hL (by omega) (by decide) (by decide) (HD10.out.other (.cells #[.int .u8 (orB z 128), .int .u8 0] 5)).src).mono ?_; rintro r' w11 ⟨rfl, hs, hgr⟩; rw [← Hs2.out]; have HD11 : Hid (Dr w w11 g v l (K5 + 1) []) := (HD10.out.other (.cells #[.int .u8 (orB z 128), .int .u8 0] 5)).call hs hgr; have HO11 : Hid (Own w11 w.heap.size (.slice (some ⟨g3, 0, none⟩) nb c8) BD) := (HO10.out.below ((Below.refl _ _).alloc (Nat.le_refl _) _)).grownL hgr HD10.out.gl; have HM11 : Hid (Own w11 w10.heap.size (.slice (some ⟨w10.heap.size, 0, none⟩) 2 2) [orB z 128, 0]) := (Own.lit w10 [orB z 128, 0] #[.int .u8 (orB z 128), .int .u8 0] rfl HLit.out (by simp [maxLen])).grownL hgr (Nat.lt_of_lt_of_le HD10.out.gl HD10.out.size); clear hs hgr hcl))
              go_cut [10, 128] (fun s _ wx => ∃ ma mc K6, K6 ≤ 6000 ∧ s = .slice ma nm mc ∧ Bs wx (.slice ma nm mc) MR ∧ Own wx w.heap.size (.slice (some ⟨g3, 0, none⟩) nb c8) BD ∧ Dr w wx g v l K6 [])
              case first =>
                by_cases cz : s2 = 0
                · subst cz
                  have hMR : MR = [255, 255, 255, 255, (r : Int)] := HMR.out
                  have hnn : 5 = nm := by rw [Hnm.out, hMR]; rfl
                  have HMM : Hid (MR = [255, 255, 255, 255, (r : Int)]) := hMR
                  subst hnn
                  have hwr : IntKind.u8.wrap (r : Int) = (r : Int) := by simp [IntKind.wrap, IntKind.signed, IntKind.bits]; omega
                  clear hMR
                  go_wp2_with (go_at_call 23; refine (HD11.out.pickO HO11.out 130 hL (by omega) (by decide) (by decide)).mono ?_; rintro r' w12 ⟨rfl, hd, ho⟩; rw [← Hr.out]; have HD12 : Hid (Dr w w12 g v l (K5 + 1 + pickK 130) []) := hd; have HO12 : Hid (Own w12 w.heap.size (.slice (some ⟨g3, 0, none⟩) nb c8) BD) := ho; clear hd ho)
                  go_meet
                  refine ⟨_, _, K5 + 1 + pickK 130, (by have := pickK_le 130; omega), rfl, ?_, HO12.out.below ((Below.refl _ _).alloc (Nat.le_refl _) _), HD12.out.other _⟩
                  rw [HMM.out]
                  exact (Own.lit w12 [255, 255, 255, 255, (r : Int)] #[.int .u8 255, .int .u8 255, .int .u8 255, .int .u8 255, .int .u8 (r : Int)] rfl (by intro y hy; simp at hy; omega) (by simp [maxLen])).bs (by simp [maxLen])
                · have hMR : MR = [orB z 128, 0] := by rw [HMR.out, if_neg cz]
                  have hnn : 2 = nm := by rw [Hnm.out, hMR]; rfl
                  have HMM : Hid (MR = [orB z 128, 0]) := hMR
                  subst hnn
                  have cz' : ((s2 : Int) == 0) = false := by rw [beq_eq_false_iff_ne]; omega
                  clear hMR
                  go_wp2_with fail
                  go_meet
                  exact ⟨_, _, K5 + 1, by omega, rfl, by rw [HMM.out]; exact HM11.out.bs (by simp [maxLen]), HO11.out, HD11.out⟩
              case rest =>
                obtain ⟨ma, mc, K6, hK6, rfl, hbm, hob, hdb⟩ := hcut
                have HBm : Hid (Bs wc (.slice ma nm mc) MR) := hbm
                have HOb : Hid (Own wc w.heap.size (.slice (some ⟨g3, 0, none⟩) nb c8) BD) := hob
                have HDb : Hid (Dr w wc g v l K6 []) := hdb
                clear hbm hob hdb HM11 HO11 HD11 HO10 HD10 HMR
                obtain ⟨W12, hW12⟩ : ∃ W12, W12 = wc := ⟨_, rfl⟩
                subst hW12
                have hsl := sl_hi g3 nb c8 i2 (by omega)
                obtain ⟨off, hsl2, hoff⟩ := sl_lo g3 nb c8 (i2 + 1) (by omega)
                obtain ⟨nd, hnd⟩ : ∃ z, z = nb - (i2 + 1) := ⟨_, rfl⟩
                obtain ⟨cd, hcd⟩ : ∃ z, z = c8 - (i2 + 1) := ⟨_, rfl⟩
                rw [← hnd, ← hcd] at hsl2
                replace hsl2 : ∀ wx, (Instr.slice 22 (.slice (some ⟨g3, 0, none⟩) nb c8) (some (.int .i64 ((i2 : Int) + 1))) none none).run Tryz.prog wx = .ok (.slice (some ⟨g3, off, none⟩) nd cd) wx := hsl2
                have HTk : Hid (i2 = (BD.take i2).length) := (by rw [List.length_take, ← Hnb.out]; omega : i2 = (BD.take i2).length)
                have HDl : Hid (nd = (BD.drop (i2 + 1)).length) := (by rw [List.length_drop, ← Hnb.out]; omega : nd = (BD.drop (i2 + 1)).length)
                have HBd : Hid (∀ u : World, Own u w.heap.size (.slice (some ⟨g3, 0, none⟩) nb c8) BD → Bs u (.slice (some ⟨g3, off, none⟩) nd cd) (BD.drop (i2 + 1))) := fun u hu => by
                  rw [hnd, hcd]
                  exact hu.bsDrop Hnb.out (by rw [← Hnb.out]; unfold maxLen; omega) (i2 + 1) (by rw [← Hnb.out]; omega) hoff
                have HCq : Hid (∀ u : World, Own u w.heap.size (.slice (some ⟨g3, 0, none⟩) nb c8) BD → Calls Tryz.prog 84 #[.slice (some ⟨g3, 0, none⟩) i2 c8] u fun e w' => ∃ a' c', e = .returned (.slice a' i2 c') ∧ Own w' u.heap.size (.slice a' i2 c') (BD.take i2) ∧ Below u.heap.size u w') := fun u hu => by
                  have hx := hu.bsTake (by rw [← Hnb.out]; unfold maxLen; omega) i2 (by rw [← Hnb.out]; omega)
                  have hy := l1copy_any (some ⟨g3, 0, none⟩) c8 (BD.take i2) u (by rw [← HTk.out]; exact hx) (by rw [← HTk.out]; omega)
                  rw [← HTk.out] at hy
                  exact hy
                have hndb : nd ≤ 12000 := by omega
                clear hnd hcd hoff
                have G1 : True := trivial
                go_upto_region 34 with (first
                  | (go_at_call 84; refine (HCq.out _ HOb.out).mono ?_; rintro r' w13 ⟨a13, c13, rfl, ho13, hb13⟩; have HO13 : Hid (Own w13 W12.heap.size (.slice a13 i2 c13) (BD.take i2)) := ho13; have HB13 : Hid (Below W12.heap.size W12 w13) := hb13; clear ho13 hb13)
                  | (at_builtin; refine wpl_append rfl (.tmp 137) (.tmp 138) rfl HO13.out rfl (HBm.out.below HB13.out) rfl (by rw [← Hnm.out]; omega) (by rw [← HTk.out, ← Hnm.out]; omega) HB13.out.size ?_; intro v14 w14 ho14 hg14; have HO14 : Hid (Own w14 W12.heap.size v14 (BD.take i2 ++ MR)) := ho14; have HB14 : Hid (Below W12.heap.size W12 w14) := HB13.out.trans (hg14.below HO13.out HB13.out.size); clear ho14 hg14))
                have hl14 : (BD.take i2 ++ MR).length ≤ 20000 := by rw [List.length_append, ← HTk.out, ← Hnm.out]; omega
                have HL14 : Hid ((BD.take i2 ++ MR).length + nd ≤ 40000) := (by omega : (BD.take i2 ++ MR).length + nd ≤ 40000)
                clear hl14
                go_wp2_with (at_builtin; refine wpl_append_at rfl (.tmp 140) (.tmp 144) rfl HO14.out rfl (l2 := BD.drop (i2 + 1)) (b := g3) (off := off) (cu := cd) (by rw [← HDl.out]; exact HBd.out _ (HOb.out.below HB14.out)) (by rw [← HDl.out]; rfl) (by rw [← HDl.out]; have := HL14.out; omega) HB14.out.size ?_; intro v15 w15 ho15 hg15; have HB15 : Hid (Below W12.heap.size W12 w15) := HB14.out.trans (hg15.below HO14.out HB14.out.size); rw [← HBB.out] at ho15; obtain ⟨a15, c15, rfl⟩ := ho15.shape; rw [← Hnx.out] at ho15; rw [← Hnx.out]; have HO15 : Hid (Own w15 W12.heap.size (.slice a15 nx c15) BX) := ho15; clear ho15 hg15)
                go_meet
                exact ⟨_, _, rfl, HO15.out.bs (by rw [← Hnx.out]; unfold maxLen; omega), (HDb.out.below HB15.out).grown⟩
            · have hB : BX = BD.set 0 (pickV l K4 10 : Nat) := by rw [HBX.out]; rfl
              have bp := pickV_lt l K4 10 (by omega)
              obtain ⟨p, hp⟩ : ∃ p, p = pickV l K4 10 := ⟨_, rfl⟩
              rw [← hp] at bp hB
              have Hp : Hid (p = pickV l K4 10) := hp
              clear hp
              have hw : IntKind.u8.wrap (p : Int) = (p : Int) := by simp [IntKind.wrap, IntKind.signed, IntKind.bits]; omega
              have HBB : Hid (BX = BD.set 0 ((p : Int))) := hB
              clear hB HBX
              have hnn : nb = nx := by rw [Hnx.out, HBB.out, List.length_set, ← Hnb.out]
              subst hnn
              have hj : (0 : Int) < (nb : Int) := by omega
              go_wp2_with (go_at_call 23; refine (HD9.out.pickO HO9.out 10 hL (by omega) (by omega) (by omega)).mono ?_; rintro r' w10 ⟨rfl, hd, ho⟩; rw [← Hp.out]; have HD10 : Hid (Dr w w10 g v l (K4 + pickK 10) []) := hd; have HO10 : Hid (Own w10 w.heap.size (.slice (some ⟨g3, 0, none⟩) nb c8) BD) := ho; clear hd ho; have hfz := HO10.out.frozenN Hnb.out 0; have hcl := HO10.out.cellN Hnb.out (0) (by rw [← Hnb.out]; omega))
              go_meet
              exact ⟨_, _, rfl, by rw [HBB.out]; exact (HO10.out.storeN Hnb.out (0) _ ⟨by omega, by omega⟩).bs (by rw [List.length_set, ← Hnb.out]; unfold maxLen; omega), (HD10.out.storeO hg3 _).grown⟩
            · have hB : BX = BD.set i (nextV l K4) := by rw [HBX.out]; rfl
              have hx8 := HBY.out K4
              obtain ⟨x, hx⟩ : ∃ x, x = nextV l K4 := ⟨_, rfl⟩
              rw [← hx] at hB hx8
              have Hx : Hid (x = nextV l K4) := hx
              have HX8 : Hid (0 ≤ x ∧ x ≤ 255) := hx8
              have hw : IntKind.u8.wrap x = x := by simp [IntKind.wrap, IntKind.signed, IntKind.bits]; omega
              clear hx
              have HBB : Hid (BX = BD.set i (x)) := hB
              clear hB HBX
              have hnn : nb = nx := by rw [Hnx.out, HBB.out, List.length_set, ← Hnb.out]
              subst hnn
              have hj : (i : Int) < (nb : Int) := by omega
              go_wp2_with (go_at_call 50; refine (HD9.out.nextO HO9.out hL (by omega)).mono ?_; rintro r' w10 ⟨rfl, hd, ho⟩; rw [← Hx.out]; have HD10 : Hid (Dr w w10 g v l (K4 + 1) []) := hd; have HO10 : Hid (Own w10 w.heap.size (.slice (some ⟨g3, 0, none⟩) nb c8) BD) := ho; clear hd ho; have hfz := HO10.out.frozenN Hnb.out i; have hcl := HO10.out.cellN Hnb.out (i) (by rw [← Hnb.out]; omega))
              go_meet
              exact ⟨_, _, rfl, by rw [HBB.out]; exact (HO10.out.storeN Hnb.out (i) _ HX8.out).bs (by rw [List.length_set, ← Hnb.out]; unfold maxLen; omega), (HD10.out.storeO hg3 _).grown⟩
          case rest =>
            obtain ⟨xa, xc, rfl, hbx, hgx⟩ := hcut
            have HBx : Hid (Bs wc (.slice xa nx xc) BX) := hbx
            have HGx : Hid (w.grownBy wc (some g)) := hgx
            clear hbx hgx
            go_wp2_with (go_at_call 37; refine (specFrame_any _ BX _ HBx.out (by rw [← Hnx.out]; omega) (by rw [← Hnx.out]; omega)).mono ?_; rintro r' w10 ⟨v10, rfl, ho10, hb10⟩; obtain ⟨a10, c10, rfl⟩ := ho10.shape; have HO10 : Hid (Own w10 wc.heap.size (.slice a10 (frameL BX).length c10) (frameL BX)) := ho10; have HG10 : Hid (w.grownBy w10 (some g)) := grownBy_below' HGx.out hb10; clear ho10 hb10)
            go_ret
            exact ⟨_, _, _, rfl, by rw [HRR.out], HO10.out.capL rfl, by rw [HRR.out]; exact HO10.out.bs (by rw [frameL_len, ← Hnx.out]; unfold maxLen; omega), HG10.out⟩
end Go.Proofs.YtafmjckpbcijoaaGreatDoor

/-
  spec.DrawSpoil: the range of its third answer.
-/
namespace Go.Proofs.YtafmjckpbcijoaaGreatDoor
open Go.RowKit
set_option linter.unusedVariables false
set_option linter.unusedSimpArgs false

theorem grown_below1 {w w' : World} {o1 : Obj} (h : World.grownBy (w.alloc o1) w' (some w.heap.size)) : Below w.heap.size w w' := by
  have hb : Below w.heap.size w (w.alloc o1) := (Below.refl _ _).alloc (Nat.le_refl _) _
  exact ⟨h.os.trans hb.os, h.tape.trans hb.tape, h.output.trans hb.output, Nat.le_trans hb.size h.size, fun k hk => (h.block k (by simp; omega) (by intro e; injection e with e; omega)).trans (hb.block k hk)⟩

set_option maxHeartbeats 8000000 in
set_option maxRecDepth 100000 in
theorem drawSpoil_any (a : Option Addr) (cap : Nat) (l : List Int) (w : World) (hv : Bs w (.slice a l.length cap) l) (hL : l.length ≤ 1048576) :
    Calls Tryz.prog 5 #[.slice a l.length cap] w fun r w' => ∃ (sv : Value) (i x : Int), r = .returned (.tuple #[sv, .int .i64 i, .int .i64 x]) ∧ -100 ≤ x ∧ x < 500 ∧ Below w.heap.size w w' := by
  have HS0 : Hid (Src (w.alloc (.cells #[.slice a l.length cap, .int .i64 0] 54)) w.heap.size (.slice a l.length cap) l 0) := Src.start w (.slice a l.length cap) l hv 54
  have hok := msgD_ok l 0
  have HDr : Hid (∀ u : World, Src u w.heap.size (.slice a l.length cap) l 0 → Calls Tryz.prog 22 #[.pointer (some ⟨w.heap.size, 0, none⟩)] u fun r w' => ∃ ea ec, r = .returned (.agg #[.int .i64 (drM l).ki, .int .i64 (drM l).fr, .int .i64 (drM l).td, .int .i64 (drM l).tm, .int .i64 (drM l).li, .int .i64 (drM l).lt, .int .i64 (drM l).cm, .int .i64 (drM l).ok, .int .i64 (drM l).hi, .slice ea (drM l).es.length ec]) ∧ OwnE w' u.heap.size (.slice ea (drM l).es.length ec) (drM l).es ∧ Src w' w.heap.size (.slice a l.length cap) l (msgD l 0).k ∧ u.grownBy w' (some w.heap.size)) := fun u hu => l1drawMsg_any w.heap.size u (.slice a l.length cap) l 0 hL (by omega) hu
  have hb3 : (drM l).es.length ≤ 32 := hok.2.2.2.2.1
  have hkb : (msgD l 0).k ≤ 1000 := by have := hok.2.2.2.2.2; omega
  clear hok
  generalize (msgD l 0).k = K at *
  generalize drM l = m at *
  obtain ⟨n, hn⟩ : ∃ n, n = m.es.length := ⟨_, rfl⟩
  rw [← hn] at hb3 HDr
  have Hn : Hid (n = m.es.length) := hn
  clear hn hv
  have HEn : Hid (∀ (u : World) (ea : Option Addr) (ec : Nat), OwnE u (w.heap.size + 1) (.slice ea n ec) m.es → Calls Tryz.prog 21 #[.agg #[.int .i64 m.ki, .int .i64 m.fr, .int .i64 m.td, .int .i64 m.tm, .int .i64 m.li, .int .i64 m.lt, .int .i64 m.cm, .int .i64 m.ok, .int .i64 m.hi, .slice ea n ec]] u fun r w' => ∃ v', r = .returned v' ∧ Below u.heap.size u w') := fun u ea ec ho => by
    have he := ho.es (by rw [← Hn.out]; unfold maxLen; omega)
    exact (specEncodeMsg_any _ _ _ _ _ _ _ _ _ _ m.es u he (by rw [← Hn.out]; omega)).mono fun r w' ⟨v', h1, _, h2⟩ => ⟨v', h1, h2⟩
  have b6 := pickV_lt l (K + 1 + pickK 400) 600 (by decide)
  have b4 := pickV_lt l (K + 1) 400 (by decide)
  have pk4 : pickK 400 ≤ 8 := by decide
  have b8 := pickV_lt l K 8 (by decide)
  obtain ⟨p, hp⟩ : ∃ p, p = pickV l K 8 := ⟨_, rfl⟩
  obtain ⟨q, hq⟩ : ∃ q, q = pickV l (K + 1) 400 := ⟨_, rfl⟩
  obtain ⟨r, hr⟩ : ∃ r, r = pickV l (K + 1 + pickK 400) 600 := ⟨_, rfl⟩
  rw [← hp] at b8
  rw [← hq] at b4
  rw [← hr] at b6
  have Hp : Hid (p = pickV l K 8) := hp
  have Hq : Hid (q = pickV l (K + 1) 400) := hq
  have Hr : Hid (r = pickV l (K + 1 + pickK 400) 600) := hr
  clear hp hq hr
  generalize hPK : pickK 400 = P4 at *
  go_enter Tryz.func5, Tryz.ntmps5
  go_upto_if 12 with (first
    | (go_at_call 22; refine (HDr.out _ HS0.out).mono ?_; rintro r' w3 ⟨ea, ec, rfl, ho3, hs3, hg3⟩; have HD3 : Hid (Dr (w.alloc (.cells #[.slice a l.length cap, .int .i64 0] 54)) w3 w.heap.size (.slice a l.length cap) l K []) := (Dr.start HS0.out).call hs3 hg3; have HO3 : Hid (OwnE w3 (w.heap.size + 1) (.slice ea n ec) m.es) := ho3.le (by simp); clear ho3 hs3 hg3)
    | (go_at_call 21; refine (HEn.out _ ea ec HO3.out).mono ?_; rintro r' w4 ⟨v4, rfl, hb4⟩; have HD4 : Hid (Dr (w.alloc (.cells #[.slice a l.length cap, .int .i64 0] 54)) w4 w.heap.size (.slice a l.length cap) l K []) := HD3.out.below hb4; clear hb4)
    | (go_at_call 23; refine (HD4.out.pick1 8 hL (by omega) (by decide) (by decide)).mono ?_; rintro r' w5 ⟨rfl, hd5⟩; rw [← Hp.out]; have HD5 : Hid (Dr (w.alloc (.cells #[.slice a l.length cap, .int .i64 0] 54)) w5 w.heap.size (.slice a l.length cap) l (K + 1) []) := hd5; clear hd5))
  have hw1 : IntKind.i64.wrap ((q : Int) - 100) = (q : Int) - 100 := by rw [IntKind.wrap_i64]; omega
  have hw2 : IntKind.i64.wrap ((r : Int) - 100) = (r : Int) - 100 := by rw [IntKind.wrap_i64]; omega
  by_cases c0 : p = 0
  · subst c0
    go_wp2_with (first
      | (go_at_call 23; refine (HD5.out.pick 400 hL (by omega) (by decide) (by decide)).mono ?_; rintro r' w6 ⟨rfl, hd6⟩; rw [← Hq.out]; rw [hPK] at hd6; have HD6 : Hid (Dr (w.alloc (.cells #[.slice a l.length cap, .int .i64 0] 54)) w6 w.heap.size (.slice a l.length cap) l (K + 1 + P4) []) := hd6; clear hd6 HD5)
      | (go_at_call 23; refine (HD6.out.pick 600 hL (by omega) (by decide) (by decide)).mono ?_; rintro r' w7 ⟨rfl, hd7⟩; rw [← Hr.out]; have HB7 : Hid (Below w.heap.size w w7) := grown_below1 hd7.grown; clear hd7))
    refine bodyPost_ret (v := .tuple #[.slice none 0 0, .int .i64 ((q : Int) - 100), .int .i64 ((r : Int) - 100)]) (by simp [results, Tryz.results5, go_sem]) rfl ⟨_, _, _, rfl, by omega, by omega, HB7.out⟩
  · have c1 : ((p : Int) == 0) = false := by rw [beq_eq_false_iff_ne]; omega
    clear c0
    go_wp2_with (first
      | (go_at_call 23; refine (HD5.out.pick 400 hL (by omega) (by decide) (by decide)).mono ?_; rintro r' w6 ⟨rfl, hd6⟩; rw [← Hq.out]; rw [hPK] at hd6; have HD6 : Hid (Dr (w.alloc (.cells #[.slice a l.length cap, .int .i64 0] 54)) w6 w.heap.size (.slice a l.length cap) l (K + 1 + P4) []) := hd6; clear hd6 HD5)
      | (go_at_call 23; refine (HD6.out.pick 600 hL (by omega) (by decide) (by decide)).mono ?_; rintro r' w7 ⟨rfl, hd7⟩; rw [← Hr.out]; have HB7 : Hid (Below w.heap.size w w7) := grown_below1 hd7.grown; clear hd7))
    refine bodyPost_ret (v := .tuple #[v4, .int .i64 ((q : Int) - 100), .int .i64 ((r : Int) - 100)]) (by simp [results, Tryz.results5, go_sem]) rfl ⟨_, _, _, rfl, by omega, by omega, HB7.out⟩
end Go.Proofs.YtafmjckpbcijoaaGreatDoor

/-
  spec.l1kindFor; the frames that the decoders' laws draw.
-/
namespace Go.Proofs.YtafmjckpbcijoaaGreatDoor
open Go.RowKit
set_option linter.unusedVariables false
set_option linter.unusedSimpArgs false

def kindV (l : List Int) (k : Nat) (kd : Int) : Int := if pickV l k 8 = 0 then 5 + (pickV l (k + 1) 4 : Nat) else kd
def kindK (l : List Int) (k : Nat) : Nat := if pickV l k 8 = 0 then k + 1 + 1 else k + 1
theorem kindK_le (l : List Int) (k : Nat) : kindK l k ≤ k + 2 := by unfold kindK; split <;> omega
set_option maxRecDepth 100000 in
theorem l1kindFor_any (g : Nat) (w : World) (v : Value) (l : List Int) (k : Nat) (kd : Int) (hL : l.length ≤ 1048576) (hk : k ≤ 1000) (h : Src w g v l k) :
    Calls Tryz.prog 66 #[.pointer (some ⟨g, 0, none⟩), .int .i64 kd] w fun r w' => r = .returned (.int .i64 (kindV l k kd)) ∧ Src w' g v l (kindK l k) ∧ w.grownBy w' (some g) := by
  have HD0 : Hid (Dr w w g v l k []) := Dr.start h
  have b8 := pickV_lt l k 8 (by decide)
  have b4 := pickV_lt l (k + 1) 4 (by decide)
  unfold kindV kindK
  obtain ⟨p, hp⟩ : ∃ p, p = pickV l k 8 := ⟨_, rfl⟩
  obtain ⟨q, hq⟩ : ∃ q, q = pickV l (k + 1) 4 := ⟨_, rfl⟩
  rw [← hp] at b8 ⊢
  rw [← hq] at b4 ⊢
  have Hp : Hid (p = pickV l k 8) := hp
  have Hq : Hid (q = pickV l (k + 1) 4) := hq
  clear hp hq
  by_cases c0 : p = 0
  · rw [if_pos c0, if_pos c0]
    subst c0
    have hw : IntKind.i64.wrap (5 + (q : Int)) = 5 + (q : Int) := by rw [IntKind.wrap_i64] <;> omega
    have G0 : True := trivial
    go_enter Tryz.func66, Tryz.ntmps66
    go_wp2_with (first
      | (go_at_call 23; clear G0; refine (HD0.out.pick1 8 hL (by omega) (by decide) (by decide)).mono ?_; rintro r w1 ⟨rfl, hd⟩; rw [← Hp.out]; have HD1 : Hid (Dr w w1 g v l (k + 1) []) := hd; clear hd)
      | (go_at_call 23; refine (HD1.out.pick1 4 hL (by omega) (by decide) (by decide)).mono ?_; rintro r w2 ⟨rfl, hd⟩; rw [← Hq.out]; have HD2 : Hid (Dr w w2 g v l (k + 1 + 1) []) := hd; clear hd))
    go_ret
    exact ⟨rfl, HD2.out.src, HD2.out.grown⟩
  · rw [if_neg c0, if_neg c0]
    have c1 : ((p : Int) != 0) = true := by rw [bne_iff_ne]; omega
    go_enter Tryz.func66, Tryz.ntmps66
    go_wp2_with (go_at_call 23; refine (HD0.out.pick1 8 hL (by omega) (by decide) (by decide)).mono ?_; rintro r w1 ⟨rfl, hd⟩; rw [← Hp.out]; have HD1 : Hid (Dr w w1 g v l (k + 1) []) := hd; clear hd)
    go_ret
    exact ⟨rfl, HD1.out.src, HD1.out.grown⟩
/-- the bytes that the law of a decoder draws: kd the kind that it wants -/
def decL (l : List Int) (kd : Int) : List Int := frL l (kindV l 0 kd) (kindK l 0)
set_option maxRecDepth 100000 in
theorem drawDecodeMsg_any (a : Option Addr) (cap : Nat) (l : List Int) (w : World) (hv : Bs w (.slice a l.length cap) l) (hL : l.length ≤ 1048576) :
    Calls Tryz.prog 41 #[.slice a l.length cap] w fun r w' => ∃ xa n c, r = .returned (.slice xa n c) ∧ n = (decL l 1).length ∧ n ≤ c ∧ Bs w' (.slice xa n c) (decL l 1) ∧ Below w.heap.size w w' := by
  have HS0 : Hid (Src (w.alloc (.cells #[.slice a l.length cap, .int .i64 0] 54)) w.heap.size (.slice a l.length cap) l 0) := Src.start w (.slice a l.length cap) l hv 54
  have hkk := kindK_le l 0
  obtain ⟨R, hR⟩ : ∃ R, R = decL l 1 := ⟨_, rfl⟩
  rw [← hR]
  have HR : Hid (R = frL l (kindV l 0 1) (kindK l 0)) := hR
  clear hR hv
  have HKF : Hid (∀ u : World, Src u w.heap.size (.slice a l.length cap) l 0 → Calls Tryz.prog 66 #[.pointer (some ⟨w.heap.size, 0, none⟩), .int .i64 1] u fun r w' => r = .returned (.int .i64 (kindV l 0 1)) ∧ Src w' w.heap.size (.slice a l.length cap) l (kindK l 0) ∧ u.grownBy w' (some w.heap.size)) := fun u hu => l1kindFor_any _ u _ l 0 1 hL (by omega) hu
  generalize kindV l 0 1 = kk at *
  generalize kindK l 0 = K at *
  go_enter Tryz.func41, Tryz.ntmps41
  go_wp2_with (first
    | (go_at_call 66; refine (HKF.out _ HS0.out).mono ?_; rintro r w1 ⟨rfl, hs1, hg1⟩; have HS1 : Hid (Src w1 w.heap.size (.slice a l.length cap) l K) := hs1; have HG1 : Hid (World.grownBy (w.alloc (.cells #[.slice a l.length cap, .int .i64 0] 54)) w1 (some w.heap.size)) := hg1; clear hs1 hg1)
    | (go_at_call 67; refine (l1drawFrame_any _ _ _ l K kk hL (by omega) HS1.out).mono ?_; rintro r w2 ⟨xa, n, c, rfl, hn, hc, hb2, hg2⟩; have HB2 : Hid (Bs w2 (.slice xa n c) R) := (by rw [HR.out]; exact hb2 : Bs w2 (.slice xa n c) R); have Hn2 : Hid (n = R.length) := (by rw [HR.out]; exact hn : n = R.length); have HG2 : Hid (Below w.heap.size w w2) := grown_below1 (grownBy_trans HG1.out hg2); clear hb2 hg2 hn))
  go_ret
  exact ⟨xa, n, c, rfl, Hn2.out, hc, HB2.out, HG2.out⟩
set_option maxRecDepth 100000 in
theorem drawDecodeCall_any (a : Option Addr) (cap : Nat) (l : List Int) (w : World) (hv : Bs w (.slice a l.length cap) l) (hL : l.length ≤ 1048576) :
    Calls Tryz.prog 43 #[.slice a l.length cap] w fun r w' => ∃ xa n c, r = .returned (.slice xa n c) ∧ n = (decL l 7).length ∧ n ≤ c ∧ Bs w' (.slice xa n c) (decL l 7) ∧ Below w.heap.size w w' := by
  have HS0 : Hid (Src (w.alloc (.cells #[.slice a l.length cap, .int .i64 0] 54)) w.heap.size (.slice a l.length cap) l 0) := Src.start w (.slice a l.length cap) l hv 54
  have hkk := kindK_le l 0
  obtain ⟨R, hR⟩ : ∃ R, R = decL l 7 := ⟨_, rfl⟩
  rw [← hR]
  have HR : Hid (R = frL l (kindV l 0 7) (kindK l 0)) := hR
  clear hR hv
  have HKF : Hid (∀ u : World, Src u w.heap.size (.slice a l.length cap) l 0 → Calls Tryz.prog 66 #[.pointer (some ⟨w.heap.size, 0, none⟩), .int .i64 7] u fun r w' => r = .returned (.int .i64 (kindV l 0 7)) ∧ Src w' w.heap.size (.slice a l.length cap) l (kindK l 0) ∧ u.grownBy w' (some w.heap.size)) := fun u hu => l1kindFor_any _ u _ l 0 7 hL (by omega) hu
  generalize kindV l 0 7 = kk at *
  generalize kindK l 0 = K at *
  go_enter Tryz.func43, Tryz.ntmps43
  go_wp2_with (first
    | (go_at_call 66; refine (HKF.out _ HS0.out).mono ?_; rintro r w1 ⟨rfl, hs1, hg1⟩; have HS1 : Hid (Src w1 w.heap.size (.slice a l.length cap) l K) := hs1; have HG1 : Hid (World.grownBy (w.alloc (.cells #[.slice a l.length cap, .int .i64 0] 54)) w1 (some w.heap.size)) := hg1; clear hs1 hg1)
    | (go_at_call 67; refine (l1drawFrame_any _ _ _ l K kk hL (by omega) HS1.out).mono ?_; rintro r w2 ⟨xa, n, c, rfl, hn, hc, hb2, hg2⟩; have HB2 : Hid (Bs w2 (.slice xa n c) R) := (by rw [HR.out]; exact hb2 : Bs w2 (.slice xa n c) R); have Hn2 : Hid (n = R.length) := (by rw [HR.out]; exact hn : n = R.length); have HG2 : Hid (Below w.heap.size w w2) := grown_below1 (grownBy_trans HG1.out hg2); clear hb2 hg2 hn))
  go_ret
  exact ⟨xa, n, c, rfl, Hn2.out, hc, HB2.out, HG2.out⟩
set_option maxRecDepth 100000 in
theorem drawDecodeReply_any (a : Option Addr) (cap : Nat) (l : List Int) (w : World) (hv : Bs w (.slice a l.length cap) l) (hL : l.length ≤ 1048576) :
    Calls Tryz.prog 45 #[.slice a l.length cap] w fun r w' => ∃ xa n c, r = .returned (.slice xa n c) ∧ n = (decL l 8).length ∧ n ≤ c ∧ Bs w' (.slice xa n c) (decL l 8) ∧ Below w.heap.size w w' := by
  have HS0 : Hid (Src (w.alloc (.cells #[.slice a l.length cap, .int .i64 0] 54)) w.heap.size (.slice a l.length cap) l 0) := Src.start w (.slice a l.length cap) l hv 54
  have hkk := kindK_le l 0
  obtain ⟨R, hR⟩ : ∃ R, R = decL l 8 := ⟨_, rfl⟩
  rw [← hR]
  have HR : Hid (R = frL l (kindV l 0 8) (kindK l 0)) := hR
  clear hR hv
  have HKF : Hid (∀ u : World, Src u w.heap.size (.slice a l.length cap) l 0 → Calls Tryz.prog 66 #[.pointer (some ⟨w.heap.size, 0, none⟩), .int .i64 8] u fun r w' => r = .returned (.int .i64 (kindV l 0 8)) ∧ Src w' w.heap.size (.slice a l.length cap) l (kindK l 0) ∧ u.grownBy w' (some w.heap.size)) := fun u hu => l1kindFor_any _ u _ l 0 8 hL (by omega) hu
  generalize kindV l 0 8 = kk at *
  generalize kindK l 0 = K at *
  go_enter Tryz.func45, Tryz.ntmps45
  go_wp2_with (first
    | (go_at_call 66; refine (HKF.out _ HS0.out).mono ?_; rintro r w1 ⟨rfl, hs1, hg1⟩; have HS1 : Hid (Src w1 w.heap.size (.slice a l.length cap) l K) := hs1; have HG1 : Hid (World.grownBy (w.alloc (.cells #[.slice a l.length cap, .int .i64 0] 54)) w1 (some w.heap.size)) := hg1; clear hs1 hg1)
    | (go_at_call 67; refine (l1drawFrame_any _ _ _ l K kk hL (by omega) HS1.out).mono ?_; rintro r w2 ⟨xa, n, c, rfl, hn, hc, hb2, hg2⟩; have HB2 : Hid (Bs w2 (.slice xa n c) R) := (by rw [HR.out]; exact hb2 : Bs w2 (.slice xa n c) R); have Hn2 : Hid (n = R.length) := (by rw [HR.out]; exact hn : n = R.length); have HG2 : Hid (Below w.heap.size w w2) := grown_below1 (grownBy_trans HG1.out hg2); clear hb2 hg2 hn))
  go_ret
  exact ⟨xa, n, c, rfl, Hn2.out, hc, HB2.out, HG2.out⟩
end Go.Proofs.YtafmjckpbcijoaaGreatDoor

/-
  Numbers: what is laid is read, and what is read was laid.
-/
namespace Go.Proofs.YtafmjckpbcijoaaGreatDoor
open Go.RowKit
set_option linter.unusedVariables false
set_option linter.unusedSimpArgs false

/-- a number at the head of a list, in at most f bytes; b: not at its first byte -/
def numS : Nat → Bool → List Int → Option (Nat × Nat)
  | 0, _, _ => none
  | _ + 1, _, [] => none
  | f + 1, b, x :: t =>
    if 128 ≤ x then (numS f true t).map fun p => (x.toNat % 128 + 128 * p.1, p.2 + 1)
    else if x = 0 ∧ b = true then none
    else some (x.toNat % 128, 1)

theorem numAt_numS (l : List Int) (f : Nat) : ∀ k, numAt l f k = (numS f (decide (0 < k)) (l.drop k)).map fun p => (valL l k + 128 ^ k * p.1, k + p.2) := by
  induction f with
  | zero => intro k; rfl
  | succ f ih =>
    intro k
    by_cases hk : k < l.length
    · have hd : l.drop k = l[k] :: l.drop (k + 1) := List.drop_eq_getElem_cons hk
      have hg : l[k]?.getD 0 = l[k] := by rw [List.getElem?_eq_getElem hk]; rfl
      rw [hd, numAt, if_pos hk, hg]
      have hv : valL l (k + 1) = valL l k + l[k].toNat % 128 * 128 ^ k := by rw [valL, hg]
      by_cases h1 : 128 ≤ l[k]
      · rw [if_pos h1, ih (k + 1), numS, if_pos h1, Option.map_map, show decide (0 < k + 1) = true by simp]
        congr 1
        funext p
        simp only [Function.comp, hv, Nat.pow_succ]
        congr 1
        · rw [Nat.mul_add, Nat.mul_comm (l[k].toNat % 128), Nat.mul_assoc, Nat.add_assoc]
        · omega
      · rw [if_neg h1, numS, if_neg h1]
        by_cases h2 : l[k] = 0 ∧ 0 < k
        · rw [if_pos h2, if_pos (by simpa using h2)]; rfl
        · rw [if_neg h2, if_neg (by simpa using h2), hv]
          simp [Nat.mul_comm]
    · have hd : l.drop k = [] := List.drop_eq_nil_of_le (by omega)
      rw [hd, numAt, if_neg hk]
      rfl
theorem numR_numS (l : List Int) : numR l = numS 5 false l := by
  unfold numR
  rw [numAt_numS, List.drop_zero]
  simp [valL]

theorem numS_numL (f : Nat) : ∀ (n : Nat) (b : Bool) (r : List Int), 0 < f → n < 128 ^ f → (b = true → n ≠ 0) → numS f b (numL n ++ r) = some (n, (numL n).length) := by
  induction f with
  | zero => intro n b r h0; omega
  | succ f ih =>
    intro n b r _ h hb
    by_cases hn : n < 128
    · rw [numL_small hn, List.singleton_append, numS, if_neg (by omega), if_neg (by rintro ⟨h1, h2⟩; exact hb h2 (by omega))]
      simp; omega
    · have hq : n / 128 < 128 ^ f := by rw [Nat.pow_succ] at h; omega
      have hf : 0 < f := by
        rcases Nat.eq_zero_or_pos f with rfl | h'
        · simp at hq; omega
        · exact h'
      rw [numL_big hn, List.cons_append, numS, if_pos (by omega), ih (n / 128) true r hf hq (fun _ => by omega)]
      simp; omega

theorem numS_read (f : Nat) : ∀ (b : Bool) (l : List Int) (v n : Nat), (∀ x ∈ l, 0 ≤ x ∧ x ≤ 255) → numS f b l = some (v, n) → l = numL v ++ l.drop n ∧ n = (numL v).length ∧ (b = true → v ≠ 0) := by
  induction f with
  | zero => intro b l v n _ h; cases h
  | succ f ih =>
    intro b l v n h8 h
    cases l with
    | nil => cases h
    | cons x t =>
      have hx := h8 x (List.mem_cons_self ..)
      rw [numS] at h
      by_cases h1 : 128 ≤ x
      · rw [if_pos h1, Option.map_eq_some_iff] at h
        obtain ⟨⟨v', n'⟩, hp, he⟩ := h
        injection he with e1 e2
        simp only at e1 e2
        obtain ⟨ht, hn, hv⟩ := ih true t v' n' (fun y hy => h8 y (List.mem_cons_of_mem _ hy)) hp
        have hv0 := hv rfl
        have hbig : ¬ v < 128 := by omega
        have hdv : v / 128 = v' := by omega
        have hmv : ((v % 128 + 128 : Nat) : Int) = x := by omega
        rw [numL_big hbig, hdv, hmv, ← e2, List.drop_succ_cons, List.cons_append, List.length_cons, ← ht, ← hn]
        exact ⟨rfl, rfl, fun _ => by omega⟩
      · rw [if_neg h1] at h
        by_cases h2 : x = 0 ∧ b = true
        · rw [if_pos h2] at h; cases h
        · rw [if_neg h2] at h
          injection h with h
          injection h with e1 e2
          have hs : v < 128 := by omega
          have hxv : (v : Int) = x := by omega
          rw [numL_small hs, hxv, ← e2]
          refine ⟨rfl, rfl, fun hb hv => h2 ⟨by omega, hb⟩⟩

theorem rdNum_numL (n : Nat) (r : List Int) (h : n < 34359738368) : rdNum (some (numL n ++ r)) = (n, some r) := by
  have e : numR (numL n ++ r) = some (n, (numL n).length) := by rw [numR_numS]; exact numS_numL 5 n false r (by decide) (by simpa using h) (fun h => by cases h)
  simp [rdNum, e]
theorem rdNum_read {l : List Int} (h8 : ∀ x ∈ l, 0 ≤ x ∧ x ≤ 255) {r : List Int} (h : (rdNum (some l)).2 = some r) : l = numL (rdNum (some l)).1 ++ r := by
  unfold rdNum at h ⊢
  cases e : numR l with
  | none => simp [e] at h
  | some p =>
    obtain ⟨v, n⟩ := p
    simp only [e, Option.some.injEq] at h ⊢
    rw [numR_numS] at e
    obtain ⟨h1, _, _⟩ := numS_read 5 false l v n h8 e
    rw [← h]
    exact h1

/-- the bytes of a text -/
theorem strOf_strL (s : ByteArray) : strOfNums (strL s) = s := by
  obtain ⟨d⟩ := s
  obtain ⟨l⟩ := d
  unfold strOfNums strL
  congr 1
  simp [List.map_map, Function.comp_def]
theorem strL_strOf (l : List Int) (h8 : ∀ x ∈ l, 0 ≤ x ∧ x ≤ 255) : strL (strOfNums l) = l := by
  unfold strL
  rw [strOfNums_data, List.map_map]
  induction l with
  | nil => rfl
  | cons x l ih =>
    rw [List.map_cons, ih (fun y hy => h8 y (List.mem_cons_of_mem _ hy))]
    have hx := h8 x (List.mem_cons_self ..)
    have e : ((UInt8.ofNat x.toNat).toNat : Int) = x := by
      rw [UInt8.toNat_ofNat']
      omega
    show ((UInt8.ofNat x.toNat).toNat : Int) :: l = x :: l
    rw [e]

/-- a text as it is laid, and read -/
theorem rdText_lay (s : ByteArray) (r : List Int) (h : s.size ≤ 64) : rdText (some (numL s.size ++ strL s ++ r)) = (s, some r) := by
  have e : rdNum (some (numL s.size ++ (strL s ++ r))) = (s.size, some (strL s ++ r)) := rdNum_numL s.size (strL s ++ r) (by omega)
  unfold rdText
  rw [List.append_assoc, e]
  have hl := strL_len s
  simp only
  rw [if_neg (by simp; omega), List.take_append_of_le_length (by omega), List.take_of_length_le (by omega), strOf_strL, List.drop_append_of_le_length (by omega), List.drop_of_length_le (by omega)]
  rfl
theorem rdText_read {l : List Int} (h8 : ∀ x ∈ l, 0 ≤ x ∧ x ≤ 255) {r : List Int} (h : (rdText (some l)).2 = some r) : l = numL (rdText (some l)).1.size ++ strL (rdText (some l)).1 ++ r := by
  unfold rdText at h ⊢
  cases e : (rdNum (some l)).2 with
  | none => simp [e] at h
  | some t =>
    have hl := rdNum_read h8 e
    simp only [e] at h ⊢
    by_cases hlong : 64 < (rdNum (some l)).1 ∨ t.length < (rdNum (some l)).1
    · rw [if_pos hlong] at h; cases h
    · rw [if_neg hlong] at h ⊢
      simp only [Option.some.injEq] at h
      have ht8 : ∀ x ∈ t, 0 ≤ x ∧ x ≤ 255 := fun x hx => h8 x (by rw [hl]; exact List.mem_append_right _ hx)
      simp only
      rw [strOfNums_size, strL_strOf _ (fun x hx => ht8 x (List.mem_of_mem_take hx)), List.length_take, ← h, Nat.min_eq_left (by omega), List.append_assoc, List.take_append_drop]
      exact hl
end Go.Proofs.YtafmjckpbcijoaaGreatDoor

/-
  impl.reader: reply.
-/
namespace Go.Proofs.YtafmjckpbcijoaaGreatDoor
open Go.RowKit
set_option linter.unusedVariables false
set_option linter.unusedSimpArgs false

/-- what a reply reads as, and what is left -/
structure RepR where
  cl : Nat
  sq : Nat
  st : Nat
  cd : Nat
  v : ByteArray
  ld : Nat
  left : RSt

def rdReply (s : RSt) : RepR :=
  let a := rdNum s
  let b := rdNum a.2
  let c := rdNum b.2
  let d := rdNum c.2
  let e := rdText d.2
  let f := rdNum e.2
  ⟨a.1, b.1, c.1, d.1, e.1, f.1, f.2⟩

def repV (r : RepR) : Value := .agg #[.int .i64 (r.cl : Nat), .int .i64 (r.sq : Nat), .int .i64 (r.st : Nat), .int .i64 (r.cd : Nat), .string r.v, .int .i64 (r.ld : Nat)]

theorem rdReply_v (s : RSt) : (rdReply s).v.size ≤ 64 := rdText_size _

set_option maxHeartbeats 4000000 in
set_option maxRecDepth 100000 in
theorem reply_any (b : Nat) (w : World) (A : Nat → Addr) (B D : Nat) (st : RSt) (hs : Sents w A B) (h : Rd w b A B D st) :
    Calls Tryz.prog 80 #[.pointer (some ⟨b, 0, none⟩)] w fun e w' => e = .returned (repV (rdReply st)) ∧ Rd w' b A B D (rdReply st).left ∧ w.grownBy w' (some b) := by
  have HN : ∀ w st, Sents w A B → Rd w b A B D st → Hid (Calls Tryz.prog 91 #[.pointer (some ⟨b, 0, none⟩)] w fun e w' => e = .returned (.int .i64 ((rdNum st).1 : Nat)) ∧ Sents w' A B ∧ Rd w' b A B D (rdNum st).2 ∧ w.grownBy w' (some b)) := fun w st hs h => number_s b w A B D st hs h
  have HT : ∀ w st, Sents w A B → Rd w b A B D st → Hid (Calls Tryz.prog 92 #[.pointer (some ⟨b, 0, none⟩)] w fun e w' => e = .returned (.string (rdText st).1) ∧ Sents w' A B ∧ Rd w' b A B D (rdText st).2 ∧ w.grownBy w' (some b)) := fun w st hs h => text_s b w A B D st hs h
  have hB0 := h.1
  have hbD := h.2.1
  have hDw := h.2.2.1
  have HR : Hid (Rd w b A B D st) := h
  have HS : Hid (Sents w A B) := hs
  clear h hs
  have y1 : True := trivial
  have y2 : True := trivial
  have y3 : True := trivial
  have y4 : True := trivial
  have y5 : True := trivial
  have y6 : True := trivial
  go_enter Tryz.func80, Tryz.ntmps80
  go_wp2_with (first
    | (go_at_call 91; clear y1; refine Calls.mono (HN _ _ (HS.out.kept (((Below.refl _ _).alloc (by omega) _).alloc (by simp; omega) _)) (HR.out.below (((Below.refl _ _).alloc (by omega) _).alloc (by simp; omega) _))).out ?_; rintro e w1 ⟨rfl, hs, hr, hg⟩; obtain ⟨cc, cf⟩ := grown_cell (q := w.heap.size + 1) hg (by simp [World.setCell] <;> omega) (by omega); obtain ⟨dc, df⟩ := grown_cell (q := w.heap.size) hg (by simp [World.setCell] <;> omega) (by omega); have hG : w.grownBy w1 (some b) := grownBy_trans (grown_alloc (grown_alloc (grownBy_refl w (some b)) _) _) hg; have hz := hG.size; have hz2 : w.heap.size + 1 < w1.heap.size := (by have := hg.size; simp [World.setCell] at this; omega))
    | (go_at_call 91; clear y2; refine Calls.mono (HN _ _ (hs.kept ((Below.refl _ _).setCell (show _ ≤ w.heap.size + 1 by omega) _)) (hr.below ((Below.refl _ _).setCell (show _ ≤ w.heap.size + 1 by omega) _))).out ?_; rintro e w2 ⟨rfl, hs, hr, hg⟩; obtain ⟨cc, cf⟩ := grown_cell (q := w.heap.size + 1) hg (by simp [World.setCell] <;> omega) (by omega); obtain ⟨dc, df⟩ := grown_cell (q := w.heap.size) hg (by simp [World.setCell] <;> omega) (by omega); have hG : w.grownBy w2 (some b) := grownBy_trans (grown_setNew hG (w.heap.size + 1) _ _ (by omega)) hg; have hz := hG.size; have hz2 : w.heap.size + 1 < w2.heap.size := (by have := hg.size; simp [World.setCell] at this; omega))
    | (go_at_call 91; clear y3; refine Calls.mono (HN _ _ (hs.kept ((Below.refl _ _).setCell (show _ ≤ w.heap.size + 1 by omega) _)) (hr.below ((Below.refl _ _).setCell (show _ ≤ w.heap.size + 1 by omega) _))).out ?_; rintro e w3 ⟨rfl, hs, hr, hg⟩; obtain ⟨cc, cf⟩ := grown_cell (q := w.heap.size + 1) hg (by simp [World.setCell] <;> omega) (by omega); obtain ⟨dc, df⟩ := grown_cell (q := w.heap.size) hg (by simp [World.setCell] <;> omega) (by omega); have hG : w.grownBy w3 (some b) := grownBy_trans (grown_setNew hG (w.heap.size + 1) _ _ (by omega)) hg; have hz := hG.size; have hz2 : w.heap.size + 1 < w3.heap.size := (by have := hg.size; simp [World.setCell] at this; omega))
    | (go_at_call 91; clear y4; refine Calls.mono (HN _ _ (hs.kept ((Below.refl _ _).setCell (show _ ≤ w.heap.size + 1 by omega) _)) (hr.below ((Below.refl _ _).setCell (show _ ≤ w.heap.size + 1 by omega) _))).out ?_; rintro e w4 ⟨rfl, hs, hr, hg⟩; obtain ⟨cc, cf⟩ := grown_cell (q := w.heap.size + 1) hg (by simp [World.setCell] <;> omega) (by omega); obtain ⟨dc, df⟩ := grown_cell (q := w.heap.size) hg (by simp [World.setCell] <;> omega) (by omega); have hG : w.grownBy w4 (some b) := grownBy_trans (grown_setNew hG (w.heap.size + 1) _ _ (by omega)) hg; have hz := hG.size; have hz2 : w.heap.size + 1 < w4.heap.size := (by have := hg.size; simp [World.setCell] at this; omega))
    | (go_at_call 92; clear y5; refine Calls.mono (HT _ _ (hs.kept ((Below.refl _ _).setCell (show _ ≤ w.heap.size + 1 by omega) _)) (hr.below ((Below.refl _ _).setCell (show _ ≤ w.heap.size + 1 by omega) _))).out ?_; rintro e w5 ⟨rfl, hs, hr, hg⟩; obtain ⟨cc, cf⟩ := grown_cell (q := w.heap.size + 1) hg (by simp [World.setCell] <;> omega) (by omega); obtain ⟨dc, df⟩ := grown_cell (q := w.heap.size) hg (by simp [World.setCell] <;> omega) (by omega); have hG : w.grownBy w5 (some b) := grownBy_trans (grown_setNew hG (w.heap.size + 1) _ _ (by omega)) hg; have hz := hG.size; have hz2 : w.heap.size + 1 < w5.heap.size := (by have := hg.size; simp [World.setCell] at this; omega))
    | (go_at_call 91; clear y6; refine Calls.mono (HN _ _ (hs.kept ((Below.refl _ _).setCell (show _ ≤ w.heap.size + 1 by omega) _)) (hr.below ((Below.refl _ _).setCell (show _ ≤ w.heap.size + 1 by omega) _))).out ?_; rintro e w6 ⟨rfl, hs, hr, hg⟩; obtain ⟨cc, cf⟩ := grown_cell (q := w.heap.size + 1) hg (by simp [World.setCell] <;> omega) (by omega); obtain ⟨dc, df⟩ := grown_cell (q := w.heap.size) hg (by simp [World.setCell] <;> omega) (by omega); have hG : w.grownBy w6 (some b) := grownBy_trans (grown_setNew hG (w.heap.size + 1) _ _ (by omega)) hg; have hz := hG.size; have hz2 : w.heap.size + 1 < w6.heap.size := (by have := hg.size; simp [World.setCell] at this; omega)))
  exact bodyPost_ret (v := repV (rdReply st)) (by simp [results, Tryz.results80, go_sem, repV, rdReply, *]) rfl ⟨rfl, hr.below ((((((((Below.refl _ _).setCell (show _ ≤ w.heap.size + 1 by omega) _).setCell (show _ ≤ w.heap.size by omega) _).setCell (show _ ≤ w.heap.size by omega) _).setCell (show _ ≤ w.heap.size by omega) _).setCell (show _ ≤ w.heap.size by omega) _).setCell (show _ ≤ w.heap.size by omega) _).setCell (show _ ≤ w.heap.size by omega) _), grown_setNew (grown_setNew (grown_setNew (grown_setNew (grown_setNew (grown_setNew (grown_setNew hG (w.heap.size + 1) _ _ (by omega)) w.heap.size _ _ (by omega)) w.heap.size _ _ (by omega)) w.heap.size _ _ (by omega)) w.heap.size _ _ (by omega)) w.heap.size _ _ (by omega)) w.heap.size _ _ (by omega)⟩
end Go.Proofs.YtafmjckpbcijoaaGreatDoor

/-
  impl.reader: cmd.
-/
namespace Go.Proofs.YtafmjckpbcijoaaGreatDoor
open Go.RowKit
set_option linter.unusedVariables false
set_option linter.unusedSimpArgs false

/-- what a command reads as, and what is left -/
structure CmdR where
  cl : Nat
  sq : Nat
  op : Nat
  k : ByteArray
  v : ByteArray
  o : ByteArray
  left : RSt

def rdCmd (s : RSt) : CmdR :=
  let a := rdNum s
  let b := rdNum a.2
  let c := rdNum b.2
  let d := rdText c.2
  let e := rdText d.2
  let f := rdText e.2
  ⟨a.1, b.1, c.1, d.1, e.1, f.1, f.2⟩

def cmdV (r : CmdR) : Value := .agg #[.int .i64 (r.cl : Nat), .int .i64 (r.sq : Nat), .int .i64 (r.op : Nat), .string r.k, .string r.v, .string r.o]

theorem rdCmd_k (s : RSt) : (rdCmd s).k.size ≤ 64 := rdText_size _
theorem rdCmd_v (s : RSt) : (rdCmd s).v.size ≤ 64 := rdText_size _
theorem rdCmd_o (s : RSt) : (rdCmd s).o.size ≤ 64 := rdText_size _

set_option maxHeartbeats 4000000 in
set_option maxRecDepth 100000 in
theorem cmd_any (b : Nat) (w : World) (A : Nat → Addr) (B D : Nat) (st : RSt) (hs : Sents w A B) (h : Rd w b A B D st) :
    Calls Tryz.prog 79 #[.pointer (some ⟨b, 0, none⟩)] w fun e w' => e = .returned (cmdV (rdCmd st)) ∧ Rd w' b A B D (rdCmd st).left ∧ w.grownBy w' (some b) := by
  have HN : ∀ w st, Sents w A B → Rd w b A B D st → Hid (Calls Tryz.prog 91 #[.pointer (some ⟨b, 0, none⟩)] w fun e w' => e = .returned (.int .i64 ((rdNum st).1 : Nat)) ∧ Sents w' A B ∧ Rd w' b A B D (rdNum st).2 ∧ w.grownBy w' (some b)) := fun w st hs h => number_s b w A B D st hs h
  have HT : ∀ w st, Sents w A B → Rd w b A B D st → Hid (Calls Tryz.prog 92 #[.pointer (some ⟨b, 0, none⟩)] w fun e w' => e = .returned (.string (rdText st).1) ∧ Sents w' A B ∧ Rd w' b A B D (rdText st).2 ∧ w.grownBy w' (some b)) := fun w st hs h => text_s b w A B D st hs h
  have hB0 := h.1
  have hbD := h.2.1
  have hDw := h.2.2.1
  have HR : Hid (Rd w b A B D st) := h
  have HS : Hid (Sents w A B) := hs
  clear h hs
  have y1 : True := trivial
  have y2 : True := trivial
  have y3 : True := trivial
  have y4 : True := trivial
  have y5 : True := trivial
  have y6 : True := trivial
  go_enter Tryz.func79, Tryz.ntmps79
  go_wp2_with (first
    | (go_at_call 91; clear y1; refine Calls.mono (HN _ _ (HS.out.kept (((Below.refl _ _).alloc (by omega) _).alloc (by simp; omega) _)) (HR.out.below (((Below.refl _ _).alloc (by omega) _).alloc (by simp; omega) _))).out ?_; rintro e w1 ⟨rfl, hs, hr, hg⟩; obtain ⟨cc, cf⟩ := grown_cell (q := w.heap.size + 1) hg (by simp [World.setCell] <;> omega) (by omega); obtain ⟨dc, df⟩ := grown_cell (q := w.heap.size) hg (by simp [World.setCell] <;> omega) (by omega); have hG : w.grownBy w1 (some b) := grownBy_trans (grown_alloc (grown_alloc (grownBy_refl w (some b)) _) _) hg; have hz := hG.size; have hz2 : w.heap.size + 1 < w1.heap.size := (by have := hg.size; simp [World.setCell] at this; omega))
    | (go_at_call 91; clear y2; refine Calls.mono (HN _ _ (hs.kept ((Below.refl _ _).setCell (show _ ≤ w.heap.size + 1 by omega) _)) (hr.below ((Below.refl _ _).setCell (show _ ≤ w.heap.size + 1 by omega) _))).out ?_; rintro e w2 ⟨rfl, hs, hr, hg⟩; obtain ⟨cc, cf⟩ := grown_cell (q := w.heap.size + 1) hg (by simp [World.setCell] <;> omega) (by omega); obtain ⟨dc, df⟩ := grown_cell (q := w.heap.size) hg (by simp [World.setCell] <;> omega) (by omega); have hG : w.grownBy w2 (some b) := grownBy_trans (grown_setNew hG (w.heap.size + 1) _ _ (by omega)) hg; have hz := hG.size; have hz2 : w.heap.size + 1 < w2.heap.size := (by have := hg.size; simp [World.setCell] at this; omega))
    | (go_at_call 91; clear y3; refine Calls.mono (HN _ _ (hs.kept ((Below.refl _ _).setCell (show _ ≤ w.heap.size + 1 by omega) _)) (hr.below ((Below.refl _ _).setCell (show _ ≤ w.heap.size + 1 by omega) _))).out ?_; rintro e w3 ⟨rfl, hs, hr, hg⟩; obtain ⟨cc, cf⟩ := grown_cell (q := w.heap.size + 1) hg (by simp [World.setCell] <;> omega) (by omega); obtain ⟨dc, df⟩ := grown_cell (q := w.heap.size) hg (by simp [World.setCell] <;> omega) (by omega); have hG : w.grownBy w3 (some b) := grownBy_trans (grown_setNew hG (w.heap.size + 1) _ _ (by omega)) hg; have hz := hG.size; have hz2 : w.heap.size + 1 < w3.heap.size := (by have := hg.size; simp [World.setCell] at this; omega))
    | (go_at_call 92; clear y4; refine Calls.mono (HT _ _ (hs.kept ((Below.refl _ _).setCell (show _ ≤ w.heap.size + 1 by omega) _)) (hr.below ((Below.refl _ _).setCell (show _ ≤ w.heap.size + 1 by omega) _))).out ?_; rintro e w4 ⟨rfl, hs, hr, hg⟩; obtain ⟨cc, cf⟩ := grown_cell (q := w.heap.size + 1) hg (by simp [World.setCell] <;> omega) (by omega); obtain ⟨dc, df⟩ := grown_cell (q := w.heap.size) hg (by simp [World.setCell] <;> omega) (by omega); have hG : w.grownBy w4 (some b) := grownBy_trans (grown_setNew hG (w.heap.size + 1) _ _ (by omega)) hg; have hz := hG.size; have hz2 : w.heap.size + 1 < w4.heap.size := (by have := hg.size; simp [World.setCell] at this; omega))
    | (go_at_call 92; clear y5; refine Calls.mono (HT _ _ (hs.kept ((Below.refl _ _).setCell (show _ ≤ w.heap.size + 1 by omega) _)) (hr.below ((Below.refl _ _).setCell (show _ ≤ w.heap.size + 1 by omega) _))).out ?_; rintro e w5 ⟨rfl, hs, hr, hg⟩; obtain ⟨cc, cf⟩ := grown_cell (q := w.heap.size + 1) hg (by simp [World.setCell] <;> omega) (by omega); obtain ⟨dc, df⟩ := grown_cell (q := w.heap.size) hg (by simp [World.setCell] <;> omega) (by omega); have hG : w.grownBy w5 (some b) := grownBy_trans (grown_setNew hG (w.heap.size + 1) _ _ (by omega)) hg; have hz := hG.size; have hz2 : w.heap.size + 1 < w5.heap.size := (by have := hg.size; simp [World.setCell] at this; omega))
    | (go_at_call 92; clear y6; refine Calls.mono (HT _ _ (hs.kept ((Below.refl _ _).setCell (show _ ≤ w.heap.size + 1 by omega) _)) (hr.below ((Below.refl _ _).setCell (show _ ≤ w.heap.size + 1 by omega) _))).out ?_; rintro e w6 ⟨rfl, hs, hr, hg⟩; obtain ⟨cc, cf⟩ := grown_cell (q := w.heap.size + 1) hg (by simp [World.setCell] <;> omega) (by omega); obtain ⟨dc, df⟩ := grown_cell (q := w.heap.size) hg (by simp [World.setCell] <;> omega) (by omega); have hG : w.grownBy w6 (some b) := grownBy_trans (grown_setNew hG (w.heap.size + 1) _ _ (by omega)) hg; have hz := hG.size; have hz2 : w.heap.size + 1 < w6.heap.size := (by have := hg.size; simp [World.setCell] at this; omega)))
  exact bodyPost_ret (v := cmdV (rdCmd st)) (by simp [results, Tryz.results79, go_sem, cmdV, rdCmd, *]) rfl ⟨rfl, hr.below ((((((((Below.refl _ _).setCell (show _ ≤ w.heap.size + 1 by omega) _).setCell (show _ ≤ w.heap.size by omega) _).setCell (show _ ≤ w.heap.size by omega) _).setCell (show _ ≤ w.heap.size by omega) _).setCell (show _ ≤ w.heap.size by omega) _).setCell (show _ ≤ w.heap.size by omega) _).setCell (show _ ≤ w.heap.size by omega) _), grown_setNew (grown_setNew (grown_setNew (grown_setNew (grown_setNew (grown_setNew (grown_setNew hG (w.heap.size + 1) _ _ (by omega)) w.heap.size _ _ (by omega)) w.heap.size _ _ (by omega)) w.heap.size _ _ (by omega)) w.heap.size _ _ (by omega)) w.heap.size _ _ (by omega)) w.heap.size _ _ (by omega)⟩
end Go.Proofs.YtafmjckpbcijoaaGreatDoor

/-
  impl.reader: entry, entries.
-/
namespace Go.Proofs.YtafmjckpbcijoaaGreatDoor
open Go.RowKit
set_option linter.unusedVariables false
set_option linter.unusedSimpArgs false

def rdEnt (s : RSt) : Ent × RSt := (⟨(rdNum s).1, (rdCmd (rdNum s).2).cl, (rdCmd (rdNum s).2).sq, (rdCmd (rdNum s).2).op, (rdCmd (rdNum s).2).k, (rdCmd (rdNum s).2).v, (rdCmd (rdNum s).2).o⟩, (rdCmd (rdNum s).2).left)
/-- k entries, one behind another -/
def entsK (s : RSt) : Nat → List Ent × RSt
  | 0 => ([], s)
  | k + 1 => ((entsK s k).1 ++ [(rdEnt (entsK s k).2).1], (rdEnt (entsK s k).2).2)
/-- a number of entries, and they -/
def rdEnts (s : RSt) : List Ent × RSt := if 32 < (rdNum s).1 then ([], none) else entsK (rdNum s).2 (rdNum s).1

theorem rdEnt_fits (s : RSt) : (rdEnt s).1.fits :=
  ⟨Nat.le_trans (rdCmd_k _) (by decide), Nat.le_trans (rdCmd_v _) (by decide), Nat.le_trans (rdCmd_o _) (by decide)⟩
theorem entsK_len (s : RSt) (k : Nat) : (entsK s k).1.length = k := by
  induction k with
  | zero => rfl
  | succ k ih => rw [entsK, List.length_append, ih]; rfl

theorem infoEntS : (Tryz.prog.info? 87).map (·.size) = some 7 := by kernel_rfl

theorem cmd_s (b : Nat) (w : World) (A : Nat → Addr) (B D : Nat) (st : RSt) (hs : Sents w A B) (h : Rd w b A B D st) :
    Calls Tryz.prog 79 #[.pointer (some ⟨b, 0, none⟩)] w fun e w' => e = .returned (cmdV (rdCmd st)) ∧ Sents w' A B ∧ Rd w' b A B D (rdCmd st).left ∧ w.grownBy w' (some b) :=
  (cmd_any b w A B D st hs h).mono fun e w' ⟨h1, h2, h3⟩ => ⟨h1, hs.kept (grown_below h3 h.1 hs.le), h2, h3⟩

theorem there_of_blockR {w w' : World} {b o n : Nat} (hb : w'.heap[b]? = w.heap[b]?) (h : w.there b o n) : w'.there b o n := fun j hj => by
  rw [World.cell?_of_block (w := w) hb, show w'.frozen? ⟨b, o + j, none⟩ = w.frozen? ⟨b, o + j, none⟩ by simp only [World.frozen?, hb]]
  exact h j hj

set_option maxHeartbeats 4000000 in
set_option maxRecDepth 100000 in
theorem entry_any (b : Nat) (w : World) (A : Nat → Addr) (B D : Nat) (st : RSt) (hs : Sents w A B) (h : Rd w b A B D st) :
    Calls Tryz.prog 96 #[.pointer (some ⟨b, 0, none⟩)] w fun e w' => e = .returned (.agg #[.int .i64 (rdEnt st).1.t, .int .i64 (rdEnt st).1.cl, .int .i64 (rdEnt st).1.sq, .int .i64 (rdEnt st).1.op, .string (rdEnt st).1.k, .string (rdEnt st).1.v, .string (rdEnt st).1.o]) ∧ Sents w' A B ∧ Rd w' b A B D (rdEnt st).2 ∧ w.grownBy w' (some b) := by
  have HN : ∀ w st, Sents w A B → Rd w b A B D st → Hid (Calls Tryz.prog 91 #[.pointer (some ⟨b, 0, none⟩)] w fun e w' => e = .returned (.int .i64 ((rdNum st).1 : Nat)) ∧ Sents w' A B ∧ Rd w' b A B D (rdNum st).2 ∧ w.grownBy w' (some b)) := fun w st hs h => number_s b w A B D st hs h
  have HC : ∀ w st, Sents w A B → Rd w b A B D st → Hid (Calls Tryz.prog 79 #[.pointer (some ⟨b, 0, none⟩)] w fun e w' => e = .returned (cmdV (rdCmd st)) ∧ Sents w' A B ∧ Rd w' b A B D (rdCmd st).left ∧ w.grownBy w' (some b)) := fun w st hs h => cmd_s b w A B D st hs h
  have hB0 := h.1
  have hbD := h.2.1
  have hDw := h.2.2.1
  have hT0 : (w.alloc (.cells #[.int .i64 0, .int .i64 0, .int .i64 0, .int .i64 0, .string ⟨#[]⟩, .string ⟨#[]⟩, .string ⟨#[]⟩] 87)).there w.heap.size 0 7 := fun j hj => by rw [Nat.zero_add]; simp [World.cell?_alloc_new, hj]
  have hr0 : Rd (w.alloc (.cells #[.int .i64 0, .int .i64 0, .int .i64 0, .int .i64 0, .string ⟨#[]⟩, .string ⟨#[]⟩, .string ⟨#[]⟩] 87)) b A B D st := h.below ((Below.refl _ _).alloc hDw _)
  have hs0 : Sents (w.alloc (.cells #[.int .i64 0, .int .i64 0, .int .i64 0, .int .i64 0, .string ⟨#[]⟩, .string ⟨#[]⟩, .string ⟨#[]⟩] 87)) A B := hs.below ((Below.refl _ _).alloc (Nat.le_refl _) _)
  have hle := hs.le
  clear h hs
  go_enter Tryz.func96, Tryz.ntmps96
  go_wp2_with (first
    | (go_at_call 91; refine Calls.mono (HN _ _ hs0 hr0).out ?_; rintro e w1 ⟨rfl, hs1, hr1, hg1⟩)
    | (go_at_call 79; refine Calls.mono (HC _ _ hs1 hr1).out ?_; unfold cmdV; rintro e w2 ⟨rfl, hs2, hr2, hg2⟩; have hG := grownBy_trans hg1 hg2; have hT2 := there_of_blockR (hG.block w.heap.size (by simp) (by intro e; injection e with e; omega)) hT0)
    | (refine gate_store 87 (.tmp 2) (.tmp 9) rfl ?_; refine wpList_store_mid rfl 87 (.tmp 2) (.tmp 9) rfl w.heap.size 0 #[.int .i64 (rdEnt st).1.t, .int .i64 (rdEnt st).1.cl, .int .i64 (rdEnt st).1.sq, .int .i64 (rdEnt st).1.op, .string (rdEnt st).1.k, .string (rdEnt st).1.v, .string (rdEnt st).1.o] rfl rfl hT2 infoEntS (by simp [Value.oneCell']) ?_; have hra4 := World.rangeAt_setCells_same _ w.heap.size 0 [.int .i64 (rdEnt st).1.t, .int .i64 (rdEnt st).1.cl, .int .i64 (rdEnt st).1.sq, .int .i64 (rdEnt st).1.op, .string (rdEnt st).1.k, .string (rdEnt st).1.v, .string (rdEnt st).1.o] hT2; have hld := run_loadVar_mid (P := Tryz.prog) _ w.heap.size 0 87 _ _ hra4 Tryz.underlying87 rfl infoEntS; have hB4 := below_setCells (Nat.le_refl w.heap.size) [.int .i64 (rdEnt st).1.t, .int .i64 (rdEnt st).1.cl, .int .i64 (rdEnt st).1.sq, .int .i64 (rdEnt st).1.op, .string (rdEnt st).1.k, .string (rdEnt st).1.v, .string (rdEnt st).1.o] 0 _ (Below.refl w.heap.size w2); clear hra4; generalize (World.setCells _ w.heap.size 0 _) = W4 at hld hB4 ⊢))
  have hGw := grownBy_trans (grown_alloc (grownBy_refl w (some b)) (.cells #[.int .i64 0, .int .i64 0, .int .i64 0, .int .i64 0, .string ⟨#[]⟩, .string ⟨#[]⟩, .string ⟨#[]⟩] 87)) hG
  refine bodyPost_ret (v := .agg #[.int .i64 (rdEnt st).1.t, .int .i64 (rdEnt st).1.cl, .int .i64 (rdEnt st).1.sq, .int .i64 (rdEnt st).1.op, .string (rdEnt st).1.k, .string (rdEnt st).1.v, .string (rdEnt st).1.o]) ?_ rfl ⟨rfl, hs2.kept (hB4.mono hle), hr2.below (hB4.mono hDw), ⟨hB4.os.trans hGw.os, hB4.tape.trans hGw.tape, hB4.output.trans hGw.output, Nat.le_trans hGw.size hB4.size, fun k hk hne => (hB4.block k hk).trans (hGw.block k hk hne)⟩⟩
  exact results_cell Tryz.results96 rfl hld

theorem grown_then {w w1 w2 : World} {row : Option Nat} (h : w.grownBy w1 row) (hb : Below w.heap.size w1 w2) : w.grownBy w2 row :=
  ⟨hb.os.trans h.os, hb.tape.trans h.tape, hb.output.trans h.output, Nat.le_trans h.size hb.size, fun k hk hne => (hb.block k hk).trans (h.block k hk hne)⟩
end Go.Proofs.YtafmjckpbcijoaaGreatDoor
