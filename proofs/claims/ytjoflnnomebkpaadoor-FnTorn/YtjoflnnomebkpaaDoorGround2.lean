import Derived.Test.YtjoflnnomebkpaaDoorGround
import Derived.BigQuiet
import Derived.Deep.QuietTactic
import Derived.Lib.SliceRun
import Derived.Deep.RegionHeld3
import Derived.Deep.RegionWith
/-
  FnTorn, plain: what each beginning of a plan leaves.
-/
namespace Go.Proofs.YtjoflnnomebkpaaDoor
open Go.RowKit
set_option linter.unusedVariables false
set_option linter.unusedSimpArgs false

theorem okS_append : ∀ (a b : List Rec) (s : Stt), okS s (a ++ b) = (okS s a && okS (a.foldl thenS s) b)
  | [], b, s => by simp [okS]
  | r :: a, b, s => by
    rw [List.cons_append, okS, okS, okS_append a b (thenS s r), List.foldl_cons, Bool.and_assoc, Bool.and_assoc]
theorem okS_mem : ∀ (rs : List Rec) (s : Stt), okS s rs = true → ∀ r ∈ rs, recB r = true
  | [], s, _, r, hr => by cases hr
  | q :: rs, s, h, r, hr => by
    simp only [okS, Bool.and_eq_true] at h
    rcases List.mem_cons.1 hr with e | e
    · rw [e]; exact h.1
    · exact okS_mem rs _ h.2.2 r e
theorem okS_take {s : Stt} {rs : List Rec} (h : okS s rs = true) (j : Nat) : okS s (rs.take j) = true := by
  have h1 := okS_append (rs.take j) (rs.drop j) s
  rw [List.take_append_drop, h] at h1
  have := (Bool.and_eq_true_iff.1 h1.symm).1
  exact this
theorem entEqB_eq (a b : Ent) : entEqB a b = true ↔ a = b := by
  obtain ⟨t, cl, sq, op, k, v, o⟩ := a
  obtain ⟨t', cl', sq', op', k', v', o'⟩ := b
  simp only [entEqB, Bool.and_eq_true, beq_iff_eq, cmdEqB_iff, Ent.mk.injEq]
theorem comK_take : ∀ (l l' : List Ent), l.take (comK l l') = l'.take (comK l l')
  | [], l' => by simp [comK]
  | a :: l, [] => by simp [comK]
  | a :: l, b :: l' => by
    unfold comK
    split
    · next h =>
      rw [List.take_succ_cons, List.take_succ_cons, (entEqB_eq a b).1 h, comK_take l l']
    · simp
theorem comK_pre : ∀ (l l' : List Ent), comK l (l ++ l') = l.length
  | [], l' => by simp [comK]
  | a :: l, l' => by
    rw [List.cons_append, comK, if_pos ((entEqB_eq a a).2 rfl), comK_pre l l']
    rfl
theorem comK_self (l : List Ent) : comK l l = l.length := by
  have := comK_pre l []
  rwa [List.append_nil] at this
theorem comK_of_take (l : List Ent) (m : Nat) : comK (l.take m) l = (l.take m).length := by
  have := comK_pre (l.take m) (l.drop m)
  rwa [List.take_append_drop] at this
theorem lastT_cons (d : Int) (e : Ent) (l : List Ent) : lastT d (e :: l) = lastT e.t l := by
  unfold lastT
  cases l with
  | nil => simp
  | cons a l => simp
theorem fitL_append (high : Int) : ∀ (a b : List Ent) (low : Int), fitL high low (a ++ b) = (fitL high low a && fitL high (lastT low a) b)
  | [], b, low => by simp [fitL, lastT]
  | e :: a, b, low => by
    rw [List.cons_append, fitL, fitL, fitL_append high a b e.t, lastT_cons]
    simp only [Bool.and_assoc]
theorem addsL_take : ∀ (es : List Ent) (n i : Nat), (addsL n es).take i = addsL n (es.take i)
  | [], n, i => by simp [addsL]
  | e :: es, n, 0 => by simp [addsL]
  | e :: es, n, i + 1 => by rw [addsL, List.take_succ_cons, List.take_succ_cons, addsL, addsL_take es (n + 1) i]
theorem planC_zero {t v t' v' : Int} {l l' : List Ent} (h : planC t v l t' v' l' = 0) : stB t v l = true ∧ stB t' v' l' = true ∧ folB t v t' v' = true := by
  unfold planC at h
  split at h
  · cases h
  split at h
  · cases h
  split at h
  · cases h
  next a b c => exact ⟨by simpa using a, by simpa using b, by simpa using c⟩
theorem zeroE_no : noEntB zeroE = true := (noEnt_iff zeroE).2 rfl
/-- the plan's records: the term and the vote -/
theorem hard_ok {t v t' v' : Int} {l l' : List Ent} (h1 : stB t v l = true) (h2 : stB t' v' l' = true) (h3 : folB t v t' v' = true) :
    okS ⟨t, v, l⟩ (hardL t v t' v') = true ∧ (hardL t v t' v').foldl thenS ⟨t, v, l⟩ = ⟨t', v', l⟩ := by
  unfold hardL
  cases hd : difB t v t' v'
  · simp only [difB, Bool.or_eq_false_iff, bne_eq_false_iff_eq] at hd
    obtain ⟨rfl, rfl⟩ := hd
    exact ⟨rfl, rfl⟩
  · simp only [stB, Bool.and_eq_true] at h2
    have hr : recB ⟨1, t', v', 0, zeroE⟩ = true := by
      have : hardB ⟨1, t', v', 0, zeroE⟩ = true := h2.1
      simp [recB, zeroE_no, this]
    have hf : fitsB ⟨t, v, l⟩ ⟨1, t', v', 0, zeroE⟩ = true := by
      unfold folB at h3
      unfold fitsB
      simp only [if_true]
      split at h3
      · next e => subst e; simp only [beq_self_eq_true, Bool.true_and, h3, Bool.or_true]
      · simp only [h3, Bool.true_or]
    have ht : thenS ⟨t, v, l⟩ ⟨1, t', v', 0, zeroE⟩ = ⟨t', v', l⟩ := by simp [thenS]
    rw [if_pos rfl]
    refine ⟨?_, ?_⟩
    · rw [okS, hr, hf, okS]; rfl
    · rw [List.foldl_cons, List.foldl_nil, ht]
theorem cut_ok {t v : Int} {l l' : List Ent} (hl : l.length ≤ 4096) :
    okS ⟨t, v, l⟩ (cutL l l') = true ∧ (cutL l l').foldl thenS ⟨t, v, l⟩ = ⟨t, v, l'.take (comK l l')⟩ := by
  have hk := comK_le l l'
  have hT := comK_take l l'
  unfold cutL
  by_cases h : comK l l' < l.length
  · rw [if_pos h]
    have hr : recB ⟨3, 0, 0, (comK l l' : Nat), zeroE⟩ = true := by
      simp [recB, zeroE_no, inB]
      omega
    have hf : fitsB ⟨t, v, l⟩ ⟨3, 0, 0, (comK l l' : Nat), zeroE⟩ = true := by
      simp [fitsB]
      omega
    have ht : thenS ⟨t, v, l⟩ ⟨3, 0, 0, (comK l l' : Nat), zeroE⟩ = ⟨t, v, l'.take (comK l l')⟩ := by
      simp [thenS, hT]
    refine ⟨?_, ?_⟩
    · rw [okS, hr, hf, okS]; rfl
    · rw [List.foldl_cons, List.foldl_nil, ht]
  · rw [if_neg h]
    have e : comK l l' = l.length := by omega
    refine ⟨rfl, ?_⟩
    rw [List.foldl_nil, ← hT, e, List.take_length]
theorem addsP_ok {t v : Int} {l' : List Ent} (k : Nat) (hk : k ≤ l'.length) (hl : l'.length ≤ 4096) (hf : fitL t 1 l' = true) :
    okS ⟨t, v, l'.take k⟩ (addsL k (l'.drop k)) = true ∧ ∀ i, ((addsL k (l'.drop k)).take i).foldl thenS ⟨t, v, l'.take k⟩ = ⟨t, v, l'.take (k + i)⟩ := by
  have hlen : (l'.take k).length = k := by rw [List.length_take]; omega
  have hf2 : fitL t (lastT 1 (l'.take k)) (l'.drop k) = true := by
    have := fitL_append t (l'.take k) (l'.drop k) 1
    rw [List.take_append_drop, hf] at this
    exact (Bool.and_eq_true_iff.1 this.symm).2
  have h1 := adds_ok (l'.drop k) (l'.take k) t v (by rw [hlen, List.length_drop]; omega) hf2
  rw [hlen] at h1
  refine ⟨h1.1, fun i => ?_⟩
  have hf3 : fitL t (lastT 1 (l'.take k)) ((l'.drop k).take i) = true := by
    have := fitL_append t ((l'.drop k).take i) ((l'.drop k).drop i) (lastT 1 (l'.take k))
    rw [List.take_append_drop, hf2] at this
    exact (Bool.and_eq_true_iff.1 this.symm).1
  have h2 := adds_ok ((l'.drop k).take i) (l'.take k) t v (by rw [hlen, List.length_take, List.length_drop]; omega) hf3
  rw [hlen] at h2
  rw [addsL_take, h2.2, List.take_add]
/-- a plan fits behind the old state and leads to the new one -/
theorem plan_ok {t v t' v' : Int} {l l' : List Ent} (h : planC t v l t' v' l' = 0) :
    okS ⟨t, v, l⟩ (planAll t v l t' v' l') = true ∧ (planAll t v l t' v' l').foldl thenS ⟨t, v, l⟩ = ⟨t', v', l'⟩ := by
  obtain ⟨h1, h2, h3⟩ := planC_zero h
  have hH := hard_ok h1 h2 h3
  have hC := cut_ok (t := t') (v := v') (l := l) (l' := l') (stB_len h1)
  have hf : fitL t' 1 l' = true := by simp only [stB, Bool.and_eq_true] at h2; exact h2.2.2
  have hA := addsP_ok (t := t') (v := v') (comK l l') (comK_le l l').2 (stB_len h2) hf
  have hA2 := hA.2 (addsL (comK l l') (l'.drop (comK l l'))).length
  have hfull : l'.take (comK l l' + (l'.length - comK l l')) = l' := List.take_of_length_le (by omega)
  rw [List.take_length, addsL_len, List.length_drop, hfull] at hA2
  unfold planAll
  refine ⟨?_, ?_⟩
  · rw [okS_append, okS_append, List.foldl_append, hH.1, hH.2, hC.1, hC.2, hA.1]; rfl
  · rw [List.foldl_append, List.foldl_append, hH.2, hC.2, hA2]
/-- what stands after a beginning of the plan -/
theorem plan_part {t v t' v' : Int} {l l' : List Ent} (h : planC t v l t' v' l' = 0) (j : Nat) :
    ∃ a b L, ((planAll t v l t' v' l').take j).foldl thenS ⟨t, v, l⟩ = ⟨a, b, L⟩ ∧ ((a = t ∧ b = v) ∨ (a = t' ∧ b = v')) ∧ (L = l ∨ (comK L l' = L.length ∧ comK l l' ≤ L.length)) := by
  obtain ⟨h1, h2, h3⟩ := planC_zero h
  have hH := hard_ok h1 h2 h3
  have hC := cut_ok (t := t') (v := v') (l := l) (l' := l') (stB_len h1)
  have hf : fitL t' 1 l' = true := by simp only [stB, Bool.and_eq_true] at h2; exact h2.2.2
  have hA := addsP_ok (t := t') (v := v') (comK l l') (comK_le l l').2 (stB_len h2) hf
  have hk := (comK_le l l').2
  have lH := hardL_len t v t' v'
  have lC := cutL_len l l'
  unfold planAll
  rw [List.append_assoc, List.take_append, List.take_append]
  by_cases c1 : j < (hardL t v t' v').length
  · have e0 : j = 0 := by omega
    subst e0
    exact ⟨t, v, l, by simp, .inl ⟨rfl, rfl⟩, .inl rfl⟩
  · rw [List.take_of_length_le (by omega), List.foldl_append, hH.2]
    by_cases c2 : j - (hardL t v t' v').length < (cutL l l').length
    · have e0 : j - (hardL t v t' v').length = 0 := by omega
      rw [e0]
      exact ⟨t', v', l, by simp, .inr ⟨rfl, rfl⟩, .inl rfl⟩
    · rw [List.take_of_length_le (by omega), List.foldl_append, hC.2, hA.2]
      refine ⟨t', v', _, rfl, .inr ⟨rfl, rfl⟩, .inr ⟨comK_of_take l' _, ?_⟩⟩
      rw [List.length_take]
      omega
theorem plan_first {t v : Int} {l : List Ent} (h : stB t v l = true) : planC 0 0 [] t v l = 0 := by
  have h0 : stB 0 0 [] = true := by decide
  have hf : folB 0 0 t v = true := by
    simp only [stB, hardOk, Bool.and_eq_true, inB_iff] at h
    unfold folB
    split
    · simp
    · simp; omega
  unfold planC
  rw [h0, h, hf]
  simp
theorem framesL_le : ∀ (rs : List Rec), (∀ r ∈ rs, recB r = true) → (framesL rs).length ≤ 408 * rs.length
  | [], _ => by simp [framesL]
  | r :: rs, h => by
    have ih := framesL_le rs (fun x hx => h x (List.mem_cons_of_mem _ hx))
    have hl := (recL_len (h r (List.mem_cons_self ..))).2.2
    have hF : framesL (r :: rs) = frameL (recL r) ++ framesL rs := by simp [framesL]
    rw [hF, List.length_append, List.length_cons]
    omega
theorem framesL_append (a b : List Rec) : framesL (a ++ b) = framesL a ++ framesL b := by simp [framesL]
theorem planAll_len (t v : Int) (l : List Ent) (t' v' : Int) (l' : List Ent) : (planAll t v l t' v' l').length ≤ l'.length + 2 := by
  have lH := hardL_len t v t' v'
  have lC := cutL_len l l'
  unfold planAll
  simp only [List.length_append, addsL_len, List.length_drop]
  omega
/-- FnTorn: the disk that holds the old state's journal and so many bytes of the plan's -/
theorem torn_any {t v t' v' : Int} {l l' : List Ent} (h : planC t v l t' v' l' = 0) (m : Nat) :
    ∃ a b L, (rcv (framesL (planAll 0 0 [] t v l) ++ (framesL (planAll t v l t' v' l')).take m)).2.2.2 = ⟨a, b, L⟩ ∧ ((a = t ∧ b = v) ∨ (a = t' ∧ b = v')) ∧ (L = l ∨ (comK L l' = L.length ∧ comK l l' ≤ L.length)) ∧
      (framesL (planAll 0 0 [] t v l)).length ≤ (rcv (framesL (planAll 0 0 [] t v l) ++ (framesL (planAll t v l t' v' l')).take m)).2.1 ∧ ((framesL (planAll t v l t' v' l')).length ≤ m → a = t' ∧ b = v' ∧ L = l') := by
  have hst := (planC_zero h).1
  have hF := plan_ok (plan_first hst)
  have hP := plan_ok h
  obtain ⟨j, tl, hj, e1, e2, e3⟩ := take_frames (planAll t v l t' v' l') m (okS_mem _ _ hP.1)
  have hok : okS ⟨0, 0, []⟩ (planAll 0 0 [] t v l ++ (planAll t v l t' v' l').take j) = true := by
    rw [okS_append, hF.1, hF.2, okS_take hP.1 j]; rfl
  have hr := rcv_tail _ tl hok e2
  rw [framesL_append, List.append_assoc, ← e1, List.foldl_append, hF.2] at hr
  obtain ⟨a, b, L, f1, f2, f3⟩ := plan_part h j
  refine ⟨a, b, L, by rw [hr.2, f1], f2, f3, by rw [hr.1, List.length_append]; omega, fun hm => ?_⟩
  obtain ⟨ej, _⟩ := e3 hm
  rw [ej, List.take_length, hP.2] at f1
  injection f1 with x y z
  exact ⟨x.symm, y.symm, z.symm⟩
end Go.Proofs.YtjoflnnomebkpaaDoor

/-
  laws.common, laws.sameLog.
-/
namespace Go.Proofs.YtjoflnnomebkpaaDoor
open Go.RowKit
set_option linter.unusedVariables false
set_option linter.unusedSimpArgs false

def sameB (l l' : List Ent) : Bool := l.length == l'.length && comK l l' == l.length
theorem sameB_self (l : List Ent) : sameB l l = true := by simp [sameB, comK_self]
set_option maxHeartbeats 8000000 in
set_option maxRecDepth 100000 in
theorem common_any (v u : Value) (l l' : List Ent) (w : World) (hv : Es w v l) (hu : Es w u l') (hll : l.length ≤ 1048576) (hll' : l'.length ≤ 1048576) :
    Calls Tryd.prog 19 #[v, u] w fun e w' => e = .returned (.int .i64 (comK l l' : Nat)) ∧ ∃ n, w' = w.drewN n := by
  obtain ⟨hl, hf, a, cap, rfl, hc⟩ := hv
  obtain ⟨hl', hf', a', cap', rfl, hc'⟩ := hu
  go_enter Tryd.func19, Tryd.ntmps19
  go_wp2
  go_loopw [5] (fun i wr => ∃ k : Nat, k ≤ l.length ∧ k ≤ l'.length ∧ i = .int .i64 k ∧ comK l l' = k + comK (l.drop k) (l'.drop k) ∧ ∃ n, wr = w.drewN n) (fun i _ => l.length - (intOf i).toNat)
  case atStart => exact ⟨0, Nat.zero_le _, Nat.zero_le _, rfl, by simp, 0, rfl⟩
  case round =>
    obtain ⟨k, hk, hk', rfl, hcom, nd, rfl⟩ := hrel
    have HC : Hid (comK l l' = k + comK (l.drop k) (l'.drop k)) := hcom
    clear hcom
    by_cases hlt : k < l.length ∧ k < l'.length
    · obtain ⟨hlt, hlt'⟩ := hlt
      obtain ⟨b, off, rfl, hj⟩ := hc k hlt
      obtain ⟨b', off', rfl, hj'⟩ := hc' k hlt'
      obtain ⟨c0, c1, c2, c3, c4, c5, c6⟩ := hj k hlt
      obtain ⟨d0, d1, d2, d3, d4, d5, d6⟩ := hj' k hlt'
      have HS : Hid (comK (l.drop k) (l'.drop k) = if entEqB l[k] l'[k] then comK (l.drop (k + 1)) (l'.drop (k + 1)) + 1 else 0) := comK_step l l' k hlt hlt'
      clear hc hj hc' hj'
      generalize l[k] = e at *
      generalize l'[k] = e' at *
      have hE : ∀ u : World, (Op.equalIn 10000 92 (.agg #[.int .i64 e.t, .int .i64 e.cl, .int .i64 e.sq, .int .i64 e.op, .string e.k, .string e.v, .string e.o]) (.agg #[.int .i64 e'.t, .int .i64 e'.cl, .int .i64 e'.sq, .int .i64 e'.op, .string e'.k, .string e'.v, .string e'.o])).run Tryd.prog u = .ok (entEqB e e') u := fun u => eqEnt_run 9997 e e' u
      cases hq : entEqB e e'
      · rw [hq] at hE HS
        go_wp2
        go_quiet (fail)
        go_wp2
        go_ret
        exact ⟨by rw [HC.out, HS.out]; simp, nd + nq, by rw [World.drewN_drewN]⟩
      · rw [hq] at hE HS
        go_wp2
        go_quiet (fail)
        go_wp2
        go_roundw
        case rel => exact ⟨k + 1, by omega, by omega, by go_num, by rw [HC.out, HS.out]; simp; omega, _, rfl⟩
        case measure => simp [intOf]; omega
    · have hend : Hid (comK (l.drop k) (l'.drop k) = 0) := comK_end l l' k hlt
      by_cases hs : k < l.length
      · have hk2 : ¬ k < l'.length := by omega
        go_wp2
        go_quiet (fail)
        go_wp2
        go_ret
        exact ⟨by rw [HC.out, hend.out]; simp, nd + nq, by rw [World.drewN_drewN]⟩
      · go_wp2
        go_quiet (fail)
        go_wp2
        go_ret
        exact ⟨by rw [HC.out, hend.out]; simp, nd + nq, by rw [World.drewN_drewN]⟩
set_option maxHeartbeats 8000000 in
set_option maxRecDepth 100000 in
theorem sameLog_any (v u : Value) (l l' : List Ent) (w : World) (hv : Es w v l) (hu : Es w u l') (hll : l.length ≤ 1048576) (hll' : l'.length ≤ 1048576) :
    Calls Tryd.prog 21 #[v, u] w fun e w' => e = .returned (.bool (sameB l l')) ∧ ∃ n, w' = w.drewN n := by
  have hc0 := common_any v u l l' w hv hu hll hll'
  obtain ⟨hl, hf, a, cap, rfl, hc⟩ := hv
  obtain ⟨hl', hf', a', cap', rfl, hc'⟩ := hu
  unfold maxLen at hl hl'
  clear hc hc' hf hf'
  have hS : sameB l l' = (l.length == l'.length && comK l l' == l.length) := rfl
  generalize sameB l l' = S at *
  generalize comK l l' = K at *
  generalize l.length = n at *
  generalize l'.length = n' at *
  have HC : Hid (Calls Tryd.prog 19 #[.slice a n cap, .slice a' n' cap'] w fun e w' => e = .returned (.int .i64 (K : Nat)) ∧ ∃ n, w' = w.drewN n) := hc0
  have HS : Hid (S = (n == n' && K == n)) := hS
  clear hc0 hS
  by_cases h : n = n'
  · subst h
    have hs : S = ((K : Int) == (n : Int)) := by
      rw [HS.out, beq_self_eq_true, Bool.true_and]
      by_cases hh : K = n
      · simp [hh]
      · rw [beq_eq_false_iff_ne.2 hh, eq_comm, beq_eq_false_iff_ne]; omega
    have Hs : Hid (S = ((K : Int) == (n : Int))) := hs
    clear hs
    go_enter Tryd.func21, Tryd.ntmps21
    go_wp2_with (go_at_call 19; refine HC.out.mono ?_; rintro e w1 ⟨rfl, nd, rfl⟩)
    go_ret
    exact ⟨by rw [Hs.out]; rfl, _, rfl⟩
  · have hd : ((n : Int) == (n' : Int)) = false := by rw [beq_eq_false_iff_ne]; omega
    have hs : Hid (S = false) := (by rw [HS.out]; simp [h] : S = false)
    clear h
    go_enter Tryd.func21, Tryd.ntmps21
    go_wp2
    go_ret
    exact ⟨by rw [hs.out]; rfl, 0, rfl⟩
end Go.Proofs.YtjoflnnomebkpaaDoor

/-
  Calls that turn one span of blocks alone.
-/
namespace Go.Proofs.YtjoflnnomebkpaaDoor
open Go.RowKit
set_option linter.unusedVariables false

theorem grown_set (w : World) (g j : Nat) (x : Value) (row : Option Nat) (hr : row = some g) : w.grownBy (w.setCell ⟨g, j, none⟩ x) row :=
  ⟨rfl, rfl, rfl, by simp [World.setCell], fun k _ hk => Below.heap_setCell _ _ _ _ (fun e => hk (by rw [hr, e]))⟩
theorem grown_trans {w w1 w2 : World} {row : Option Nat} (h : w.grownBy w1 row) (k : w1.grownBy w2 row) : w.grownBy w2 row :=
  ⟨k.os.trans h.os, k.tape.trans h.tape, k.output.trans h.output, Nat.le_trans h.size k.size, fun i hi hne => (k.block i (Nat.lt_of_lt_of_le hi h.size) hne).trans (h.block i hi hne)⟩
/-- of the blocks that were there, only those of the span [lo, hi) have turned -/
structure Turned (lo hi : Nat) (w w' : World) : Prop where
  os : w'.os = w.os
  tape : w'.tape = w.tape
  output : w'.output = w.output
  size : w.heap.size ≤ w'.heap.size
  block : ∀ k, k < w.heap.size → (k < lo ∨ hi ≤ k) → w'.heap[k]? = w.heap[k]?
theorem Turned.grown {w w' : World} {q lo hi : Nat} (h : w.grownBy w' (some q)) (h1 : lo ≤ q) (h2 : q < hi) : Turned lo hi w w' :=
  ⟨h.os, h.tape, h.output, h.size, fun k hk hn => h.block k hk (fun e => by injection e with e; omega)⟩
theorem Turned.rows {w w' : World} {row : Option Nat} {lo hi : Nat} (h : w.grownBy w' row) (h1 : ∀ k, row = some k → lo ≤ k ∧ k < hi) : Turned lo hi w w' :=
  ⟨h.os, h.tape, h.output, h.size, fun k hk hn => h.block k hk (fun e => by have := h1 k e.symm; omega)⟩
theorem Turned.of_below {w w' : World} (lo hi : Nat) (h : Below w.heap.size w w') : Turned lo hi w w' := ⟨h.os, h.tape, h.output, h.size, fun k hk _ => h.block k hk⟩
theorem Turned.trans {w w1 w2 : World} {lo hi : Nat} (h : Turned lo hi w w1) (k : Turned lo hi w1 w2) : Turned lo hi w w2 :=
  ⟨k.os.trans h.os, k.tape.trans h.tape, k.output.trans h.output, Nat.le_trans h.size k.size, fun i hi' hn => (k.block i (Nat.lt_of_lt_of_le hi' h.size) hn).trans (h.block i hi' hn)⟩
theorem Turned.wide {w w' : World} {lo hi lo' hi' : Nat} (h : Turned lo hi w w') (h1 : lo' ≤ lo) (h2 : hi ≤ hi') : Turned lo' hi' w w' :=
  ⟨h.os, h.tape, h.output, h.size, fun k hk hn => h.block k hk (by omega)⟩
theorem Turned.cell {w w' : World} {lo hi : Nat} (h : Turned lo hi w w') {b o : Nat} (hb : b < w.heap.size) (hn : b < lo ∨ hi ≤ b) : w'.cell? ⟨b, o, none⟩ = w.cell? ⟨b, o, none⟩ :=
  World.cell?_of_block (w := w) (h.block b hb hn)
theorem Turned.below {w w' : World} {lo hi B : Nat} (h : Turned lo hi w w') (hB : B ≤ lo) (hs : B ≤ w.heap.size) : Below B w w' :=
  ⟨h.os, h.tape, h.output, h.size, fun k hk => h.block k (by omega) (by omega)⟩
end Go.Proofs.YtjoflnnomebkpaaDoor

/-
  laws.markByteS, laws.heldByteS.
-/
namespace Go.Proofs.YtjoflnnomebkpaaDoor
open Go.RowKit
set_option linter.unusedVariables false

/-- the marks that markByteS writes -/
def marksL (k n : Nat) : List Int := (List.range n).map fun i => (((k + i) % 256 : Nat) : Int)
theorem marksL_len (k n : Nat) : (marksL k n).length = n := by simp [marksL]
theorem marksL_byte (k n : Nat) : ∀ x ∈ marksL k n, 0 ≤ x ∧ x ≤ 255 := by
  intro x hx
  simp only [marksL, List.mem_map] at hx
  obtain ⟨i, _, rfl⟩ := hx
  omega
theorem marksL_get (k n j : Nat) (h : j < n) : (marksL k n)[j]?.getD 0 = (((k + j) % 256 : Nat) : Int) := by
  simp [marksL, h]
theorem marks_step (k : Nat) (l : List Int) (j : Nat) (h : j < l.length) : (marksL k j ++ l.drop j).set j (((k + j) % 256 : Nat) : Int) = marksL k (j + 1) ++ l.drop (j + 1) := by
  have e : marksL k (j + 1) = marksL k j ++ [(((k + j) % 256 : Nat) : Int)] := by simp [marksL, List.range_succ]
  rw [e, List.set_append_right _ _ (by rw [marksL_len]; exact Nat.le_refl _), marksL_len, Nat.sub_self, List.drop_eq_getElem_cons h, List.set_cons_zero]
  simp

theorem Own.store {w : World} {B g cap : Nat} {l : List Int} (h : Own w B (.slice (some ⟨g, 0, none⟩) l.length cap) l) (j : Nat) (x : Int) (h8 : 0 ≤ x ∧ x ≤ 255) :
    Own (w.setCell ⟨g, j, none⟩ (.int .u8 x)) B (.slice (some ⟨g, 0, none⟩) l.length cap) (l.set j x) := by
  refine ⟨fun y hy => ?_, ?_⟩
  · rcases List.mem_or_eq_of_mem_set hy with hy | rfl
    · exact h.1 y hy
    · exact h8
  · have := (h.2.stored j (.int .u8 x)).1
    simpa [List.map_set] using this

set_option maxHeartbeats 1000000 in
set_option maxRecDepth 100000 in
theorem markByteS_any (v : Value) (l : List Int) (k0 : Nat) (w : World) (B : Nat) (hv : Own w B v l) (hl : l.length ≤ 20000000) (hk0 : k0 ≤ 20000000) :
    Calls Tryd.prog 28 #[v, .int .i64 k0] w fun e w' => e = .returned (.int .i64 ((k0 + l.length : Nat) : Int)) ∧ Own w' B v (marksL k0 l.length) ∧ w.grownBy w' v.ownBlock := by
  obtain ⟨a, cap, rfl⟩ := hv.shape
  have hV : Hid (Own w B (.slice a l.length cap) l) := hv
  clear hv
  go_enter Tryd.func28, Tryd.ntmps28
  go_wp2
  go_loopw [1, 5] (fun c i wr => ∃ j : Nat, j ≤ l.length ∧ i = .int .i64 j ∧ c = .int .i64 ((k0 + j : Nat) : Int) ∧ Own wr B (.slice a l.length cap) (marksL k0 j ++ l.drop j) ∧ w.grownBy wr (Value.slice a l.length cap).ownBlock) (fun _ i _ => l.length - (intOf i).toNat)
  case atStart => exact ⟨0, Nat.zero_le _, rfl, by simp, by simpa [marksL] using hV.out, ⟨rfl, rfl, rfl, Nat.le_refl _, fun _ _ _ => rfl⟩⟩
  case round =>
    obtain ⟨j, hj, rfl, rfl, ho, hg⟩ := hrel
    have hlen : (marksL k0 j ++ l.drop j).length = l.length := by simp [marksL_len]; omega
    by_cases hlt : j < l.length
    · obtain ⟨g, cap', e⟩ := hV.out.shape' (by omega)
      simp only [Value.slice.injEq] at e
      obtain ⟨rfl, _, rfl⟩ := e
      have ho' : Own wr B (.slice (some ⟨g, 0, none⟩) (marksL k0 j ++ l.drop j).length cap) (marksL k0 j ++ l.drop j) := by rw [hlen]; exact ho
      have hst := ho'.store j (((k0 + j) % 256 : Nat) : Int) (by omega)
      rw [marks_step k0 l j hlt, hlen] at hst
      have HS : Hid (Own (wr.setCell ⟨g, j, none⟩ (.int .u8 (((k0 + j) % 256 : Nat) : Int))) B (.slice (some ⟨g, 0, none⟩) l.length cap) (marksL k0 (j + 1) ++ l.drop (j + 1))) := hst
      have hf := ho'.2.frozenAt j
      have hcell := ho'.2.cellAt j (by omega)
      obtain ⟨y, hy⟩ : ∃ y, wr.cell? ⟨g, j, none⟩ = some y := by
        rw [hcell]
        exact ⟨_, List.getElem?_eq_getElem (by rw [List.length_map]; omega)⟩
      have HG : Hid (w.grownBy wr (some g)) := hg
      clear hst hcell ho' ho hg hlen
      go_wp2
      go_roundw
      case rel => exact ⟨j + 1, by omega, by go_num, by go_num, by simpa using HS.out, grown_trans HG.out (grown_set _ _ _ _ _ rfl)⟩
      case measure => simp [intOf]; omega
    · have e : j = l.length := by omega
      subst e
      rw [List.drop_length, List.append_nil] at ho
      go_wp2
      go_ret
      exact ⟨rfl, ho, hg⟩

set_option maxHeartbeats 1000000 in
theorem heldByteS_any (v : Value) (k0 n : Nat) (w : World) (hv : Bs w v (marksL k0 n)) (hn : n ≤ 20000000) (hk0 : k0 ≤ 20000000) :
    Calls Tryd.prog 29 #[v, .int .i64 k0] w fun e w' => e = .returned (.int .i64 ((k0 + n : Nat) : Int)) ∧ w' = w := by
  obtain ⟨hl, h8, a, cap, rfl, hc⟩ := hv
  rw [marksL_len] at hc ⊢
  go_enter Tryd.func29, Tryd.ntmps29
  go_wp2
  go_loop [1, 5] (fun c i => ∃ j : Nat, j ≤ n ∧ i = .int .i64 j ∧ c = .int .i64 ((k0 + j : Nat) : Int)) (fun _ i => n - (intOf i).toNat)
  case atStart => exact ⟨0, Nat.zero_le _, rfl, by simp⟩
  case round =>
    obtain ⟨j, hj, rfl, rfl⟩ := hrel
    by_cases hlt : j < n
    · obtain ⟨b, off, rfl, hcell⟩ := hc j hlt
      have hcj := hcell j hlt
      rw [marksL_get k0 n j hlt] at hcj
      clear hcell hc
      go_wp2
      go_round
      case rel => exact ⟨j + 1, by omega, by go_num, by go_num⟩
      case measure => simp [intOf]; omega
    · have e : j = n := by omega
      subst e
      go_wp2
      go_ret
      exact ⟨rfl, rfl⟩

/-- a slice of the call's own stays where only rows from B1 on were written -/
theorem Own.far {w w' : World} {B B1 : Nat} {v : Value} {l : List Int} (h : Own w B v l) (hb : Below B1 w w') (hlt : ∀ k, v.ownBlock = some k → k < B1) : Own w' B v l := by
  refine ⟨h.1, h.2.1, ?_⟩
  rcases h.2.2 with h | ⟨g, cap, cur, hv, hg, hh, r⟩
  · exact .inl h
  · exact .inr ⟨g, cap, cur, hv, hg, (hb.block g (hlt g (by rw [hv]; rfl))).trans hh, r⟩
theorem Own.marked {w w' : World} {B : Nat} {v : Value} {l : List Int} (h : Own w B v l) (hg : w.grownBy w' v.ownBlock) (hB : B ≤ w.heap.size) : Below B w w' :=
  (Below.refl _ _).grown hg hB (fun k hk => (h.2.lt k hk).1)
end Go.Proofs.YtjoflnnomebkpaaDoor

/-
  laws.toByteS: a copy that the call owns; slices.Clone of bytes; spec.l1copy.
-/
namespace Go.Proofs.YtjoflnnomebkpaaDoor
open Go.RowKit
set_option linter.unusedVariables false

theorem infoByte : (Tryd.prog.info? 5).map (fun i => (i.zero, i.size, i.bytes)) = some (some (.int .u8 0), 1, 1) := by kernel_rfl

theorem copy_step (l : List Int) (k : Nat) (h : k < l.length) : (l.take k ++ List.replicate (l.length - k) 0).set k (l[k]?.getD 0) = l.take (k + 1) ++ List.replicate (l.length - (k + 1)) 0 := by
  have hk : (l.take k).length = k := by rw [List.length_take]; omega
  have e : l.length - k = (l.length - (k + 1)) + 1 := by omega
  rw [List.set_append_right _ _ (by omega), hk, Nat.sub_self, e, List.replicate_succ, List.set_cons_zero]
  rw [List.getElem?_eq_getElem h, Option.getD_some, show l.take (k + 1) = l.take k ++ [l[k]] by rw [List.take_succ_eq_append_getElem h], List.append_assoc]
  rfl

theorem take_byte {l : List Int} (h8 : ∀ x ∈ l, 0 ≤ x ∧ x ≤ 255) (k n : Nat) : ∀ x ∈ l.take k ++ List.replicate n 0, 0 ≤ x ∧ x ≤ 255 := by
  intro x hx
  rcases List.mem_append.1 hx with h | h
  · exact h8 x (List.mem_of_mem_take h)
  · have := List.eq_of_mem_replicate h; omega

set_option maxHeartbeats 1000000 in
set_option maxRecDepth 100000 in
theorem toByteS_own (v : Value) (l : List Int) (w : World) (hv : Bs w v l) (hl' : l.length ≤ 1048576) :
    Calls Tryd.prog 69 #[v] w fun e w' => ∃ q, e = .returned (.slice (some ⟨q, 0, none⟩) l.length l.length) ∧ w.heap.size ≤ q ∧ q < w'.heap.size ∧ Own w' w.heap.size (.slice (some ⟨q, 0, none⟩) l.length l.length) l ∧ Below w.heap.size w w' := by
  obtain ⟨hl, h8, a, cap, rfl, hc⟩ := hv
  obtain ⟨i0, hi, hz0, hz1, hz2⟩ := info_parts infoByte
  have hmk : ∀ u : World, (Instr.makeSlice 22 (.int .i64 (l.length : Int)) (.int .i64 (l.length : Int))).run Tryd.prog u =
      .ok (.slice (some ⟨u.heap.size, 0, none⟩) l.length l.length) (u.alloc (.cells (madeCells #[.int .u8 0] l.length) 5)) := fun u => by
    have h := run_make (P := Tryd.prog) u 22 5 i0 (.int .u8 0) Tryd.underlying22 hi hz0 .i64 .i64 (l.length : Int) (l.length : Int) (by omega) (Int.le_refl _) (by rw [hz2]; omega) (by omega)
    simpa [hz1, Value.cells] using h
  have H0 : Hid (Own (w.alloc (.cells (madeCells #[.int .u8 0] l.length) 5)) w.heap.size (.slice (some ⟨w.heap.size, 0, none⟩) l.length l.length) (l.take 0 ++ List.replicate (l.length - 0) 0)) := by
    have h := Own.lit w (List.replicate l.length 0) (madeCells #[.int .u8 0] l.length) (by rw [toList_madeCells_one]; simp) (by intro x hx; have := List.eq_of_mem_replicate hx; omega) (by simpa using hl)
    show Own _ _ _ _
    simpa using h
  go_enter Tryd.func69, Tryd.ntmps69
  go_wp2
  go_loopw [4] (fun i wr => ∃ k : Nat, k ≤ l.length ∧ i = .int .i64 k ∧ Own wr w.heap.size (.slice (some ⟨w.heap.size, 0, none⟩) l.length l.length) (l.take k ++ List.replicate (l.length - k) 0) ∧ Below w.heap.size w wr ∧ w.heap.size < wr.heap.size) (fun i _ => l.length - (intOf i).toNat)
  case atStart => exact ⟨0, Nat.zero_le _, rfl, H0.out, (Below.refl _ _).alloc (Nat.le_refl _) _, by simp⟩
  case round =>
    obtain ⟨k, hk, rfl, ho, hb, hz⟩ := hrel
    by_cases hlt : k < l.length
    · obtain ⟨b, off, rfl, hcell⟩ := hc k hlt
      have hlen : (l.take k ++ List.replicate (l.length - k) 0).length = l.length := by simp; omega
      have hck : wr.cell? ⟨b, off + k, none⟩ = some (.int .u8 (l[k]?.getD 0)) := by rw [hb.cell (cell_lt (hcell k hlt))]; exact hcell k hlt
      have ho' : Own wr w.heap.size (.slice (some ⟨w.heap.size, 0, none⟩) (l.take k ++ List.replicate (l.length - k) 0).length l.length) (l.take k ++ List.replicate (l.length - k) 0) := by rw [hlen]; exact ho
      have hst := ho'.store k (l[k]?.getD 0) (byte_at h8 k)
      rw [copy_step l k hlt, hlen] at hst
      have HS : Hid (Own (wr.setCell ⟨w.heap.size, k, none⟩ (.int .u8 (l[k]?.getD 0))) w.heap.size (.slice (some ⟨w.heap.size, 0, none⟩) l.length l.length) (l.take (k + 1) ++ List.replicate (l.length - (k + 1)) 0)) := hst
      have hf := ho'.2.frozenAt k
      have hcell' := ho'.2.cellAt k (by omega)
      obtain ⟨y, hy⟩ : ∃ y, wr.cell? ⟨w.heap.size, k, none⟩ = some y := by
        rw [hcell']
        exact ⟨_, List.getElem?_eq_getElem (by rw [List.length_map]; omega)⟩
      have HB : Hid (Below w.heap.size w (wr.setCell ⟨w.heap.size, k, none⟩ (.int .u8 (l[k]?.getD 0)))) := hb.setCell (Nat.le_refl _) _
      clear hcell hcell' ho ho' hst hb hlen h8 hc
      generalize l[k]?.getD 0 = cc at hck HS HB
      go_wp2
      go_roundw
      case rel => exact ⟨k + 1, by omega, by go_num, HS.out, HB.out, by simpa [World.setCell] using hz⟩
      case measure => simp [intOf]; omega
    · have e : k = l.length := by omega
      subst e
      simp only [List.take_length, Nat.sub_self, List.replicate_zero, List.append_nil] at ho
      go_wp2
      go_ret
      exact ⟨_, rfl, Nat.le_refl _, hz, ho, hb⟩

end Go.Proofs.YtjoflnnomebkpaaDoor

/-
  slices.Clone of bytes; spec.l1copy.
-/
namespace Go.Proofs.YtjoflnnomebkpaaDoor
open Go.RowKit
set_option linter.unusedVariables false

set_option maxRecDepth 100000 in
/-- append of nothing, or of bytes that lie somewhere -/
theorem wpl_append_at {w : World} {ops : Array Oper} {rest : List Oper} {o : Oper} {a : Act} {Q : Exit → Act → World → Prop} (hgd : o.guard = none) (s x : Operand)
    (ho : o.op = .call { callee := .builtin .append, args := #[s, x], argTypes := #[22, 22] })
    {B : Nat} {v : Value} {l l2 : List Int} {b off cu : Nat} (hown : Own w B v l) (hs : a.eval s = v) (hu : Bs w (.slice (some ⟨b, off, none⟩) l2.length cu) l2) (hx : a.eval x = .slice (some ⟨b, off, none⟩) l2.length cu) (hlen : l.length + l2.length ≤ 1073741824) (hB : B ≤ w.heap.size)
    (h : ∀ v' w', Own w' B v' (l ++ l2) → Grew w v w' v' → wpList Tryd.prog ops Q rest (a.put o.dst v') w') : wpList Tryd.prog ops Q (o :: rest) a w := by
  obtain ⟨i0, hi, hz0, hz1, hz2⟩ := info_parts infoU8
  obtain ⟨_, h8, au, cu', e, hc⟩ := hu
  refine wpList_append_own_at w hgd s x 22 ho B 5 i0 (.int .u8 0) 1 1 Tryd.underlying22 hi hz0 hz1 hz2 rfl (by decide) v l.length _ hs hown.2 ⟨b, off, none⟩ l2.length cu (l2.map (Value.int .u8)) hx (by simp) ?_ ?_ (by unfold maxLen; omega) (by omega) hB ?_
  · intro j u hj
    rw [cell_add]
    rw [List.getElem?_map] at hj
    cases hk : l2[j]? with
    | none => rw [hk] at hj; cases hj
    | some y =>
      rw [hk] at hj
      have hjl : j < l2.length := by
        rcases Nat.lt_or_ge j l2.length with h' | h'
        · exact h'
        · rw [List.getElem?_eq_none h'] at hk; cases hk
      obtain ⟨b', off', e', hcell⟩ := hc j hjl
      injection e with e1 e2 e3
      rw [← e1] at e'
      injection e' with e'
      injection e' with f1 f2 f3
      subst f1 f2
      rw [hcell j hjl, hk]
      exact hj
  · intro u hu
    simp only [List.mem_map] at hu
    obtain ⟨y, _, rfl⟩ := hu
    rfl
  · intro v' w' h2 h3 _ h5
    refine h v' w' ⟨fun y hy => ?_, by simpa using h2⟩ ⟨h3, h5.imp id fun e => ⟨_, e, Nat.le_refl _⟩⟩
    rcases List.mem_append.1 hy with hy | hy
    · exact hown.1 y hy
    · exact h8 y hy

set_option maxHeartbeats 1000000 in
set_option maxRecDepth 100000 in
theorem clone_any (b off cap : Nat) (l : List Int) (w : World) (hv : Bs w (.slice (some ⟨b, off, none⟩) l.length cap) l) (hl : l.length ≤ 1048576) :
    Calls Tryd.prog 85 #[.slice (some ⟨b, off, none⟩) l.length cap] w fun e w' => ∃ a' cap', e = .returned (.slice a' l.length cap') ∧ Own w' w.heap.size (.slice a' l.length cap') l ∧ Below w.heap.size w w' := by
  have h0 := Own.lit0 w
  have hv' : Hid (Bs (w.alloc (.cells #[] 5)) (.slice (some ⟨b, off, none⟩) l.length cap) l) := hv.below ((Below.refl _ _).alloc (Nat.le_refl _) _)
  have hnil : ∀ u : World, (binOp .eql 22 (.slice (some ⟨b, off, none⟩) l.length cap) (.slice none 0 0)).run Tryd.prog u = .ok (.bool false) u := fun u => by
    rw [Lib.run_eql_slice_nil u 22 5 (some ⟨b, off, none⟩) l.length cap 0 0 Tryd.underlying22]; rfl
  go_enter Tryd.func85, Tryd.ntmps85
  go_wp2_with (at_builtin; refine wpl_append_at rfl (.tmp 5) (.tmp 6) rfl h0 rfl hv'.out rfl (by simp; omega) (by simp) ?_; intro v3 w3 ho3 hg3; have hB3 := hg3.below h0 (by simp))
  go_ret
  rw [List.nil_append] at ho3
  obtain ⟨a', cap', rfl⟩ := ho3.shape
  exact ⟨_, _, rfl, ho3, ((Below.refl _ _).alloc (Nat.le_refl _) _).trans hB3⟩

theorem Own.setLow {w : World} {B : Nat} {v : Value} {l : List Int} (h : Own w B v l) {b i : Nat} (hb : b < B) (x : Value) : Own (w.setCell ⟨b, i, none⟩ x) B v l := by
  refine ⟨h.1, h.2.1, ?_⟩
  rcases h.2.2 with h | ⟨g, cap, cur, hv, hg, hh, r⟩
  · exact .inl h
  · exact .inr ⟨g, cap, cur, hv, hg, (Below.heap_setCell _ _ _ _ (fun e => by simp only at e; omega)).trans hh, r⟩

set_option maxHeartbeats 1000000 in
set_option maxRecDepth 100000 in
theorem l1copy_any (a : Option Addr) (cap : Nat) (l : List Int) (w : World) (hv : Bs w (.slice a l.length cap) l) (hl : l.length ≤ 1048576) :
    Calls Tryd.prog 72 #[.slice a l.length cap] w fun e w' => ∃ a' cap', e = .returned (.slice a' l.length cap') ∧ Own w' w.heap.size (.slice a' l.length cap') l ∧ Below w.heap.size w w' := by
  have h0 := Own.lit0 w
  obtain ⟨hm, h8, a', cap', e, hc⟩ := hv
  injection e with e1 e2 e3
  subst e1 e3
  clear e2
  have h0' : Hid (Own (w.alloc (.cells #[] 5)) w.heap.size (.slice (some ⟨w.heap.size, 0, none⟩) 0 0) (l.take 0)) := h0
  clear h0
  go_enter Tryd.func72, Tryd.ntmps72
  go_wp2
  go_loopw [3, 4] (fun o i wr => ∃ k : Nat, k ≤ l.length ∧ i = .int .i64 k ∧ Own wr w.heap.size o (l.take k) ∧ Below w.heap.size w wr) (fun _ i _ => l.length - (intOf i).toNat)
  case atStart => exact ⟨0, Nat.zero_le _, rfl, h0'.out, (Below.refl _ _).alloc (Nat.le_refl _) _⟩
  case round =>
    obtain ⟨k, hk, rfl, ho, hb⟩ := hrel
    by_cases hlt : k < l.length
    · obtain ⟨b, off, rfl, hcell⟩ := hc k hlt
      have hck : wr.cell? ⟨b, off + k, none⟩ = some (.int .u8 (l[k]?.getD 0)) := by rw [hb.cell (cell_lt (hcell k hlt))]; exact hcell k hlt
      have h8k := byte_at h8 k
      have hlk : (l.take k).length = k := by rw [List.length_take]; omega
      have e1 : l.take (k + 1) = l.take k ++ [l[k]?.getD 0] := by rw [List.take_succ_eq_append_getElem hlt, List.getElem?_eq_getElem hlt]; rfl
      have HT : Hid (l.take (k + 1) = l.take k ++ [l[k]?.getD 0]) := e1
      have hz := hb.size
      clear hcell h8 hc e1
      generalize l[k]?.getD 0 = z at hck h8k HT
      obtain ⟨z0, z1⟩ := h8k
      go_wp2_with (at_builtin; refine wpl_append rfl (.tmp 12) (.tmp 17) rfl (ho.below ((Below.refl _ _).alloc (Nat.le_refl _) _)) rfl (Bs.one _ z ⟨z0, z1⟩) rfl (by simp) (by simp; omega) (by simp; omega) ?_; intro v2 w2 ho2 hg2)
      go_roundw
      case rel => exact ⟨k + 1, by omega, by go_num, by rw [HT.out]; exact ho2, hb.trans (((Below.refl _ _).alloc (by omega) _).trans (hg2.below (ho.below ((Below.refl _ _).alloc (Nat.le_refl _) _)) (by simp; omega)))⟩
      case measure => simp [intOf]; omega
    · have e : l.take k = l := List.take_of_length_le (by omega)
      rw [e] at ho
      obtain ⟨a', cap', rfl⟩ := ho.shape
      go_wp2
      go_ret
      exact ⟨_, _, rfl, ho, hb⟩

end Go.Proofs.YtjoflnnomebkpaaDoor

/-
  slices.Clone of bytes; impl.diskFits, impl.cutDisk; spec.l2diskOk, spec.l1copy, spec.l2diskCopy.
-/
namespace Go.Proofs.YtjoflnnomebkpaaDoor
open Go.RowKit
set_option linter.unusedVariables false

/-- a disk is well-formed -/
def diskB (c y : Int) (n : Nat) : Bool := inB c 0 1048576 && decide ((n : Int) ≤ c) && inB y 0 n
theorem diskB_le {c y : Int} {n : Nat} (h : diskB c y n = true) : n ≤ 1048576 ∧ 0 ≤ y ∧ y ≤ n ∧ 0 ≤ c ∧ c ≤ 1048576 ∧ (n : Int) ≤ c := by
  simp only [diskB, Bool.and_eq_true, inB_iff, decide_eq_true_eq] at h
  omega

set_option maxHeartbeats 1000000 in
set_option maxRecDepth 100000 in
theorem diskFits_any (c y : Int) (a : Option Addr) (n cap : Nat) (hn : n ≤ 1048576) (w : World) :
    Calls Tryd.prog 49 #[.agg #[.int .i64 c, .int .i64 y, .slice a n cap]] w fun e w' => e = .returned (.bool (diskB c y n)) ∧ Below w.heap.size w w' := by
  cases h1 : inB c 0 1048576
  · have hd : diskB c y n = false := by simp [diskB, h1]
    rw [hd]
    go_enter Tryd.func49, Tryd.ntmps49
    go_wp2_with (go_at_call 84; refine (within_any _ _ _ _).mono ?_; rintro e w1 ⟨rfl, rfl⟩; rw [h1])
    go_ret
    exact ⟨rfl, (Below.refl _ _).alloc (Nat.le_refl _) _⟩
  · by_cases h2 : (n : Int) ≤ c
    · have hd : diskB c y n = inB y 0 n := by simp [diskB, h1, h2]
      rw [hd]
      have g1 : True := trivial
      go_enter Tryd.func49, Tryd.ntmps49
      go_wp2_with (first
        | (go_at_call 84; clear g1; refine (within_any c 0 1048576 _).mono ?_; rintro e w1 ⟨rfl, rfl⟩; rw [h1])
        | (go_at_call 84; refine (within_any y 0 n _).mono ?_; rintro e w1 ⟨rfl, rfl⟩))
      go_ret
      exact ⟨rfl, (Below.refl _ _).alloc (Nat.le_refl _) _⟩
    · have hd : diskB c y n = false := by simp [diskB, h1, h2]
      rw [hd]
      go_enter Tryd.func49, Tryd.ntmps49
      go_wp2_with (go_at_call 84; refine (within_any _ _ _ _).mono ?_; rintro e w1 ⟨rfl, rfl⟩; rw [h1])
      go_ret
      exact ⟨rfl, (Below.refl _ _).alloc (Nat.le_refl _) _⟩

set_option maxHeartbeats 1000000 in
set_option maxRecDepth 100000 in
theorem l2diskOk_any (c y : Int) (a : Option Addr) (n cap : Nat) (hn : n ≤ 1048576) (w : World) :
    Calls Tryd.prog 45 #[.agg #[.int .i64 c, .int .i64 y, .slice a n cap]] w fun e w' => e = .returned (.bool (diskB c y n)) ∧ Below w.heap.size w w' := by
  cases h1 : inB c 0 1048576
  · have hd : diskB c y n = false := by simp [diskB, h1]
    rw [hd]
    go_enter Tryd.func45, Tryd.ntmps45
    go_wp2_with (go_at_call 80; refine (l1in_any _ _ _ _).mono ?_; rintro e w1 ⟨rfl, rfl⟩; rw [h1])
    go_ret
    exact ⟨rfl, (Below.refl _ _).alloc (Nat.le_refl _) _⟩
  · by_cases h2 : (n : Int) ≤ c
    · have hd : diskB c y n = inB y 0 n := by simp [diskB, h1, h2]
      rw [hd]
      have g1 : True := trivial
      go_enter Tryd.func45, Tryd.ntmps45
      go_wp2_with (first
        | (go_at_call 80; clear g1; refine (l1in_any c 0 1048576 _).mono ?_; rintro e w1 ⟨rfl, rfl⟩; rw [h1])
        | (go_at_call 80; refine (l1in_any y 0 n _).mono ?_; rintro e w1 ⟨rfl, rfl⟩))
      go_ret
      exact ⟨rfl, (Below.refl _ _).alloc (Nat.le_refl _) _⟩
    · have hd : diskB c y n = false := by simp [diskB, h1, h2]
      rw [hd]
      go_enter Tryd.func45, Tryd.ntmps45
      go_wp2_with (go_at_call 80; refine (l1in_any _ _ _ _).mono ?_; rintro e w1 ⟨rfl, rfl⟩; rw [h1])
      go_ret
      exact ⟨rfl, (Below.refl _ _).alloc (Nat.le_refl _) _⟩

theorem Bs.take {w : World} {a : Option Addr} {cap : Nat} {l : List Int} (h : Bs w (.slice a l.length cap) l) (n : Nat) (hn : n ≤ l.length) : Bs w (.slice a n cap) (l.take n) := by
  obtain ⟨hl, h8, a', cap', e, hc⟩ := h
  injection e with e1 e2 e3
  subst e1 e3
  have hlen : (l.take n).length = n := by rw [List.length_take]; omega
  refine ⟨by omega, fun x hx => h8 x (List.mem_of_mem_take hx), _, _, by rw [hlen], fun i hi => ?_⟩
  rw [hlen] at hi
  obtain ⟨b, off, rfl, hj⟩ := hc i (by omega)
  refine ⟨b, off, rfl, fun j hj' => ?_⟩
  rw [hlen] at hj'
  rw [hj j (by omega)]
  simp [hj']

set_option maxHeartbeats 1000000 in
set_option maxRecDepth 100000 in
theorem cutDisk_any (c y : Int) (b off cap : Nat) (l : List Int) (n : Nat) (w : World) (hv : Bs w (.slice (some ⟨b, off, none⟩) l.length cap) l) (hc : l.length ≤ cap) (hn : n ≤ l.length) (hl : l.length ≤ 1048576) :
    Calls Tryd.prog 50 #[.agg #[.int .i64 c, .int .i64 y, .slice (some ⟨b, off, none⟩) l.length cap], .int .i64 n] w fun e w' =>
      ∃ a' cap', e = .returned (.agg #[.int .i64 c, .int .i64 y, .slice a' n cap']) ∧ Own w' w.heap.size (.slice a' n cap') (l.take n) ∧ Below w.heap.size w w' := by
  have hlen : (l.take n).length = n := by rw [List.length_take]; omega
  have HT : Hid (∀ w', Below w.heap.size w w' → Calls Tryd.prog 85 #[.slice (some ⟨b, off, none⟩) n cap] w' fun e w'' => ∃ a' cap', e = .returned (.slice a' n cap') ∧ Own w'' w'.heap.size (.slice a' n cap') (l.take n) ∧ Below w'.heap.size w' w'') := fun w' hb => by
    have h := hv.take n hn
    have h2 := clone_any b off cap (l.take n) w' (by rw [hlen]; exact h.below hb) (by rw [hlen]; omega)
    rw [hlen] at h2
    exact h2
  have hb0 : Hid (Below w.heap.size w ((w.alloc (.cells #[.int .i64 c, .int .i64 y, .slice (some ⟨b, off, none⟩) l.length cap] 24)).alloc (.cells #[.int .i64 0, .int .i64 0, .slice none 0 0] 24))) := ((Below.refl _ _).alloc (Nat.le_refl _) _).alloc (by simp) _
  go_enter Tryd.func50, Tryd.ntmps50
  go_wp2_with (go_at_call 85; refine (HT.out _ hb0.out).mono ?_; rintro e w1 ⟨a1, cap1, rfl, ho1, hb1⟩; obtain ⟨hcc, hff⟩ := bcell hb1; have hz1 := hb1.size; simp at hz1; have k2 : w1.cell? ⟨w.heap.size, 2, none⟩ = some (.slice (some ⟨b, off, none⟩) l.length cap) := (hcc _ 2 (by simp; omega)).trans (by simp); have k2' := World.cell?_setCell_same w1 ⟨w.heap.size, 2, none⟩ (.slice a1 n cap1) k2; have r0 : w1.cell? ⟨w.heap.size + 1, 0, none⟩ = some (.int .i64 0) := (hcc _ 0 (by simp)).trans (by simp); have r1 : w1.cell? ⟨w.heap.size + 1, 1, none⟩ = some (.int .i64 0) := (hcc _ 1 (by simp)).trans (by simp); have r2 : w1.cell? ⟨w.heap.size + 1, 2, none⟩ = some (.slice none 0 0) := (hcc _ 2 (by simp)).trans (by simp))
  refine bodyPost_ret (v := .agg #[.int .i64 c, .int .i64 y, .slice a1 n cap1]) (by simp [results, Tryd.results50, go_sem, r0, r1, r2]) rfl ⟨_, _, rfl, ?_, ?_⟩
  · exact ((((ho1.setLow (by simp; omega) _).setLow (by simp) _).setLow (by simp) _).setLow (by simp) _).le (by simp; omega)
  · exact ((((hb0.out.trans (hb1.mono (by simp; omega))).setCell (Nat.le_refl _) _).setCell (Nat.le_succ _) _).setCell (Nat.le_succ _) _).setCell (Nat.le_succ _) _

/-! ### the specification's -/
/-- a disk that a call answers: new memory -/
def DiskAt (w w' : World) (e : Ending) (C Y : Int) (L : List Int) : Prop :=
  ∃ a' cap', e = .returned (.agg #[.int .i64 C, .int .i64 Y, .slice a' L.length cap']) ∧ Own w' w.heap.size (.slice a' L.length cap') L ∧ Below w.heap.size w w'

end Go.Proofs.YtjoflnnomebkpaaDoor

/-
  spec.l2diskCopy.
-/
namespace Go.Proofs.YtjoflnnomebkpaaDoor
open Go.RowKit
set_option linter.unusedVariables false

set_option maxHeartbeats 2000000 in
set_option maxRecDepth 100000 in
theorem l2diskCopy_any (c y : Int) (a : Option Addr) (cap : Nat) (l : List Int) (w : World) (hv : Bs w (.slice a l.length cap) l) (hl : l.length ≤ 1048576) :
    Calls Tryd.prog 46 #[.agg #[.int .i64 c, .int .i64 y, .slice a l.length cap]] w fun e w' =>
      ∃ a' cap', e = .returned (.agg #[.int .i64 c, .int .i64 y, .slice a' l.length cap']) ∧ Own w' w.heap.size (.slice a' l.length cap') l ∧ Below w.heap.size w w' := by
  have HT : Hid (∀ w', Below w.heap.size w w' → Calls Tryd.prog 72 #[.slice a l.length cap] w' fun e w'' => ∃ a' cap', e = .returned (.slice a' l.length cap') ∧ Own w'' w'.heap.size (.slice a' l.length cap') l ∧ Below w'.heap.size w' w'') := fun w' hb => l1copy_any a cap l w' (hv.below hb) hl
  have hb0 : Hid (Below w.heap.size w ((w.alloc (.cells #[.int .i64 c, .int .i64 y, .slice a l.length cap] 24)).alloc (.cells #[.int .i64 0, .int .i64 0, .slice none 0 0] 24))) := ((Below.refl _ _).alloc (Nat.le_refl _) _).alloc (by simp) _
  go_enter Tryd.func46, Tryd.ntmps46
  go_wp2
  go_region_held3 (fun w' => w'.cell? ⟨w.heap.size, 0, none⟩ = some (.int .i64 c) ∧ w'.cell? ⟨w.heap.size, 1, none⟩ = some (.int .i64 y) ∧ w'.cell? ⟨w.heap.size, 2, none⟩ = some (.slice a l.length cap)) (simp [*, go_sem])
    (first
      | (go_at_call 72; refine (HT.out _ (by first | exact hb0.out | exact hb0.out.drew | exact hb0.out.drew.drew | exact hb0.out.drew.drew.drew | exact hb0.out.drew.drew.drew.drew)).mono ?_; rintro e w1 ⟨a1, cap1, rfl, ho1, hb1⟩; obtain ⟨hcc, hff⟩ := bcell hb1; have hz1 := hb1.size; simp at hz1; have r0 : w1.cell? ⟨w.heap.size + 1, 0, none⟩ = some (.int .i64 0) := (hcc _ 0 (by simp)).trans (by simp); have r1 : w1.cell? ⟨w.heap.size + 1, 1, none⟩ = some (.int .i64 0) := (hcc _ 1 (by simp)).trans (by simp); have r2 : w1.cell? ⟨w.heap.size + 1, 2, none⟩ = some (.slice none 0 0) := (hcc _ 2 (by simp)).trans (by simp); have q0 : w1.cell? ⟨w.heap.size, 0, none⟩ = some (.int .i64 c) := (hcc _ 0 (by simp; omega)).trans (by simp); have q1 : w1.cell? ⟨w.heap.size, 1, none⟩ = some (.int .i64 y) := (hcc _ 1 (by simp; omega)).trans (by simp); have q2 : w1.cell? ⟨w.heap.size, 2, none⟩ = some (.slice a l.length cap) := (hcc _ 2 (by simp; omega)).trans (by simp)))
  all_goals go_wp2
  all_goals refine bodyPost_ret (v := .agg #[.int .i64 c, .int .i64 y, .slice a1 l.length cap1]) (by simp [results, Tryd.results46, go_sem, r0, r1, r2]) rfl ⟨_, _, rfl, ?_, ?_⟩
  · exact (((ho1.setLow (by simp) _).setLow (by simp) _).setLow (by simp) _).le (by simp; omega)
  · exact (((Below.trans (by first | exact hb0.out | exact hb0.out.drew | exact hb0.out.drew.drew | exact hb0.out.drew.drew.drew | exact hb0.out.drew.drew.drew.drew) (hb1.mono (by simp; omega))).setCell (Nat.le_succ _) _).setCell (Nat.le_succ _) _).setCell (Nat.le_succ _) _

end Go.Proofs.YtjoflnnomebkpaaDoor

/-
  spec.DiskWrite.
-/
namespace Go.Proofs.YtjoflnnomebkpaaDoor
open Go.RowKit
set_option linter.unusedVariables false
set_option linter.unusedSimpArgs false

theorem frozen_alloc_lt {w : World} {o : Obj} {b i : Nat} (h : b < w.heap.size) : (w.alloc o).frozen? ⟨b, i, none⟩ = w.frozen? ⟨b, i, none⟩ := ((Below.refl w.heap.size w).alloc (Nat.le_refl _) o).frozen (p := ⟨b, i, none⟩) h
theorem frozen_block {w w' : World} {b i : Nat} (h : w'.heap[b]? = w.heap[b]?) : w'.frozen? ⟨b, i, none⟩ = w.frozen? ⟨b, i, none⟩ := by simp [World.frozen?, h]
theorem own_low {B g : Nat} {v : Value} {l : List Int} (hg : g < B) : ∀ (vs : List Value) (o : Nat) (w : World), Own w B v l → Own (w.setCells g o vs) B v l
  | [], _, _, h => h
  | x :: vs, o, w, h => own_low hg vs (o + 1) _ (h.setLow hg x)

theorem Own.setFar {w : World} {B : Nat} {v : Value} {l : List Int} (h : Own w B v l) {b i : Nat} (hne : v.ownBlock ≠ some b) (x : Value) : Own (w.setCell ⟨b, i, none⟩ x) B v l := by
  refine ⟨h.1, h.2.1, ?_⟩
  rcases h.2.2 with h | ⟨g, cap, cur, hv, hg, hh, r⟩
  · exact .inl h
  · exact .inr ⟨g, cap, cur, hv, hg, (Below.heap_setCell _ _ _ _ (fun e => hne (by rw [hv]; simp only at e; rw [e]; rfl))).trans hh, r⟩

set_option maxRecDepth 100000 in
/-- append of bytes that are owned too, be they none -/
theorem wpl_append_own {w : World} {ops : Array Oper} {rest : List Oper} {o : Oper} {a : Act} {Q : Exit → Act → World → Prop} (hgd : o.guard = none) (s x : Operand)
    (ho : o.op = .call { callee := .builtin .append, args := #[s, x], argTypes := #[22, 22] })
    {B B2 : Nat} {v u : Value} {l l2 : List Int} (hown : Own w B v l) (hs : a.eval s = v) (hu : Own w B2 u l2) (hx : a.eval x = u) (hm : l2.length ≤ maxLen) (hlen : l.length + l2.length ≤ 1073741824) (hB : B ≤ w.heap.size)
    (h : ∀ v' w', Own w' B v' (l ++ l2) → Grew w v w' v' → wpList Tryd.prog ops Q rest (a.put o.dst v') w') : wpList Tryd.prog ops Q (o :: rest) a w := by
  have hbs := hu.bs hm
  rcases hu.2.2 with ⟨rfl, h0⟩ | ⟨g, cap, cur, rfl, _⟩
  · have e2 : l2 = [] := List.eq_nil_of_length_eq_zero h0
    subst e2
    obtain ⟨i0, hi, hz0, hz1, hz2⟩ := info_parts infoU8
    refine wpList_plain hgd fun K hK' => ?_
    have hrun := run_append_owned_none (P := Tryd.prog) w B 22 o.type 5 i0 1 Tryd.underlying22 hi v l.length _ hown.2
    unfold Oper.wp
    simp [execOp, ho, resolve, invoke, builtin, hs, hx, hrun, Result.andThen]
    exact hK' _ _ (h v w (by simpa using hown) (Grew.refl w v))
  · exact wpl_append_at hgd s x ho hown hs hbs hx hlen hB h

/-- what DiskWrite answers -/
def dwCode (c y : Int) (l : List Int) (rs : List Rec) : Int := if diskB c y l.length = false then 1 else if recsB rs = false then 2 else if c < ((l.length + (framesL rs).length : Nat) : Int) then 3 else 0
def dwC (c y : Int) (l : List Int) : Int := if diskB c y l.length = false then 0 else c
def dwY (c y : Int) (l : List Int) : Int := if diskB c y l.length = false then 0 else y
def dwL (c y : Int) (l : List Int) (rs : List Rec) : List Int := if diskB c y l.length = false then [] else if recsB rs = false then l else if c < ((l.length + (framesL rs).length : Nat) : Int) then l else l ++ framesL rs

set_option maxHeartbeats 8000000 in
set_option maxRecDepth 100000 in
theorem sDiskWrite_any (c y : Int) (a : Option Addr) (cap : Nat) (l : List Int) (v : Value) (rs : List Rec) (w : World) (hv : Hid (Bs w (.slice a l.length cap) l)) (hl : l.length ≤ 1048576) (hr : Hid (Sl Rec.cells 11 w v rs)) (hf : ∀ r ∈ rs, r.e.fits) :
    Calls Tryd.prog 9 #[.agg #[.int .i64 c, .int .i64 y, .slice a l.length cap], v] w fun e w' =>
      ∃ a' cap', e = .returned (.agg #[.int .i64 (dwCode c y l rs), .int .i64 (dwC c y l), .int .i64 (dwY c y l), .slice a' (dwL c y l rs).length cap']) ∧ Own w' w.heap.size (.slice a' (dwL c y l rs).length cap') (dwL c y l rs) ∧ Below w.heap.size w w' := by
  have hb0 : Hid (Below w.heap.size w ((w.alloc (.cells #[.int .i64 c, .int .i64 y, .slice a l.length cap] 24)).alloc (.cells #[.int .i64 0, .int .i64 0, .int .i64 0, .slice none 0 0] 29))) := ((Below.refl _ _).alloc (Nat.le_refl _) _).alloc (by simp) _
  cases hd : diskB c y l.length
  · have e1 : dwCode c y l rs = 1 := by simp [dwCode, hd]
    have e2 : dwC c y l = 0 := by simp [dwC, hd]
    have e3 : dwY c y l = 0 := by simp [dwY, hd]
    have e4 : dwL c y l rs = [] := by simp [dwL, hd]
    rw [e1, e2, e3, e4]
    clear e1 e2 e3 e4
    go_enter Tryd.func9, Tryd.ntmps9
    go_wp2_with (go_at_call 45; refine (l2diskOk_any c y _ l.length cap hl _).mono ?_; rintro e w1 ⟨rfl, hb⟩; rw [hd]; obtain ⟨hc, hff⟩ := bcell hb; have z1 : w.heap.size + 1 + 1 ≤ w1.heap.size := (by have := hb.size; simp at this; omega); have yP2 : w.heap.size < w1.heap.size := (by omega); have P20 : w1.cell? ⟨w.heap.size, 0, none⟩ = some (.int .i64 c) := (hc _ 0 (by simp <;> omega)).trans (by simp); have P21 : w1.cell? ⟨w.heap.size, 1, none⟩ = some (.int .i64 y) := (hc _ 1 (by simp <;> omega)).trans (by simp); have P22 : w1.cell? ⟨w.heap.size, 2, none⟩ = some (.slice a l.length cap) := (hc _ 2 (by simp <;> omega)).trans (by simp); have yP4 : w.heap.size + 1 < w1.heap.size := (by omega); have P40 : w1.cell? ⟨w.heap.size + 1, 0, none⟩ = some (.int .i64 0) := (hc _ 0 (by simp <;> omega)).trans (by simp); have P41 : w1.cell? ⟨w.heap.size + 1, 1, none⟩ = some (.int .i64 0) := (hc _ 1 (by simp <;> omega)).trans (by simp); have P42 : w1.cell? ⟨w.heap.size + 1, 2, none⟩ = some (.int .i64 0) := (hc _ 2 (by simp <;> omega)).trans (by simp); have P43 : w1.cell? ⟨w.heap.size + 1, 3, none⟩ = some (.slice none 0 0) := (hc _ 3 (by simp <;> omega)).trans (by simp); have fz : ∀ i, w1.frozen? ⟨w.heap.size + 1, i, none⟩ = false := (fun i => (hff _ i (by simp)).trans (by simp)); have HB : Hid (Below w.heap.size w w1) := hb0.out.trans (hb.mono (by simp; omega)); have F0 := fz 0; have F1 := fz 1; have F2 := fz 2; have F3 := fz 3; clear hb hc hff)
    refine bodyPost_ret (v := .agg #[.int .i64 1, .int .i64 0, .int .i64 0, .slice none 0 0]) (by simp [results, Tryd.results9, go_sem, *]) rfl ⟨_, _, rfl, ?_, ?_⟩
    · exact Own.nil _ _
    · exact below_setCells' (show w.heap.size ≤ w.heap.size + 1 by omega) [.int .i64 1, .int .i64 0, .int .i64 0, .slice none 0 0] 0 _ HB.out
  · have e2 : dwC c y l = c := by simp [dwC, hd]
    have e3 : dwY c y l = y := by simp [dwY, hd]
    rw [e2, e3]
    clear e2 e3
    cases hR : recsB rs
    · have e1 : dwCode c y l rs = 2 := by simp [dwCode, hd, hR]
      have e4 : dwL c y l rs = l := by simp [dwL, hd, hR]
      rw [e1, e4]
      clear e1 e4
      go_enter Tryd.func9, Tryd.ntmps9
      go_wp2_with (first
        | (go_at_call 45; refine (l2diskOk_any c y _ l.length cap hl _).mono ?_; rintro e w1 ⟨rfl, hb⟩; rw [hd]; obtain ⟨hc, hff⟩ := bcell hb; have z1 : w.heap.size + 1 + 1 ≤ w1.heap.size := (by have := hb.size; simp at this; omega); have yP2 : w.heap.size < w1.heap.size := (by omega); have P20 : w1.cell? ⟨w.heap.size, 0, none⟩ = some (.int .i64 c) := (hc _ 0 (by simp <;> omega)).trans (by simp); have P21 : w1.cell? ⟨w.heap.size, 1, none⟩ = some (.int .i64 y) := (hc _ 1 (by simp <;> omega)).trans (by simp); have P22 : w1.cell? ⟨w.heap.size, 2, none⟩ = some (.slice a l.length cap) := (hc _ 2 (by simp <;> omega)).trans (by simp); have yP4 : w.heap.size + 1 < w1.heap.size := (by omega); have P40 : w1.cell? ⟨w.heap.size + 1, 0, none⟩ = some (.int .i64 0) := (hc _ 0 (by simp <;> omega)).trans (by simp); have P41 : w1.cell? ⟨w.heap.size + 1, 1, none⟩ = some (.int .i64 0) := (hc _ 1 (by simp <;> omega)).trans (by simp); have P42 : w1.cell? ⟨w.heap.size + 1, 2, none⟩ = some (.int .i64 0) := (hc _ 2 (by simp <;> omega)).trans (by simp); have P43 : w1.cell? ⟨w.heap.size + 1, 3, none⟩ = some (.slice none 0 0) := (hc _ 3 (by simp <;> omega)).trans (by simp); have fz : ∀ i, w1.frozen? ⟨w.heap.size + 1, i, none⟩ = false := (fun i => (hff _ i (by simp)).trans (by simp)); have HB : Hid (Below w.heap.size w w1) := hb0.out.trans (hb.mono (by simp; omega)); have F0 := fz 0; have F1 := fz 1; have F2 := fz 2; have F3 := fz 3; clear hb hc hff)
        | (go_at_call 46; refine (l2diskCopy_any c y a cap l _ (hv.out.below HB.out) hl).mono ?_; rintro e w2 ⟨a2, cap2, rfl, ho2, hb⟩; obtain ⟨hc, hff⟩ := bcell hb; have z2 : w1.heap.size ≤ w2.heap.size := hb.size; have lt2 := fun k e => (ho2.2.lt k e); replace yP2 : w.heap.size < w2.heap.size := (by omega); replace P20 : w2.cell? ⟨w.heap.size, 0, none⟩ = some (.int .i64 c) := (hc _ 0 (show w.heap.size < _ by omega)).trans P20; replace P21 : w2.cell? ⟨w.heap.size, 1, none⟩ = some (.int .i64 y) := (hc _ 1 (show w.heap.size < _ by omega)).trans P21; replace P22 : w2.cell? ⟨w.heap.size, 2, none⟩ = some (.slice a l.length cap) := (hc _ 2 (show w.heap.size < _ by omega)).trans P22; replace yP4 : w.heap.size + 1 < w2.heap.size := (by omega); replace P40 : w2.cell? ⟨w.heap.size + 1, 0, none⟩ = some (.int .i64 0) := (hc _ 0 (show w.heap.size + 1 < _ by omega)).trans P40; replace P41 : w2.cell? ⟨w.heap.size + 1, 1, none⟩ = some (.int .i64 0) := (hc _ 1 (show w.heap.size + 1 < _ by omega)).trans P41; replace P42 : w2.cell? ⟨w.heap.size + 1, 2, none⟩ = some (.int .i64 0) := (hc _ 2 (show w.heap.size + 1 < _ by omega)).trans P42; replace P43 : w2.cell? ⟨w.heap.size + 1, 3, none⟩ = some (.slice none 0 0) := (hc _ 3 (show w.heap.size + 1 < _ by omega)).trans P43; replace fz : ∀ i, w2.frozen? ⟨w.heap.size + 1, i, none⟩ = false := (fun i => (hff _ i (show w.heap.size + 1 < _ by omega)).trans (fz i)); replace HB : Hid (Below w.heap.size w w2) := HB.out.trans (hb.mono (by omega)); have HO : Hid (Own w2 w1.heap.size (.slice a2 l.length cap2) l) := ho2; clear hb hc hff ho2)
        | (go_at_call 47; refine (l2recordsOk_any _ rs _ (hr.out.below (HB.out.alloc (by omega) _)) hf).mono ?_; rintro e w3 ⟨rfl, hb⟩; rw [hR]; obtain ⟨hc, hff⟩ := bcell hb; have z3 : w2.heap.size < w3.heap.size := (by have := hb.size; rw [World.size_alloc] at this; omega); replace yP2 : w.heap.size < w3.heap.size := (by omega); replace P20 : w3.cell? ⟨w.heap.size, 0, none⟩ = some (.int .i64 c) := (hc _ 0 (show w.heap.size < _ by rw [World.size_alloc]; omega)).trans ((World.cell?_alloc_lt w2 _ ⟨w.heap.size, 0, none⟩ (show w.heap.size < w2.heap.size by omega)).trans P20); replace P21 : w3.cell? ⟨w.heap.size, 1, none⟩ = some (.int .i64 y) := (hc _ 1 (show w.heap.size < _ by rw [World.size_alloc]; omega)).trans ((World.cell?_alloc_lt w2 _ ⟨w.heap.size, 1, none⟩ (show w.heap.size < w2.heap.size by omega)).trans P21); replace P22 : w3.cell? ⟨w.heap.size, 2, none⟩ = some (.slice a l.length cap) := (hc _ 2 (show w.heap.size < _ by rw [World.size_alloc]; omega)).trans ((World.cell?_alloc_lt w2 _ ⟨w.heap.size, 2, none⟩ (show w.heap.size < w2.heap.size by omega)).trans P22); replace yP4 : w.heap.size + 1 < w3.heap.size := (by omega); replace P40 : w3.cell? ⟨w.heap.size + 1, 0, none⟩ = some (.int .i64 0) := (hc _ 0 (show w.heap.size + 1 < _ by rw [World.size_alloc]; omega)).trans ((World.cell?_alloc_lt w2 _ ⟨w.heap.size + 1, 0, none⟩ (show w.heap.size + 1 < w2.heap.size by omega)).trans P40); replace P41 : w3.cell? ⟨w.heap.size + 1, 1, none⟩ = some (.int .i64 0) := (hc _ 1 (show w.heap.size + 1 < _ by rw [World.size_alloc]; omega)).trans ((World.cell?_alloc_lt w2 _ ⟨w.heap.size + 1, 1, none⟩ (show w.heap.size + 1 < w2.heap.size by omega)).trans P41); replace P42 : w3.cell? ⟨w.heap.size + 1, 2, none⟩ = some (.int .i64 0) := (hc _ 2 (show w.heap.size + 1 < _ by rw [World.size_alloc]; omega)).trans ((World.cell?_alloc_lt w2 _ ⟨w.heap.size + 1, 2, none⟩ (show w.heap.size + 1 < w2.heap.size by omega)).trans P42); replace P43 : w3.cell? ⟨w.heap.size + 1, 3, none⟩ = some (.slice none 0 0) := (hc _ 3 (show w.heap.size + 1 < _ by rw [World.size_alloc]; omega)).trans ((World.cell?_alloc_lt w2 _ ⟨w.heap.size + 1, 3, none⟩ (show w.heap.size + 1 < w2.heap.size by omega)).trans P43); replace fz : ∀ i, w3.frozen? ⟨w.heap.size + 1, i, none⟩ = false := (fun i => (hff _ i (show w.heap.size + 1 < _ by rw [World.size_alloc]; omega)).trans ((frozen_alloc_lt (show w.heap.size + 1 < w2.heap.size by omega)).trans (fz i))); have yP5 : w2.heap.size < w3.heap.size := (by omega); have P50 : w3.cell? ⟨w2.heap.size, 0, none⟩ = some (.int .i64 c) := (hc _ 0 (by simp)).trans (by simp); have P51 : w3.cell? ⟨w2.heap.size, 1, none⟩ = some (.int .i64 y) := (hc _ 1 (by simp)).trans (by simp); have P52 : w3.cell? ⟨w2.heap.size, 2, none⟩ = some (.slice a2 l.length cap2) := (hc _ 2 (by simp)).trans (by simp); replace HB : Hid (Below w.heap.size w w3) := (HB.out.alloc (by omega) _).trans (hb.mono (by rw [World.size_alloc]; omega)); have hz5 : w3.frozen? ⟨w2.heap.size, 2, none⟩ = false := (hff _ 2 (by simp)).trans (by simp); replace HO : Hid (Own w3 w1.heap.size (.slice a2 l.length cap2) l) := (HO.out.below ((Below.refl _ _).alloc (Nat.le_refl _) _)).below hb; replace F0 := fz 0; replace F1 := fz 1; replace F2 := fz 2; replace F3 := fz 3; clear hb hc hff))
      refine bodyPost_ret (v := .agg #[.int .i64 2, .int .i64 c, .int .i64 y, .slice a2 l.length cap2]) (by simp [results, Tryd.results9, go_sem, *]) rfl ⟨_, _, rfl, ?_, ?_⟩
      · exact (own_low (show w.heap.size + 1 < w1.heap.size by omega) [.int .i64 2, .int .i64 c, .int .i64 y, .slice a2 l.length cap2] 0 _ HO.out).le (by omega)
      · exact below_setCells' (show w.heap.size ≤ w.heap.size + 1 by omega) [.int .i64 2, .int .i64 c, .int .i64 y, .slice a2 l.length cap2] 0 _ HB.out
    · have hE : encRecs rs = framesL rs := by simp [encRecs, hR]
      have hfl : (framesL rs).length ≤ 3400000 := by have := encRecs_len rs; rwa [hE] at this
      obtain ⟨d1, d2, d3, d4, d5, d6⟩ := diskB_le hd
      by_cases hx : c < (l.length : Int) + ((framesL rs).length : Int)
      · have e1 : dwCode c y l rs = 3 := by simp [dwCode, hd, hR, hx]
        have e4 : dwL c y l rs = l := by simp [dwL, hd, hR, hx]
        rw [e1, e4]
        clear e1 e4
        go_enter Tryd.func9, Tryd.ntmps9
        go_wp2_with (first
          | (go_at_call 45; refine (l2diskOk_any c y _ l.length cap hl _).mono ?_; rintro e w1 ⟨rfl, hb⟩; rw [hd]; obtain ⟨hc, hff⟩ := bcell hb; have z1 : w.heap.size + 1 + 1 ≤ w1.heap.size := (by have := hb.size; simp at this; omega); have yP2 : w.heap.size < w1.heap.size := (by omega); have P20 : w1.cell? ⟨w.heap.size, 0, none⟩ = some (.int .i64 c) := (hc _ 0 (by simp <;> omega)).trans (by simp); have P21 : w1.cell? ⟨w.heap.size, 1, none⟩ = some (.int .i64 y) := (hc _ 1 (by simp <;> omega)).trans (by simp); have P22 : w1.cell? ⟨w.heap.size, 2, none⟩ = some (.slice a l.length cap) := (hc _ 2 (by simp <;> omega)).trans (by simp); have yP4 : w.heap.size + 1 < w1.heap.size := (by omega); have P40 : w1.cell? ⟨w.heap.size + 1, 0, none⟩ = some (.int .i64 0) := (hc _ 0 (by simp <;> omega)).trans (by simp); have P41 : w1.cell? ⟨w.heap.size + 1, 1, none⟩ = some (.int .i64 0) := (hc _ 1 (by simp <;> omega)).trans (by simp); have P42 : w1.cell? ⟨w.heap.size + 1, 2, none⟩ = some (.int .i64 0) := (hc _ 2 (by simp <;> omega)).trans (by simp); have P43 : w1.cell? ⟨w.heap.size + 1, 3, none⟩ = some (.slice none 0 0) := (hc _ 3 (by simp <;> omega)).trans (by simp); have fz : ∀ i, w1.frozen? ⟨w.heap.size + 1, i, none⟩ = false := (fun i => (hff _ i (by simp)).trans (by simp)); have HB : Hid (Below w.heap.size w w1) := hb0.out.trans (hb.mono (by simp; omega)); have F0 := fz 0; have F1 := fz 1; have F2 := fz 2; have F3 := fz 3; clear hb hc hff)
          | (go_at_call 46; refine (l2diskCopy_any c y a cap l _ (hv.out.below HB.out) hl).mono ?_; rintro e w2 ⟨a2, cap2, rfl, ho2, hb⟩; obtain ⟨hc, hff⟩ := bcell hb; have z2 : w1.heap.size ≤ w2.heap.size := hb.size; have lt2 := fun k e => (ho2.2.lt k e); replace yP2 : w.heap.size < w2.heap.size := (by omega); replace P20 : w2.cell? ⟨w.heap.size, 0, none⟩ = some (.int .i64 c) := (hc _ 0 (show w.heap.size < _ by omega)).trans P20; replace P21 : w2.cell? ⟨w.heap.size, 1, none⟩ = some (.int .i64 y) := (hc _ 1 (show w.heap.size < _ by omega)).trans P21; replace P22 : w2.cell? ⟨w.heap.size, 2, none⟩ = some (.slice a l.length cap) := (hc _ 2 (show w.heap.size < _ by omega)).trans P22; replace yP4 : w.heap.size + 1 < w2.heap.size := (by omega); replace P40 : w2.cell? ⟨w.heap.size + 1, 0, none⟩ = some (.int .i64 0) := (hc _ 0 (show w.heap.size + 1 < _ by omega)).trans P40; replace P41 : w2.cell? ⟨w.heap.size + 1, 1, none⟩ = some (.int .i64 0) := (hc _ 1 (show w.heap.size + 1 < _ by omega)).trans P41; replace P42 : w2.cell? ⟨w.heap.size + 1, 2, none⟩ = some (.int .i64 0) := (hc _ 2 (show w.heap.size + 1 < _ by omega)).trans P42; replace P43 : w2.cell? ⟨w.heap.size + 1, 3, none⟩ = some (.slice none 0 0) := (hc _ 3 (show w.heap.size + 1 < _ by omega)).trans P43; replace fz : ∀ i, w2.frozen? ⟨w.heap.size + 1, i, none⟩ = false := (fun i => (hff _ i (show w.heap.size + 1 < _ by omega)).trans (fz i)); replace HB : Hid (Below w.heap.size w w2) := HB.out.trans (hb.mono (by omega)); have HO : Hid (Own w2 w1.heap.size (.slice a2 l.length cap2) l) := ho2; clear hb hc hff ho2)
          | (go_at_call 47; refine (l2recordsOk_any _ rs _ (hr.out.below (HB.out.alloc (by omega) _)) hf).mono ?_; rintro e w3 ⟨rfl, hb⟩; rw [hR]; obtain ⟨hc, hff⟩ := bcell hb; have z3 : w2.heap.size < w3.heap.size := (by have := hb.size; rw [World.size_alloc] at this; omega); replace yP2 : w.heap.size < w3.heap.size := (by omega); replace P20 : w3.cell? ⟨w.heap.size, 0, none⟩ = some (.int .i64 c) := (hc _ 0 (show w.heap.size < _ by rw [World.size_alloc]; omega)).trans ((World.cell?_alloc_lt w2 _ ⟨w.heap.size, 0, none⟩ (show w.heap.size < w2.heap.size by omega)).trans P20); replace P21 : w3.cell? ⟨w.heap.size, 1, none⟩ = some (.int .i64 y) := (hc _ 1 (show w.heap.size < _ by rw [World.size_alloc]; omega)).trans ((World.cell?_alloc_lt w2 _ ⟨w.heap.size, 1, none⟩ (show w.heap.size < w2.heap.size by omega)).trans P21); replace P22 : w3.cell? ⟨w.heap.size, 2, none⟩ = some (.slice a l.length cap) := (hc _ 2 (show w.heap.size < _ by rw [World.size_alloc]; omega)).trans ((World.cell?_alloc_lt w2 _ ⟨w.heap.size, 2, none⟩ (show w.heap.size < w2.heap.size by omega)).trans P22); replace yP4 : w.heap.size + 1 < w3.heap.size := (by omega); replace P40 : w3.cell? ⟨w.heap.size + 1, 0, none⟩ = some (.int .i64 0) := (hc _ 0 (show w.heap.size + 1 < _ by rw [World.size_alloc]; omega)).trans ((World.cell?_alloc_lt w2 _ ⟨w.heap.size + 1, 0, none⟩ (show w.heap.size + 1 < w2.heap.size by omega)).trans P40); replace P41 : w3.cell? ⟨w.heap.size + 1, 1, none⟩ = some (.int .i64 0) := (hc _ 1 (show w.heap.size + 1 < _ by rw [World.size_alloc]; omega)).trans ((World.cell?_alloc_lt w2 _ ⟨w.heap.size + 1, 1, none⟩ (show w.heap.size + 1 < w2.heap.size by omega)).trans P41); replace P42 : w3.cell? ⟨w.heap.size + 1, 2, none⟩ = some (.int .i64 0) := (hc _ 2 (show w.heap.size + 1 < _ by rw [World.size_alloc]; omega)).trans ((World.cell?_alloc_lt w2 _ ⟨w.heap.size + 1, 2, none⟩ (show w.heap.size + 1 < w2.heap.size by omega)).trans P42); replace P43 : w3.cell? ⟨w.heap.size + 1, 3, none⟩ = some (.slice none 0 0) := (hc _ 3 (show w.heap.size + 1 < _ by rw [World.size_alloc]; omega)).trans ((World.cell?_alloc_lt w2 _ ⟨w.heap.size + 1, 3, none⟩ (show w.heap.size + 1 < w2.heap.size by omega)).trans P43); replace fz : ∀ i, w3.frozen? ⟨w.heap.size + 1, i, none⟩ = false := (fun i => (hff _ i (show w.heap.size + 1 < _ by rw [World.size_alloc]; omega)).trans ((frozen_alloc_lt (show w.heap.size + 1 < w2.heap.size by omega)).trans (fz i))); have yP5 : w2.heap.size < w3.heap.size := (by omega); have P50 : w3.cell? ⟨w2.heap.size, 0, none⟩ = some (.int .i64 c) := (hc _ 0 (by simp)).trans (by simp); have P51 : w3.cell? ⟨w2.heap.size, 1, none⟩ = some (.int .i64 y) := (hc _ 1 (by simp)).trans (by simp); have P52 : w3.cell? ⟨w2.heap.size, 2, none⟩ = some (.slice a2 l.length cap2) := (hc _ 2 (by simp)).trans (by simp); replace HB : Hid (Below w.heap.size w w3) := (HB.out.alloc (by omega) _).trans (hb.mono (by rw [World.size_alloc]; omega)); have hz5 : w3.frozen? ⟨w2.heap.size, 2, none⟩ = false := (hff _ 2 (by simp)).trans (by simp); replace HO : Hid (Own w3 w1.heap.size (.slice a2 l.length cap2) l) := (HO.out.below ((Below.refl _ _).alloc (Nat.le_refl _) _)).below hb; replace F0 := fz 0; replace F1 := fz 1; replace F2 := fz 2; replace F3 := fz 3; clear hb hc hff)
          | (go_at_call 23; refine (sEncodeRecords_any _ rs _ (hr.out.below HB.out) hf).mono ?_; rintro e w4 ⟨v4, rfl, ho4, hb⟩; rw [hE] at ho4; obtain ⟨a4, cap4, rfl⟩ := ho4.shape; obtain ⟨hc, hff⟩ := bcell hb; have z4 : w3.heap.size ≤ w4.heap.size := hb.size; replace yP2 : w.heap.size < w4.heap.size := (by omega); replace P20 : w4.cell? ⟨w.heap.size, 0, none⟩ = some (.int .i64 c) := (hc _ 0 (show w.heap.size < _ by omega)).trans P20; replace P21 : w4.cell? ⟨w.heap.size, 1, none⟩ = some (.int .i64 y) := (hc _ 1 (show w.heap.size < _ by omega)).trans P21; replace P22 : w4.cell? ⟨w.heap.size, 2, none⟩ = some (.slice a l.length cap) := (hc _ 2 (show w.heap.size < _ by omega)).trans P22; replace yP4 : w.heap.size + 1 < w4.heap.size := (by omega); replace P40 : w4.cell? ⟨w.heap.size + 1, 0, none⟩ = some (.int .i64 0) := (hc _ 0 (show w.heap.size + 1 < _ by omega)).trans P40; replace P41 : w4.cell? ⟨w.heap.size + 1, 1, none⟩ = some (.int .i64 0) := (hc _ 1 (show w.heap.size + 1 < _ by omega)).trans P41; replace P42 : w4.cell? ⟨w.heap.size + 1, 2, none⟩ = some (.int .i64 0) := (hc _ 2 (show w.heap.size + 1 < _ by omega)).trans P42; replace P43 : w4.cell? ⟨w.heap.size + 1, 3, none⟩ = some (.slice none 0 0) := (hc _ 3 (show w.heap.size + 1 < _ by omega)).trans P43; replace fz : ∀ i, w4.frozen? ⟨w.heap.size + 1, i, none⟩ = false := (fun i => (hff _ i (show w.heap.size + 1 < _ by omega)).trans (fz i)); replace yP5 : w2.heap.size < w4.heap.size := (by omega); replace P50 : w4.cell? ⟨w2.heap.size, 0, none⟩ = some (.int .i64 c) := (hc _ 0 (show w2.heap.size < _ by omega)).trans P50; replace P51 : w4.cell? ⟨w2.heap.size, 1, none⟩ = some (.int .i64 y) := (hc _ 1 (show w2.heap.size < _ by omega)).trans P51; replace P52 : w4.cell? ⟨w2.heap.size, 2, none⟩ = some (.slice a2 l.length cap2) := (hc _ 2 (show w2.heap.size < _ by omega)).trans P52; replace HB : Hid (Below w.heap.size w w4) := HB.out.trans (hb.mono (by omega)); replace hz5 : w4.frozen? ⟨w2.heap.size, 2, none⟩ = false := (hff _ 2 (show w2.heap.size < _ by omega)).trans hz5; replace HO : Hid (Own w4 w1.heap.size (.slice a2 l.length cap2) l) := HO.out.below hb; have HE4 : Hid (Own w4 w3.heap.size (.slice a4 (framesL rs).length cap4) (framesL rs)) := ho4; replace F0 := fz 0; replace F1 := fz 1; replace F2 := fz 2; replace F3 := fz 3; clear hb hc hff ho4))
        refine bodyPost_ret (v := .agg #[.int .i64 3, .int .i64 c, .int .i64 y, .slice a2 l.length cap2]) (by simp [results, Tryd.results9, go_sem, *]) rfl ⟨_, _, rfl, ?_, ?_⟩
        · exact (own_low (show w.heap.size + 1 < w1.heap.size by omega) [.int .i64 3, .int .i64 c, .int .i64 y, .slice a2 l.length cap2] 0 _ HO.out).le (by omega)
        · exact below_setCells' (show w.heap.size ≤ w.heap.size + 1 by omega) [.int .i64 3, .int .i64 c, .int .i64 y, .slice a2 l.length cap2] 0 _ HB.out
      · have e1 : dwCode c y l rs = 0 := by simp [dwCode, hd, hR, hx]
        have e4 : dwL c y l rs = l ++ framesL rs := by simp [dwL, hd, hR, hx]
        rw [e1, e4]
        clear e1 e4
        go_enter Tryd.func9, Tryd.ntmps9
        go_wp2_with (first
          | (go_at_call 45; refine (l2diskOk_any c y _ l.length cap hl _).mono ?_; rintro e w1 ⟨rfl, hb⟩; rw [hd]; obtain ⟨hc, hff⟩ := bcell hb; have z1 : w.heap.size + 1 + 1 ≤ w1.heap.size := (by have := hb.size; simp at this; omega); have yP2 : w.heap.size < w1.heap.size := (by omega); have P20 : w1.cell? ⟨w.heap.size, 0, none⟩ = some (.int .i64 c) := (hc _ 0 (by simp <;> omega)).trans (by simp); have P21 : w1.cell? ⟨w.heap.size, 1, none⟩ = some (.int .i64 y) := (hc _ 1 (by simp <;> omega)).trans (by simp); have P22 : w1.cell? ⟨w.heap.size, 2, none⟩ = some (.slice a l.length cap) := (hc _ 2 (by simp <;> omega)).trans (by simp); have yP4 : w.heap.size + 1 < w1.heap.size := (by omega); have P40 : w1.cell? ⟨w.heap.size + 1, 0, none⟩ = some (.int .i64 0) := (hc _ 0 (by simp <;> omega)).trans (by simp); have P41 : w1.cell? ⟨w.heap.size + 1, 1, none⟩ = some (.int .i64 0) := (hc _ 1 (by simp <;> omega)).trans (by simp); have P42 : w1.cell? ⟨w.heap.size + 1, 2, none⟩ = some (.int .i64 0) := (hc _ 2 (by simp <;> omega)).trans (by simp); have P43 : w1.cell? ⟨w.heap.size + 1, 3, none⟩ = some (.slice none 0 0) := (hc _ 3 (by simp <;> omega)).trans (by simp); have fz : ∀ i, w1.frozen? ⟨w.heap.size + 1, i, none⟩ = false := (fun i => (hff _ i (by simp)).trans (by simp)); have HB : Hid (Below w.heap.size w w1) := hb0.out.trans (hb.mono (by simp; omega)); have F0 := fz 0; have F1 := fz 1; have F2 := fz 2; have F3 := fz 3; clear hb hc hff)
          | (go_at_call 46; refine (l2diskCopy_any c y a cap l _ (hv.out.below HB.out) hl).mono ?_; rintro e w2 ⟨a2, cap2, rfl, ho2, hb⟩; obtain ⟨hc, hff⟩ := bcell hb; have z2 : w1.heap.size ≤ w2.heap.size := hb.size; have lt2 := fun k e => (ho2.2.lt k e); replace yP2 : w.heap.size < w2.heap.size := (by omega); replace P20 : w2.cell? ⟨w.heap.size, 0, none⟩ = some (.int .i64 c) := (hc _ 0 (show w.heap.size < _ by omega)).trans P20; replace P21 : w2.cell? ⟨w.heap.size, 1, none⟩ = some (.int .i64 y) := (hc _ 1 (show w.heap.size < _ by omega)).trans P21; replace P22 : w2.cell? ⟨w.heap.size, 2, none⟩ = some (.slice a l.length cap) := (hc _ 2 (show w.heap.size < _ by omega)).trans P22; replace yP4 : w.heap.size + 1 < w2.heap.size := (by omega); replace P40 : w2.cell? ⟨w.heap.size + 1, 0, none⟩ = some (.int .i64 0) := (hc _ 0 (show w.heap.size + 1 < _ by omega)).trans P40; replace P41 : w2.cell? ⟨w.heap.size + 1, 1, none⟩ = some (.int .i64 0) := (hc _ 1 (show w.heap.size + 1 < _ by omega)).trans P41; replace P42 : w2.cell? ⟨w.heap.size + 1, 2, none⟩ = some (.int .i64 0) := (hc _ 2 (show w.heap.size + 1 < _ by omega)).trans P42; replace P43 : w2.cell? ⟨w.heap.size + 1, 3, none⟩ = some (.slice none 0 0) := (hc _ 3 (show w.heap.size + 1 < _ by omega)).trans P43; replace fz : ∀ i, w2.frozen? ⟨w.heap.size + 1, i, none⟩ = false := (fun i => (hff _ i (show w.heap.size + 1 < _ by omega)).trans (fz i)); replace HB : Hid (Below w.heap.size w w2) := HB.out.trans (hb.mono (by omega)); have HO : Hid (Own w2 w1.heap.size (.slice a2 l.length cap2) l) := ho2; clear hb hc hff ho2)
          | (go_at_call 47; refine (l2recordsOk_any _ rs _ (hr.out.below (HB.out.alloc (by omega) _)) hf).mono ?_; rintro e w3 ⟨rfl, hb⟩; rw [hR]; obtain ⟨hc, hff⟩ := bcell hb; have z3 : w2.heap.size < w3.heap.size := (by have := hb.size; rw [World.size_alloc] at this; omega); replace yP2 : w.heap.size < w3.heap.size := (by omega); replace P20 : w3.cell? ⟨w.heap.size, 0, none⟩ = some (.int .i64 c) := (hc _ 0 (show w.heap.size < _ by rw [World.size_alloc]; omega)).trans ((World.cell?_alloc_lt w2 _ ⟨w.heap.size, 0, none⟩ (show w.heap.size < w2.heap.size by omega)).trans P20); replace P21 : w3.cell? ⟨w.heap.size, 1, none⟩ = some (.int .i64 y) := (hc _ 1 (show w.heap.size < _ by rw [World.size_alloc]; omega)).trans ((World.cell?_alloc_lt w2 _ ⟨w.heap.size, 1, none⟩ (show w.heap.size < w2.heap.size by omega)).trans P21); replace P22 : w3.cell? ⟨w.heap.size, 2, none⟩ = some (.slice a l.length cap) := (hc _ 2 (show w.heap.size < _ by rw [World.size_alloc]; omega)).trans ((World.cell?_alloc_lt w2 _ ⟨w.heap.size, 2, none⟩ (show w.heap.size < w2.heap.size by omega)).trans P22); replace yP4 : w.heap.size + 1 < w3.heap.size := (by omega); replace P40 : w3.cell? ⟨w.heap.size + 1, 0, none⟩ = some (.int .i64 0) := (hc _ 0 (show w.heap.size + 1 < _ by rw [World.size_alloc]; omega)).trans ((World.cell?_alloc_lt w2 _ ⟨w.heap.size + 1, 0, none⟩ (show w.heap.size + 1 < w2.heap.size by omega)).trans P40); replace P41 : w3.cell? ⟨w.heap.size + 1, 1, none⟩ = some (.int .i64 0) := (hc _ 1 (show w.heap.size + 1 < _ by rw [World.size_alloc]; omega)).trans ((World.cell?_alloc_lt w2 _ ⟨w.heap.size + 1, 1, none⟩ (show w.heap.size + 1 < w2.heap.size by omega)).trans P41); replace P42 : w3.cell? ⟨w.heap.size + 1, 2, none⟩ = some (.int .i64 0) := (hc _ 2 (show w.heap.size + 1 < _ by rw [World.size_alloc]; omega)).trans ((World.cell?_alloc_lt w2 _ ⟨w.heap.size + 1, 2, none⟩ (show w.heap.size + 1 < w2.heap.size by omega)).trans P42); replace P43 : w3.cell? ⟨w.heap.size + 1, 3, none⟩ = some (.slice none 0 0) := (hc _ 3 (show w.heap.size + 1 < _ by rw [World.size_alloc]; omega)).trans ((World.cell?_alloc_lt w2 _ ⟨w.heap.size + 1, 3, none⟩ (show w.heap.size + 1 < w2.heap.size by omega)).trans P43); replace fz : ∀ i, w3.frozen? ⟨w.heap.size + 1, i, none⟩ = false := (fun i => (hff _ i (show w.heap.size + 1 < _ by rw [World.size_alloc]; omega)).trans ((frozen_alloc_lt (show w.heap.size + 1 < w2.heap.size by omega)).trans (fz i))); have yP5 : w2.heap.size < w3.heap.size := (by omega); have P50 : w3.cell? ⟨w2.heap.size, 0, none⟩ = some (.int .i64 c) := (hc _ 0 (by simp)).trans (by simp); have P51 : w3.cell? ⟨w2.heap.size, 1, none⟩ = some (.int .i64 y) := (hc _ 1 (by simp)).trans (by simp); have P52 : w3.cell? ⟨w2.heap.size, 2, none⟩ = some (.slice a2 l.length cap2) := (hc _ 2 (by simp)).trans (by simp); replace HB : Hid (Below w.heap.size w w3) := (HB.out.alloc (by omega) _).trans (hb.mono (by rw [World.size_alloc]; omega)); have hz5 : w3.frozen? ⟨w2.heap.size, 2, none⟩ = false := (hff _ 2 (by simp)).trans (by simp); replace HO : Hid (Own w3 w1.heap.size (.slice a2 l.length cap2) l) := (HO.out.below ((Below.refl _ _).alloc (Nat.le_refl _) _)).below hb; replace F0 := fz 0; replace F1 := fz 1; replace F2 := fz 2; replace F3 := fz 3; clear hb hc hff)
          | (go_at_call 23; refine (sEncodeRecords_any _ rs _ (hr.out.below HB.out) hf).mono ?_; rintro e w4 ⟨v4, rfl, ho4, hb⟩; rw [hE] at ho4; obtain ⟨a4, cap4, rfl⟩ := ho4.shape; obtain ⟨hc, hff⟩ := bcell hb; have z4 : w3.heap.size ≤ w4.heap.size := hb.size; replace yP2 : w.heap.size < w4.heap.size := (by omega); replace P20 : w4.cell? ⟨w.heap.size, 0, none⟩ = some (.int .i64 c) := (hc _ 0 (show w.heap.size < _ by omega)).trans P20; replace P21 : w4.cell? ⟨w.heap.size, 1, none⟩ = some (.int .i64 y) := (hc _ 1 (show w.heap.size < _ by omega)).trans P21; replace P22 : w4.cell? ⟨w.heap.size, 2, none⟩ = some (.slice a l.length cap) := (hc _ 2 (show w.heap.size < _ by omega)).trans P22; replace yP4 : w.heap.size + 1 < w4.heap.size := (by omega); replace P40 : w4.cell? ⟨w.heap.size + 1, 0, none⟩ = some (.int .i64 0) := (hc _ 0 (show w.heap.size + 1 < _ by omega)).trans P40; replace P41 : w4.cell? ⟨w.heap.size + 1, 1, none⟩ = some (.int .i64 0) := (hc _ 1 (show w.heap.size + 1 < _ by omega)).trans P41; replace P42 : w4.cell? ⟨w.heap.size + 1, 2, none⟩ = some (.int .i64 0) := (hc _ 2 (show w.heap.size + 1 < _ by omega)).trans P42; replace P43 : w4.cell? ⟨w.heap.size + 1, 3, none⟩ = some (.slice none 0 0) := (hc _ 3 (show w.heap.size + 1 < _ by omega)).trans P43; replace fz : ∀ i, w4.frozen? ⟨w.heap.size + 1, i, none⟩ = false := (fun i => (hff _ i (show w.heap.size + 1 < _ by omega)).trans (fz i)); replace yP5 : w2.heap.size < w4.heap.size := (by omega); replace P50 : w4.cell? ⟨w2.heap.size, 0, none⟩ = some (.int .i64 c) := (hc _ 0 (show w2.heap.size < _ by omega)).trans P50; replace P51 : w4.cell? ⟨w2.heap.size, 1, none⟩ = some (.int .i64 y) := (hc _ 1 (show w2.heap.size < _ by omega)).trans P51; replace P52 : w4.cell? ⟨w2.heap.size, 2, none⟩ = some (.slice a2 l.length cap2) := (hc _ 2 (show w2.heap.size < _ by omega)).trans P52; replace HB : Hid (Below w.heap.size w w4) := HB.out.trans (hb.mono (by omega)); replace hz5 : w4.frozen? ⟨w2.heap.size, 2, none⟩ = false := (hff _ 2 (show w2.heap.size < _ by omega)).trans hz5; replace HO : Hid (Own w4 w1.heap.size (.slice a2 l.length cap2) l) := HO.out.below hb; have HE4 : Hid (Own w4 w3.heap.size (.slice a4 (framesL rs).length cap4) (framesL rs)) := ho4; replace F0 := fz 0; replace F1 := fz 1; replace F2 := fz 2; replace F3 := fz 3; clear hb hc hff ho4)
          | (at_builtin; refine wpl_append_own rfl (.tmp 32) (.tmp 33) rfl HO.out rfl HE4.out rfl (by unfold maxLen; omega) (by omega) (by omega) ?_; intro v5 w5 ho5 hg5; obtain ⟨a5, cap5, rfl⟩ := ho5.shape; have z5 : w4.heap.size ≤ w5.heap.size := hg5.g.size; have q0 : w5.cell? ⟨w2.heap.size, 0, none⟩ = some (.int .i64 c) := (hg5.cell (k := w2.heap.size) (o := 0) (by omega) (fun e => by have := (lt2 _ e).2; omega)).trans P50; have q1 : w5.cell? ⟨w2.heap.size, 1, none⟩ = some (.int .i64 y) := (hg5.cell (k := w2.heap.size) (o := 1) (by omega) (fun e => by have := (lt2 _ e).2; omega)).trans P51; have q2 : w5.cell? ⟨w2.heap.size, 2, none⟩ = some (.slice a2 l.length cap2) := (hg5.cell (k := w2.heap.size) (o := 2) (by omega) (fun e => by have := (lt2 _ e).2; omega)).trans P52; have r0 : w5.cell? ⟨w.heap.size + 1, 0, none⟩ = some (.int .i64 0) := (hg5.cell (k := w.heap.size + 1) (o := 0) (by omega) (fun e => by have := (lt2 _ e).1; omega)).trans P40; have r1 : w5.cell? ⟨w.heap.size + 1, 1, none⟩ = some (.int .i64 0) := (hg5.cell (k := w.heap.size + 1) (o := 1) (by omega) (fun e => by have := (lt2 _ e).1; omega)).trans P41; have r2 : w5.cell? ⟨w.heap.size + 1, 2, none⟩ = some (.int .i64 0) := (hg5.cell (k := w.heap.size + 1) (o := 2) (by omega) (fun e => by have := (lt2 _ e).1; omega)).trans P42; have r3 : w5.cell? ⟨w.heap.size + 1, 3, none⟩ = some (.slice none 0 0) := (hg5.cell (k := w.heap.size + 1) (o := 3) (by omega) (fun e => by have := (lt2 _ e).1; omega)).trans P43; have b5 := hg5.below HO.out (by omega); have q2' := World.cell?_setCell_same w5 ⟨w2.heap.size, 2, none⟩ (.slice a5 (l ++ framesL rs).length cap5) q2; have hz6 : w5.frozen? ⟨w2.heap.size, 2, none⟩ = false := (frozen_block (hg5.block (k := w2.heap.size) (by omega) (fun e => by have := (lt2 _ e).2; omega))).trans hz5; have f5 : ∀ i, w5.frozen? ⟨w.heap.size + 1, i, none⟩ = false := (fun i => (b5.frozen (p := ⟨w.heap.size + 1, i, none⟩) (show w.heap.size + 1 < w1.heap.size by omega)).trans (fz i)); have G0 := f5 0; have G1 := f5 1; have G2 := f5 2; have G3 := f5 3; have n5 := hg5.far (k := w2.heap.size) (by omega) (fun e => by have := (lt2 _ e).2; omega); have y5 : w2.heap.size < w5.heap.size := (by omega); have y4 : w.heap.size + 1 < w5.heap.size := (by omega)))
        rw [List.length_append] at ho5 ⊢
        have o5 := ho5.setFar (i := 2) (by rw [List.length_append] at n5; exact n5) (.slice a5 (l.length + (framesL rs).length) cap5)
        have R0 := (World.cell?_setCell_other w5 ⟨w2.heap.size, 2, none⟩ ⟨w.heap.size + 1, 0, none⟩ (.slice a5 (l.length + (framesL rs).length) cap5) (by intro h; injection h with h; omega)).trans r0
        have R1 := (World.cell?_setCell_other w5 ⟨w2.heap.size, 2, none⟩ ⟨w.heap.size + 1, 1, none⟩ (.slice a5 (l.length + (framesL rs).length) cap5) (by intro h; injection h with h; omega)).trans r1
        have R2 := (World.cell?_setCell_other w5 ⟨w2.heap.size, 2, none⟩ ⟨w.heap.size + 1, 2, none⟩ (.slice a5 (l.length + (framesL rs).length) cap5) (by intro h; injection h with h; omega)).trans r2
        have R3 := (World.cell?_setCell_other w5 ⟨w2.heap.size, 2, none⟩ ⟨w.heap.size + 1, 3, none⟩ (.slice a5 (l.length + (framesL rs).length) cap5) (by intro h; injection h with h; omega)).trans r3
        have B5 : Below w.heap.size w (w5.setCell ⟨w2.heap.size, 2, none⟩ (.slice a5 (l.length + (framesL rs).length) cap5)) := (HB.out.trans (b5.mono (by omega))).setCell (show w.heap.size ≤ w2.heap.size by omega) _
        clear P20 P21 P22 P40 P41 P42 P43 P50 P51 P52 r0 r1 r2 r3 q0 q1 q2 q2' F0 F1 F2 F3
        refine bodyPost_ret (v := .agg #[.int .i64 0, .int .i64 c, .int .i64 y, .slice a5 (l.length + (framesL rs).length) cap5]) (by simp [results, Tryd.results9, go_sem, R0, R1, R2, R3]) rfl ⟨_, _, rfl, ?_, ?_⟩
        · exact (own_low (show w.heap.size + 1 < w1.heap.size by omega) [.int .i64 0, .int .i64 c, .int .i64 y, .slice a5 (l.length + (framesL rs).length) cap5] 0 _ o5).le (by omega)
        · exact below_setCells' (show w.heap.size ≤ w.heap.size + 1 by omega) [.int .i64 0, .int .i64 c, .int .i64 y, .slice a5 (l.length + (framesL rs).length) cap5] 0 _ B5
end Go.Proofs.YtjoflnnomebkpaaDoor

/-
  The changes of impl: fits.
-/
namespace Go.Proofs.YtjoflnnomebkpaaDoor
open Go.RowKit
set_option linter.unusedVariables false
set_option linter.unusedSimpArgs false

set_option maxHeartbeats 2000000 in
set_option maxRecDepth 100000 in
theorem addFits_any (ix : Int) (e : Ent) (hf : e.fits) (w : World) :
    Calls Tryd.prog 168 #[.agg #[.int .i64 ix, .int .i64 e.t, .int .i64 e.cl, .int .i64 e.sq, .int .i64 e.op, .string e.k, .string e.v, .string e.o]] w fun x w' => x = .returned (.bool (inB ix 1 4096 && entB e)) ∧ Below w.heap.size w w' := by
  have hb0 := (Below.refl w.heap.size w).alloc (Nat.le_refl _) (.cells #[.int .i64 ix, .int .i64 e.t, .int .i64 e.cl, .int .i64 e.sq, .int .i64 e.op, .string e.k, .string e.v, .string e.o] 138)
  cases ha : inB ix 1 4096
  · go_enter Tryd.func168, Tryd.ntmps168
    go_wp2_with (go_at_call 84; refine (within_any _ _ _ _).mono ?_; rintro r w1 ⟨rfl, hw⟩; obtain rfl := hw.symm)
    go_ret
    exact ⟨ret_bool (by simp [ha]), hb0⟩
  · go_enter Tryd.func168, Tryd.ntmps168
    go_wp2_with (first
      | (go_at_call 84; refine (within_any _ _ _ _).mono ?_; rintro r w1 ⟨rfl, hw⟩; obtain rfl := hw.symm)
      | (go_at_call 115; refine (entryFits_any e hf _).mono ?_; rintro r w1 ⟨rfl, hb⟩))
    go_ret
    exact ⟨ret_bool (by simp [ha]), hb0.trans (hb.mono (by simp))⟩

theorem cutFits_any (ix : Int) (w : World) :
    Calls Tryd.prog 165 #[.agg #[.int .i64 ix]] w fun e w' => e = .returned (.bool (inB ix 0 4096)) ∧ Below w.heap.size w w' := by
  have hb0 := (Below.refl w.heap.size w).alloc (Nat.le_refl _) (.cells #[.int .i64 ix] 136)
  go_enter Tryd.func165, Tryd.ntmps165
  go_wp2_with (go_at_call 84; refine (within_any _ _ _ _).mono ?_; rintro r w1 ⟨rfl, hw⟩; obtain rfl := hw.symm)
  go_ret
  exact ⟨rfl, hb0⟩
end Go.Proofs.YtjoflnnomebkpaaDoor

/-
  The changes of impl: record, fits.
-/

/-
  The changes of impl: encode.
-/
namespace Go.Proofs.YtjoflnnomebkpaaDoor
open Go.RowKit
set_option linter.unusedVariables false
set_option linter.unusedSimpArgs false

set_option maxHeartbeats 4000000 in
set_option maxRecDepth 100000 in
theorem cutEncode_any (ix : Nat) (h1 : ix ≤ 4096) (w : World) :
    Calls Tryd.prog 164 #[.agg #[.int .i64 ix], .slice none 0 0] w fun e w' => ∃ v', e = .returned v' ∧ Own w' w.heap.size v' (13 :: numL ix) ∧ Below w.heap.size w w' := by
  have n1 := numL_len9 ix (by omega)
  go_enter Tryd.func164, Tryd.ntmps164
  go_wp2
  go_region_held3 (fun w' => w'.cell? ⟨w.heap.size, 0, none⟩ = some (.int .i64 ix)) (simp [*, go_sem, World.cell?_alloc_past])
    (first
      | ((refine stp_append rfl (.tmp 5) (.tmp 6) rfl (Own.nil _ w.heap.size) rfl (u := .slice (some ⟨w.heap.size + 1, 0, none⟩) 1 1) (l2 := [13]) ?u1 rfl (by simp) (by simp) ?u2 ?_; (case u1 => exact Bs.cell1 (by simp [go_sem]) (by omega)); (case u2 => simp; omega); intro v1 w1 ho1 hg1; have hz1 := hg1.g.size; simp at hz1; have hcc := fun (o : Nat) => hg1.cell (k := w.heap.size) (o := o) (by simp; omega) (by simp [Value.ownBlock]); have f1 : v1.ownBlock ≠ some w.heap.size := hg1.far (by simp; omega) (by simp [Value.ownBlock]); have hB1 := hg1.below (Own.nil _ w.heap.size) (by simp; omega)))
      | (go_at_call 160; (refine Calls.mono (putNumber_any _ [13] ix _ w.heap.size ?q1 ?q2 (by simp) (by omega)) ?_; (case q1 => exact ho1); (case q2 => omega); rintro e w2 ⟨v2, rfl, ho2, hg2⟩; have hdd := fun (o : Nat) => hg2.cell (k := w.heap.size) (o := o) (by omega) f1; have hB2 := hg2.below ho1 (by omega))))
  all_goals go_wp2
  all_goals go_ret
  all_goals refine ⟨_, rfl, by simpa using ho2, Below.trans ?_ (hB1.trans hB2)⟩
  all_goals repeat (first | exact Below.refl _ _ | refine Below.drew ?_ | refine Below.alloc ?_ (by simp; done) _ | refine Below.alloc ?_ (by simp; omega) _)

set_option maxHeartbeats 8000000 in
set_option maxRecDepth 100000 in
theorem addEncode_any (ix t cl sq op : Nat) (k vl o : ByteArray) (h1 : ix ≤ 4096) (h0 : t < 9223372036854775808) (h2 : cl < 9223372036854775808) (h3 : sq < 9223372036854775808) (h4 : op < 9223372036854775808) (hk : k.size ≤ 64) (hv : vl.size ≤ 64) (ho : o.size ≤ 64) (w : World) :
    Calls Tryd.prog 167 #[.agg #[.int .i64 ix, .int .i64 t, .int .i64 cl, .int .i64 sq, .int .i64 op, .string k, .string vl, .string o], .slice none 0 0] w fun e w' => ∃ v', e = .returned v' ∧ Own w' w.heap.size v' (12 :: (numL ix ++ entN t cl sq op k vl o)) ∧ Below w.heap.size w w' := by
  have n1 := numL_len9 ix (by omega)
  go_enter Tryd.func167, Tryd.ntmps167
  go_wp2
  go_region_held3 (fun w' => w'.cell? ⟨w.heap.size, 0, none⟩ = some (.int .i64 ix) ∧ w'.cell? ⟨w.heap.size, 1, none⟩ = some (.int .i64 t) ∧ w'.cell? ⟨w.heap.size, 2, none⟩ = some (.int .i64 cl) ∧ w'.cell? ⟨w.heap.size, 3, none⟩ = some (.int .i64 sq) ∧ w'.cell? ⟨w.heap.size, 4, none⟩ = some (.int .i64 op) ∧ w'.cell? ⟨w.heap.size, 5, none⟩ = some (.string k) ∧ w'.cell? ⟨w.heap.size, 6, none⟩ = some (.string vl) ∧ w'.cell? ⟨w.heap.size, 7, none⟩ = some (.string o)) (simp [*, go_sem, World.cell?_alloc_past])
    (first
      | ((refine stp_append rfl (.tmp 5) (.tmp 6) rfl (Own.nil _ w.heap.size) rfl (u := .slice (some ⟨w.heap.size + 1, 0, none⟩) 1 1) (l2 := [12]) ?u1 rfl (by simp) (by simp) ?u2 ?_; (case u1 => exact Bs.cell1 (by simp [go_sem]) (by omega)); (case u2 => simp; omega); intro v1 w1 ho1 hg1; have hz1 := hg1.g.size; simp at hz1; have hcc := fun (o : Nat) => hg1.cell (k := w.heap.size) (o := o) (by simp; omega) (by simp [Value.ownBlock]); have f1 : v1.ownBlock ≠ some w.heap.size := hg1.far (by simp; omega) (by simp [Value.ownBlock]); have hB1 := hg1.below (Own.nil _ w.heap.size) (by simp; omega)))
      | (go_at_call 160; (refine Calls.mono (putNumber_any _ [12] ix _ w.heap.size ?q1 ?q2 (by simp) (by omega)) ?_; (case q1 => exact ho1); (case q2 => omega); rintro e w2 ⟨v2, rfl, ho2, hg2⟩; have hz2 : w1.heap.size ≤ w2.heap.size := hg2.g.size; have hdd := fun (o : Nat) => hg2.cell (k := w.heap.size) (o := o) (show w.heap.size < w1.heap.size by omega) f1; have f2 : v2.ownBlock ≠ some w.heap.size := hg2.far (show w.heap.size < w1.heap.size by omega) f1; have hB2 := hg2.below ho1 (by omega)))
      | (go_at_call 170; (refine Calls.mono (putEntry_nat _ ([12] ++ numL ix) t cl sq op k vl o _ w.heap.size ?r1 ?r2 ?r3 h0 h2 h3 h4 hk hv ho) ?_; (case r1 => exact ho2); (case r2 => show w.heap.size ≤ w2.heap.size; omega); (case r3 => simp; omega); rintro e w3 ⟨v3, rfl, ho3, hg3⟩; have hee := fun (o : Nat) => hg3.cell (k := w.heap.size) (o := o) (show w.heap.size < w2.heap.size by omega) f2; have hB3 := hg3.below ho2 (show w.heap.size ≤ w2.heap.size by omega))))
  all_goals go_wp2
  all_goals go_ret
  all_goals refine ⟨_, rfl, by simpa using ho3, Below.trans ?_ (hB1.trans (hB2.trans hB3))⟩
  all_goals repeat (first | exact Below.refl _ _ | refine Below.drew ?_ | refine Below.alloc ?_ (by simp; done) _ | refine Below.alloc ?_ (by simp; omega) _)
end Go.Proofs.YtjoflnnomebkpaaDoor

/-
  impl.hardChange.encode.
-/
namespace Go.Proofs.YtjoflnnomebkpaaDoor
open Go.RowKit
set_option linter.unusedVariables false
set_option linter.unusedSimpArgs false

theorem Ints.two (w : World) (a b : Nat) : ∀ j, j < [a, b].length → (w.alloc (.cells #[.int .i64 a, .int .i64 b] 3)).cell? ⟨w.heap.size, j, none⟩ = some (.int .i64 ([a, b][j]?.getD 0 : Nat)) := by
  intro j hj
  rw [World.cell?_alloc_new]
  match j, hj with
  | 0, _ => rfl
  | 1, _ => rfl

theorem ints_two {w : World} {b a c : Nat} (h0 : w.cell? ⟨b, 0, none⟩ = some (.int .i64 a)) (h1 : w.cell? ⟨b, 1, none⟩ = some (.int .i64 c)) : ∀ j, j < [a, c].length → w.cell? ⟨b, j, none⟩ = some (.int .i64 ([a, c][j]?.getD 0 : Nat)) := by
  intro j hj
  match j, hj with
  | 0, _ => exact h0
  | 1, _ => exact h1

set_option maxHeartbeats 8000000 in
set_option maxRecDepth 100000 in
theorem hardEncode_any (tm vo : Nat) (h1 : tm ≤ 1073741824) (h2 : vo ≤ 7) (w : World) :
    Calls Tryd.prog 158 #[.agg #[.int .i64 tm, .int .i64 vo], .slice none 0 0] w fun e w' => ∃ v', e = .returned v' ∧ Own w' w.heap.size v' (11 :: (numL tm ++ numL vo)) ∧ Below w.heap.size w w' := by
  have n1 := numL_len9 tm (by omega)
  have n2 := numL_len9 vo (by omega)
  have hnm : Hid (∀ n ∈ [tm, vo], n < 9223372036854775808) := (by simp; omega : ∀ n ∈ [tm, vo], n < 9223372036854775808)
  go_enter Tryd.func158, Tryd.ntmps158
  go_wp2
  go_region_held3 (fun w' => w'.cell? ⟨w.heap.size, 0, none⟩ = some (.int .i64 tm) ∧ w'.cell? ⟨w.heap.size, 1, none⟩ = some (.int .i64 vo)) (simp [*, go_sem, World.cell?_alloc_past])
    (first
      | ((refine stp_append rfl (.tmp 5) (.tmp 6) rfl (Own.nil _ w.heap.size) rfl (u := .slice (some ⟨w.heap.size + 1, 0, none⟩) 1 1) (l2 := [11]) ?u1 rfl (by simp) (by simp) ?u2 ?_; (case u2 => (refine Nat.le_trans (show w.heap.size ≤ w.heap.size + 1 + 1 + 1 by omega) ?_; simp; done)); (case u1 => exact Bs.cell1 (by simp [go_sem]) (by omega)); intro v1 w1 ho1 hg1; have hz1 := hg1.g.size; simp at hz1; have hz1' : w.heap.size < w1.heap.size := (by omega); have hcc := fun (o : Nat) => hg1.cell (k := w.heap.size) (o := o) (by simp; omega) (by simp [Value.ownBlock]); have f1 : v1.ownBlock ≠ some w.heap.size := hg1.far (by simp; omega) (by simp [Value.ownBlock]); have hB1 := hg1.below (Own.nil _ w.heap.size) (by simp; omega); have j0 : w1.cell? ⟨w.heap.size + 1 + 1, 0, none⟩ = some (.int .i64 tm) := (hg1.cell (k := w.heap.size + 1 + 1) (o := 0) (by simp <;> omega) (by simp [Value.ownBlock])).trans (by simp [go_sem]); have j1 : w1.cell? ⟨w.heap.size + 1 + 1, 1, none⟩ = some (.int .i64 vo) := (hg1.cell (k := w.heap.size + 1 + 1) (o := 1) (by simp <;> omega) (by simp [Value.ownBlock])).trans (by simp [go_sem]); have f3 : v1.ownBlock ≠ some (w.heap.size + 1 + 1) := hg1.far (by simp <;> omega) (by simp [Value.ownBlock]); have HCB : Hid (Calls Tryd.prog 159 #[v1, .slice (some ⟨w.heap.size + 1 + 1, 0, none⟩) 2 2] w1 fun e w' => ∃ v', e = .returned v' ∧ Own w' w.heap.size v' ([11] ++ numsL [tm, vo]) ∧ Grew w1 v1 w' v') := putNumbers_any v1 [11] [tm, vo] (w.heap.size + 1 + 1) 2 _ w.heap.size ho1 (by omega) (by simp) hnm.out (by simp) (ints_two j0 j1) f3; clear f3))
      | ((refine stp_append rfl (.tmp 5) (.tmp 6) rfl (Own.nil _ w.heap.size) rfl (u := .slice (some ⟨w.heap.size + 1 + 1, 0, none⟩) 1 1) (l2 := [11]) ?u1 rfl (by simp) (by simp) ?u2 ?_; (case u2 => (refine Nat.le_trans (show w.heap.size ≤ w.heap.size + 1 + 1 + 1 by omega) ?_; simp; done)); (case u1 => exact Bs.cell1 (by simp [go_sem]) (by omega)); intro v1 w1 ho1 hg1; have hz1 := hg1.g.size; simp at hz1; have hz1' : w.heap.size < w1.heap.size := (by omega); have hcc := fun (o : Nat) => hg1.cell (k := w.heap.size) (o := o) (by simp; omega) (by simp [Value.ownBlock]); have f1 : v1.ownBlock ≠ some w.heap.size := hg1.far (by simp; omega) (by simp [Value.ownBlock]); have hB1 := hg1.below (Own.nil _ w.heap.size) (by simp; omega); have j0 : w1.cell? ⟨w.heap.size + 1, 0, none⟩ = some (.int .i64 tm) := (hg1.cell (k := w.heap.size + 1) (o := 0) (by simp <;> omega) (by simp [Value.ownBlock])).trans (by simp [go_sem]); have j1 : w1.cell? ⟨w.heap.size + 1, 1, none⟩ = some (.int .i64 vo) := (hg1.cell (k := w.heap.size + 1) (o := 1) (by simp <;> omega) (by simp [Value.ownBlock])).trans (by simp [go_sem]); have f3 : v1.ownBlock ≠ some (w.heap.size + 1) := hg1.far (by simp <;> omega) (by simp [Value.ownBlock]); have HCB : Hid (Calls Tryd.prog 159 #[v1, .slice (some ⟨w.heap.size + 1, 0, none⟩) 2 2] w1 fun e w' => ∃ v', e = .returned v' ∧ Own w' w.heap.size v' ([11] ++ numsL [tm, vo]) ∧ Grew w1 v1 w' v') := putNumbers_any v1 [11] [tm, vo] (w.heap.size + 1) 2 _ w.heap.size ho1 (by omega) (by simp) hnm.out (by simp) (ints_two j0 j1) f3; clear f3))
      | ((refine stp_append rfl (.tmp 5) (.tmp 6) rfl (Own.nil _ w.heap.size) rfl (u := .slice (some ⟨w.heap.size + 1, 0, none⟩) 1 1) (l2 := [11]) ?u1 rfl (by simp) (by simp) ?u2 ?_; (case u2 => simp; omega); (case u1 => exact Bs.cell1 (by simp [go_sem]) (by omega)); intro v1 w1 ho1 hg1; have hz1 := hg1.g.size; simp at hz1; have hz1' : w.heap.size < w1.heap.size := (by omega); have hcc := fun (o : Nat) => hg1.cell (k := w.heap.size) (o := o) (by simp; omega) (by simp [Value.ownBlock]); have f1 : v1.ownBlock ≠ some w.heap.size := hg1.far (by simp; omega) (by simp [Value.ownBlock]); have hB1 := hg1.below (Own.nil _ w.heap.size) (by simp; omega); have n1' := ho1.ne (Nat.le_refl w1.heap.size); have hI := Ints.two w1 tm vo; have hA : Own (w1.alloc (.cells #[.int .i64 tm, .int .i64 vo] 3)) w.heap.size v1 [11] := ho1.below ((Below.refl w1.heap.size w1).alloc (Nat.le_refl _) _); have HC : Hid (Calls Tryd.prog 159 #[v1, .slice (some ⟨w1.heap.size, 0, none⟩) 2 2] (w1.alloc (.cells #[.int .i64 tm, .int .i64 vo] 3)) fun e w' => ∃ v', e = .returned v' ∧ Own w' w.heap.size v' ([11] ++ numsL [tm, vo]) ∧ Grew (w1.alloc (.cells #[.int .i64 tm, .int .i64 vo] 3)) v1 w' v') := putNumbers_any v1 [11] [tm, vo] w1.heap.size 2 _ w.heap.size hA (by simp; omega) (by simp) hnm.out (by simp) hI n1'; clear hI))
      | (go_at_call 159; refine Calls.mono HCB.out ?_; rintro e w2 ⟨v2, rfl, ho2, hg2⟩; have hdd := fun (o : Nat) => hg2.cell (k := w.heap.size) (o := o) hz1' f1; have hB2 := hB1.trans (hg2.below ho1 (by omega)))
      | (go_at_call 159; refine Calls.mono HC.out ?_; rintro e w2 ⟨v2, rfl, ho2, hg2⟩; have hdd := fun (o : Nat) => hg2.cell (k := w.heap.size) (o := o) (by rw [World.size_alloc]; omega) f1; have hB2 := hB1.trans (((Below.refl _ _).alloc (by omega) _).trans (hg2.below hA (by rw [World.size_alloc]; omega)))))
  all_goals go_wp2
  all_goals go_ret
  all_goals refine ⟨_, rfl, by simpa [numsL] using ho2, Below.trans ?_ hB2⟩
  all_goals repeat (first | exact Below.refl _ _ | refine Below.drew ?_ | refine Below.alloc ?_ (Nat.le_refl _) _ | refine Below.alloc ?_ (by simp only [World.size_alloc]; omega) _)
end Go.Proofs.YtjoflnnomebkpaaDoor

/-
  impl.changeOf: what it answers.
-/
namespace Go.Proofs.YtjoflnnomebkpaaDoor
open Go.RowKit
set_option linter.unusedVariables false
set_option linter.unusedSimpArgs false

/-- the value of a sentinel; an error that wraps it -/
abbrev sentR (a : Addr) : Value := .iface 203 (.pointer (some a))
def chV (r : Rec) : Value := if r.ki = 1 then .iface 97 (.agg #[.int .i64 r.tm, .int .i64 r.vo]) else if r.ki = 2 then .iface 138 (.agg #[.int .i64 r.ix, .int .i64 r.e.t, .int .i64 r.e.cl, .int .i64 r.e.sq, .int .i64 r.e.op, .string r.e.k, .string r.e.v, .string r.e.o]) else .iface 136 (.agg #[.int .i64 r.ix])
def chAns (A : Addr) (r : Rec) : Value := if recB r = true then .tuple #[chV r, .nilIface] else .tuple #[.nilIface, .iface 124 (.agg #[sentR A, .int .i64 0])]
theorem ch_below {B : Nat} {w w' u : World} (h : Below B w u) (he : w'.heap = u.heap := by rfl) (h1 : w'.os = u.os := by rfl) (h2 : w'.tape = u.tape := by rfl) (h3 : w'.output = u.output := by rfl) : Below B w w' :=
  ⟨h1.trans h.os, h2.trans h.tape, h3.trans h.output, by rw [he]; exact h.size, fun k hk => by rw [he]; exact h.block k hk⟩
theorem ch_trans {B : Nat} {w0 w u w' : World} (h0 : Below B w0 w) (h : Below u.heap.size u w') (hB : B ≤ w.heap.size) (he : u.heap = w.heap := by rfl) (h1 : u.os = w.os := by rfl) (h2 : u.tape = w.tape := by rfl) (h3 : u.output = w.output := by rfl) : Below B w0 w' :=
  h0.trans ⟨h.os.trans h1, h.tape.trans h2, h.output.trans h3, by rw [← he]; exact h.size, fun k hk => by rw [← he]; exact h.block k (by rw [he]; omega)⟩
theorem meth_hard_record (x : Value) (w : World) : (method 344 97 x "loop.example/s01586/impl.record").run Tryd.prog w = .ok (92, x) w := by kernel_rfl
theorem meth_hard_fits (x : Value) (w : World) : (method 344 97 x "loop.example/s01586/impl.fits").run Tryd.prog w = .ok (90, x) w := by kernel_rfl
theorem meth_hard_encode (x : Value) (w : World) : (method 344 97 x "loop.example/s01586/impl.encode").run Tryd.prog w = .ok (158, x) w := by kernel_rfl
theorem meth_add_record (x : Value) (w : World) : (method 344 138 x "loop.example/s01586/impl.record").run Tryd.prog w = .ok (94, x) w := by kernel_rfl
theorem meth_add_fits (x : Value) (w : World) : (method 344 138 x "loop.example/s01586/impl.fits").run Tryd.prog w = .ok (168, x) w := by kernel_rfl
theorem meth_add_encode (x : Value) (w : World) : (method 344 138 x "loop.example/s01586/impl.encode").run Tryd.prog w = .ok (167, x) w := by kernel_rfl
theorem meth_cut_record (x : Value) (w : World) : (method 344 136 x "loop.example/s01586/impl.record").run Tryd.prog w = .ok (93, x) w := by kernel_rfl
theorem meth_cut_fits (x : Value) (w : World) : (method 344 136 x "loop.example/s01586/impl.fits").run Tryd.prog w = .ok (165, x) w := by kernel_rfl
theorem meth_cut_encode (x : Value) (w : World) : (method 344 136 x "loop.example/s01586/impl.encode").run Tryd.prog w = .ok (164, x) w := by kernel_rfl
end Go.Proofs.YtjoflnnomebkpaaDoor

/-
  impl.changeOf: a hard record.
-/
namespace Go.Proofs.YtjoflnnomebkpaaDoor
open Go.RowKit
set_option linter.unusedVariables false
set_option linter.unusedSimpArgs false

set_option maxHeartbeats 20000000 in
set_option maxRecDepth 100000 in
theorem changeOf_hard (tm vo ix t cl sq op : Int) (k v o : ByteArray) (hf : (⟨t, cl, sq, op, k, v, o⟩ : Ent).fits) (A : Addr) (w : World) (hG : w.cell? ⟨0, 0, none⟩ = some (sentR A)) :
    Calls Tryd.prog 82 #[.agg #[.int .i64 1, .int .i64 tm, .int .i64 vo, .int .i64 ix, .int .i64 t, .int .i64 cl, .int .i64 sq, .int .i64 op, .string k, .string v, .string o]] w fun x w' => x = .returned (chAns A ⟨1, tm, vo, ix, ⟨t, cl, sq, op, k, v, o⟩⟩) ∧ Below w.heap.size w w' := by
  have hgl := cell_lt hG
  by_cases hix : ix = 0
  · subst hix
    by_cases ht : t = 0
    · subst ht
      by_cases hcl : cl = 0
      · subst hcl
        by_cases hsq : sq = 0
        · subst hsq
          by_cases hop : op = 0
          · subst hop
            by_cases hk : k = .empty
            · subst hk
              by_cases hv : v = .empty
              · subst hv
                by_cases ho : o = .empty
                · subst ho
                  cases hF : (inB tm 0 1073741824 && (inB vo 0 7 && (decide (0 < tm) || vo == 0)))
                  · have hN : noEntB (⟨0, 0, 0, 0, .empty, .empty, .empty⟩ : Ent) = true := by rw [noEnt_iff]; rfl
                    have hR : recB (⟨1, tm, vo, 0, ⟨0, 0, 0, 0, .empty, .empty, .empty⟩⟩ : Rec) = false := by show (if (1 : Int) = 1 then ((0 : Int) == 0) && (noEntB _ && (inB tm 0 1073741824 && (inB vo 0 7 && (decide (0 < tm) || vo == 0)))) else _) = _; rw [if_pos rfl, hN, hF]; rfl
                    have hC : chAns A (⟨1, tm, vo, 0, ⟨0, 0, 0, 0, .empty, .empty, .empty⟩⟩ : Rec) = .tuple #[.nilIface, .iface 124 (.agg #[sentR A, .int .i64 0])] := by unfold chAns; rw [hR]; rfl
                    rw [hC]
                    clear hC hR
                    have hB0 : Hid (Below w.heap.size w (w.alloc (.cells #[.int .i64 1, .int .i64 tm, .int .i64 vo, .int .i64 0, .int .i64 0, .int .i64 0, .int .i64 0, .int .i64 0, .string .empty, .string .empty, .string .empty] 94))) := (Below.refl _ _).alloc (Nat.le_refl _) _
                    have m1 := fun x w => meth_hard_record x w
                    have m2 := fun x w => meth_hard_fits x w
                    go_enter Tryd.func82, Tryd.ntmps82
                    go_wp2
                    go_region_held3 (fun w' => w'.cell? ⟨w.heap.size, 0, none⟩ = some (.int .i64 1) ∧ w'.cell? ⟨w.heap.size, 1, none⟩ = some (.int .i64 tm) ∧ w'.cell? ⟨w.heap.size, 2, none⟩ = some (.int .i64 vo) ∧ w'.cell? ⟨w.heap.size, 3, none⟩ = some (.int .i64 0) ∧ w'.cell? ⟨w.heap.size, 4, none⟩ = some (.int .i64 0) ∧ w'.cell? ⟨w.heap.size, 5, none⟩ = some (.int .i64 0) ∧ w'.cell? ⟨w.heap.size, 6, none⟩ = some (.int .i64 0) ∧ w'.cell? ⟨w.heap.size, 7, none⟩ = some (.int .i64 0) ∧ w'.cell? ⟨w.heap.size, 8, none⟩ = some (.string .empty) ∧ w'.cell? ⟨w.heap.size, 9, none⟩ = some (.string .empty) ∧ w'.cell? ⟨w.heap.size, 10, none⟩ = some (.string .empty)) (simp [*, go_sem])
                      (first
                        | (go_at_call 92; refine (hardRecord_any tm vo _).mono ?_; rintro x w1 ⟨rfl, hb1⟩; have hz1 : w.heap.size < w1.heap.size := (by have := hb1.size; simp at this; omega); have q1 := fun (o : Nat) => (bcell hb1).1 w.heap.size o (by simp); have hG1 : w1.cell? ⟨0, 0, none⟩ = some (sentR A) := ((bcell hb1).1 _ 0 (by simp <;> omega)).trans (((bcell ((Below.refl w.heap.size w).alloc (Nat.le_refl _) (.cells #[.int .i64 1, .int .i64 tm, .int .i64 vo, .int .i64 0, .int .i64 0, .int .i64 0, .int .i64 0, .int .i64 0, .string .empty, .string .empty, .string .empty] 94))).1 _ 0 hgl).trans hG))
                        | (go_at_call 90; refine (hardFits_any tm vo _).mono ?_; rintro x w2 ⟨rfl, hb2⟩; have hz2 : w.heap.size < w2.heap.size := (by have := hb2.size; omega); have q2 := fun (o : Nat) => (bcell hb2).1 w.heap.size o hz1; have hG2 : w2.cell? ⟨0, 0, none⟩ = some (sentR A) := ((bcell hb2).1 _ 0 (by omega)).trans hG1; rw [hF]))
                    all_goals go_wp2
                    all_goals go_quiet (fail)
                    all_goals go_wp2
                    all_goals go_ret2
                    all_goals exact ⟨rfl, ch_below (ch_trans (ch_trans hB0.out hb1 (by simp)) hb2 (by omega))⟩
                  · have hN : noEntB (⟨0, 0, 0, 0, .empty, .empty, .empty⟩ : Ent) = true := by rw [noEnt_iff]; rfl
                    have hR : recB (⟨1, tm, vo, 0, ⟨0, 0, 0, 0, .empty, .empty, .empty⟩⟩ : Rec) = true := by show (if (1 : Int) = 1 then ((0 : Int) == 0) && (noEntB _ && (inB tm 0 1073741824 && (inB vo 0 7 && (decide (0 < tm) || vo == 0)))) else _) = _; rw [if_pos rfl, hN, hF]; rfl
                    have hC : chAns A (⟨1, tm, vo, 0, ⟨0, 0, 0, 0, .empty, .empty, .empty⟩⟩ : Rec) = .tuple #[.iface 97 (.agg #[.int .i64 tm, .int .i64 vo]), .nilIface] := by unfold chAns; rw [hR]; rfl
                    rw [hC]
                    clear hC hR
                    have hB0 : Hid (Below w.heap.size w (w.alloc (.cells #[.int .i64 1, .int .i64 tm, .int .i64 vo, .int .i64 0, .int .i64 0, .int .i64 0, .int .i64 0, .int .i64 0, .string .empty, .string .empty, .string .empty] 94))) := (Below.refl _ _).alloc (Nat.le_refl _) _
                    have m1 := fun x w => meth_hard_record x w
                    have m2 := fun x w => meth_hard_fits x w
                    go_enter Tryd.func82, Tryd.ntmps82
                    go_wp2
                    go_region_held3 (fun w' => w'.cell? ⟨w.heap.size, 0, none⟩ = some (.int .i64 1) ∧ w'.cell? ⟨w.heap.size, 1, none⟩ = some (.int .i64 tm) ∧ w'.cell? ⟨w.heap.size, 2, none⟩ = some (.int .i64 vo) ∧ w'.cell? ⟨w.heap.size, 3, none⟩ = some (.int .i64 0) ∧ w'.cell? ⟨w.heap.size, 4, none⟩ = some (.int .i64 0) ∧ w'.cell? ⟨w.heap.size, 5, none⟩ = some (.int .i64 0) ∧ w'.cell? ⟨w.heap.size, 6, none⟩ = some (.int .i64 0) ∧ w'.cell? ⟨w.heap.size, 7, none⟩ = some (.int .i64 0) ∧ w'.cell? ⟨w.heap.size, 8, none⟩ = some (.string .empty) ∧ w'.cell? ⟨w.heap.size, 9, none⟩ = some (.string .empty) ∧ w'.cell? ⟨w.heap.size, 10, none⟩ = some (.string .empty)) (simp [*, go_sem])
                      (first
                        | (go_at_call 92; refine (hardRecord_any tm vo _).mono ?_; rintro x w1 ⟨rfl, hb1⟩; have hz1 : w.heap.size < w1.heap.size := (by have := hb1.size; simp at this; omega); have q1 := fun (o : Nat) => (bcell hb1).1 w.heap.size o (by simp); have hG1 : w1.cell? ⟨0, 0, none⟩ = some (sentR A) := ((bcell hb1).1 _ 0 (by simp <;> omega)).trans (((bcell ((Below.refl w.heap.size w).alloc (Nat.le_refl _) (.cells #[.int .i64 1, .int .i64 tm, .int .i64 vo, .int .i64 0, .int .i64 0, .int .i64 0, .int .i64 0, .int .i64 0, .string .empty, .string .empty, .string .empty] 94))).1 _ 0 hgl).trans hG))
                        | (go_at_call 90; refine (hardFits_any tm vo _).mono ?_; rintro x w2 ⟨rfl, hb2⟩; have hz2 : w.heap.size < w2.heap.size := (by have := hb2.size; omega); have q2 := fun (o : Nat) => (bcell hb2).1 w.heap.size o hz1; have hG2 : w2.cell? ⟨0, 0, none⟩ = some (sentR A) := ((bcell hb2).1 _ 0 (by omega)).trans hG1; rw [hF]))
                    all_goals go_wp2
                    all_goals go_ret2
                    all_goals exact ⟨rfl, ch_below (ch_trans (ch_trans hB0.out hb1 (by simp)) hb2 (by omega))⟩
                · have hN : noEntB (⟨0, 0, 0, 0, .empty, .empty, o⟩ : Ent) = false := by
                    cases hB : noEntB (⟨0, 0, 0, 0, .empty, .empty, o⟩ : Ent)
                    · rfl
                    · rw [noEnt_iff] at hB; injection hB with e0 e1 e2 e3 e4 e5 e6; exact absurd e6 ho
                  have b_o := text_ne ho
                  have c_o := text_ne' ho
                  have d_o : ¬ ([] : List UInt8) = o.toList := fun e => b_o e.symm
                  have e_o : (([] : List UInt8) == o.toList) = false := by simpa using d_o
                  have hR : recB (⟨1, tm, vo, 0, ⟨0, 0, 0, 0, .empty, .empty, o⟩⟩ : Rec) = false := by simp [recB, hN]
                  have hC : chAns A (⟨1, tm, vo, 0, ⟨0, 0, 0, 0, .empty, .empty, o⟩⟩ : Rec) = .tuple #[.nilIface, .iface 124 (.agg #[sentR A, .int .i64 0])] := by unfold chAns; rw [hR]; rfl
                  rw [hC]
                  clear hC hR
                  have hB0 : Hid (Below w.heap.size w (w.alloc (.cells #[.int .i64 1, .int .i64 tm, .int .i64 vo, .int .i64 0, .int .i64 0, .int .i64 0, .int .i64 0, .int .i64 0, .string .empty, .string .empty, .string o] 94))) := (Below.refl _ _).alloc (Nat.le_refl _) _
                  have m1 := fun x w => meth_hard_record x w
                  have m2 := fun x w => meth_hard_fits x w
                  go_enter Tryd.func82, Tryd.ntmps82
                  go_wp2
                  first | (go_region_with (go_at_call 92; refine (hardRecord_any tm vo _).mono ?_; rintro x w1 ⟨rfl, hb1⟩; have hz1 : w.heap.size < w1.heap.size := (by have := hb1.size; simp at this; omega); have k0 : w1.cell? ⟨w.heap.size, 0, none⟩ = some (.int .i64 1) := ((bcell hb1).1 w.heap.size 0 (by simp)).trans (by simp [go_sem]); have k1 : w1.cell? ⟨w.heap.size, 1, none⟩ = some (.int .i64 tm) := ((bcell hb1).1 w.heap.size 1 (by simp)).trans (by simp [go_sem]); have k2 : w1.cell? ⟨w.heap.size, 2, none⟩ = some (.int .i64 vo) := ((bcell hb1).1 w.heap.size 2 (by simp)).trans (by simp [go_sem]); have k3 : w1.cell? ⟨w.heap.size, 3, none⟩ = some (.int .i64 0) := ((bcell hb1).1 w.heap.size 3 (by simp)).trans (by simp [go_sem]); have k4 : w1.cell? ⟨w.heap.size, 4, none⟩ = some (.int .i64 0) := ((bcell hb1).1 w.heap.size 4 (by simp)).trans (by simp [go_sem]); have k5 : w1.cell? ⟨w.heap.size, 5, none⟩ = some (.int .i64 0) := ((bcell hb1).1 w.heap.size 5 (by simp)).trans (by simp [go_sem]); have k6 : w1.cell? ⟨w.heap.size, 6, none⟩ = some (.int .i64 0) := ((bcell hb1).1 w.heap.size 6 (by simp)).trans (by simp [go_sem]); have k7 : w1.cell? ⟨w.heap.size, 7, none⟩ = some (.int .i64 0) := ((bcell hb1).1 w.heap.size 7 (by simp)).trans (by simp [go_sem]); have k8 : w1.cell? ⟨w.heap.size, 8, none⟩ = some (.string .empty) := ((bcell hb1).1 w.heap.size 8 (by simp)).trans (by simp [go_sem]); have k9 : w1.cell? ⟨w.heap.size, 9, none⟩ = some (.string .empty) := ((bcell hb1).1 w.heap.size 9 (by simp)).trans (by simp [go_sem]); have k10 : w1.cell? ⟨w.heap.size, 10, none⟩ = some (.string o) := ((bcell hb1).1 w.heap.size 10 (by simp)).trans (by simp [go_sem]); have hG1 : w1.cell? ⟨0, 0, none⟩ = some (sentR A) := ((bcell hb1).1 _ 0 (by simp <;> omega)).trans (((bcell ((Below.refl w.heap.size w).alloc (Nat.le_refl _) (.cells #[.int .i64 1, .int .i64 tm, .int .i64 vo, .int .i64 0, .int .i64 0, .int .i64 0, .int .i64 0, .int .i64 0, .string .empty, .string .empty, .string o] 94))).1 _ 0 hgl).trans hG))) | fail
                  all_goals go_wp2
                  all_goals go_quiet (fail)
                  all_goals go_wp2
                  all_goals go_ret2
                  all_goals exact ⟨rfl, ch_below (ch_trans hB0.out hb1 (by simp))⟩
              · have hN : noEntB (⟨0, 0, 0, 0, .empty, v, o⟩ : Ent) = false := by
                  cases hB : noEntB (⟨0, 0, 0, 0, .empty, v, o⟩ : Ent)
                  · rfl
                  · rw [noEnt_iff] at hB; injection hB with e0 e1 e2 e3 e4 e5 e6; exact absurd e5 hv
                have b_v := text_ne hv
                have c_v := text_ne' hv
                have d_v : ¬ ([] : List UInt8) = v.toList := fun e => b_v e.symm
                have e_v : (([] : List UInt8) == v.toList) = false := by simpa using d_v
                have hR : recB (⟨1, tm, vo, 0, ⟨0, 0, 0, 0, .empty, v, o⟩⟩ : Rec) = false := by simp [recB, hN]
                have hC : chAns A (⟨1, tm, vo, 0, ⟨0, 0, 0, 0, .empty, v, o⟩⟩ : Rec) = .tuple #[.nilIface, .iface 124 (.agg #[sentR A, .int .i64 0])] := by unfold chAns; rw [hR]; rfl
                rw [hC]
                clear hC hR
                have hB0 : Hid (Below w.heap.size w (w.alloc (.cells #[.int .i64 1, .int .i64 tm, .int .i64 vo, .int .i64 0, .int .i64 0, .int .i64 0, .int .i64 0, .int .i64 0, .string .empty, .string v, .string o] 94))) := (Below.refl _ _).alloc (Nat.le_refl _) _
                have m1 := fun x w => meth_hard_record x w
                have m2 := fun x w => meth_hard_fits x w
                go_enter Tryd.func82, Tryd.ntmps82
                go_wp2
                first | (go_region_with (go_at_call 92; refine (hardRecord_any tm vo _).mono ?_; rintro x w1 ⟨rfl, hb1⟩; have hz1 : w.heap.size < w1.heap.size := (by have := hb1.size; simp at this; omega); have k0 : w1.cell? ⟨w.heap.size, 0, none⟩ = some (.int .i64 1) := ((bcell hb1).1 w.heap.size 0 (by simp)).trans (by simp [go_sem]); have k1 : w1.cell? ⟨w.heap.size, 1, none⟩ = some (.int .i64 tm) := ((bcell hb1).1 w.heap.size 1 (by simp)).trans (by simp [go_sem]); have k2 : w1.cell? ⟨w.heap.size, 2, none⟩ = some (.int .i64 vo) := ((bcell hb1).1 w.heap.size 2 (by simp)).trans (by simp [go_sem]); have k3 : w1.cell? ⟨w.heap.size, 3, none⟩ = some (.int .i64 0) := ((bcell hb1).1 w.heap.size 3 (by simp)).trans (by simp [go_sem]); have k4 : w1.cell? ⟨w.heap.size, 4, none⟩ = some (.int .i64 0) := ((bcell hb1).1 w.heap.size 4 (by simp)).trans (by simp [go_sem]); have k5 : w1.cell? ⟨w.heap.size, 5, none⟩ = some (.int .i64 0) := ((bcell hb1).1 w.heap.size 5 (by simp)).trans (by simp [go_sem]); have k6 : w1.cell? ⟨w.heap.size, 6, none⟩ = some (.int .i64 0) := ((bcell hb1).1 w.heap.size 6 (by simp)).trans (by simp [go_sem]); have k7 : w1.cell? ⟨w.heap.size, 7, none⟩ = some (.int .i64 0) := ((bcell hb1).1 w.heap.size 7 (by simp)).trans (by simp [go_sem]); have k8 : w1.cell? ⟨w.heap.size, 8, none⟩ = some (.string .empty) := ((bcell hb1).1 w.heap.size 8 (by simp)).trans (by simp [go_sem]); have k9 : w1.cell? ⟨w.heap.size, 9, none⟩ = some (.string v) := ((bcell hb1).1 w.heap.size 9 (by simp)).trans (by simp [go_sem]); have k10 : w1.cell? ⟨w.heap.size, 10, none⟩ = some (.string o) := ((bcell hb1).1 w.heap.size 10 (by simp)).trans (by simp [go_sem]); have hG1 : w1.cell? ⟨0, 0, none⟩ = some (sentR A) := ((bcell hb1).1 _ 0 (by simp <;> omega)).trans (((bcell ((Below.refl w.heap.size w).alloc (Nat.le_refl _) (.cells #[.int .i64 1, .int .i64 tm, .int .i64 vo, .int .i64 0, .int .i64 0, .int .i64 0, .int .i64 0, .int .i64 0, .string .empty, .string v, .string o] 94))).1 _ 0 hgl).trans hG))) | fail
                all_goals go_wp2
                all_goals go_quiet (fail)
                all_goals go_wp2
                all_goals go_ret2
                all_goals exact ⟨rfl, ch_below (ch_trans hB0.out hb1 (by simp))⟩
            · have hN : noEntB (⟨0, 0, 0, 0, k, v, o⟩ : Ent) = false := by
                cases hB : noEntB (⟨0, 0, 0, 0, k, v, o⟩ : Ent)
                · rfl
                · rw [noEnt_iff] at hB; injection hB with e0 e1 e2 e3 e4 e5 e6; exact absurd e4 hk
              have b_k := text_ne hk
              have c_k := text_ne' hk
              have d_k : ¬ ([] : List UInt8) = k.toList := fun e => b_k e.symm
              have e_k : (([] : List UInt8) == k.toList) = false := by simpa using d_k
              have hR : recB (⟨1, tm, vo, 0, ⟨0, 0, 0, 0, k, v, o⟩⟩ : Rec) = false := by simp [recB, hN]
              have hC : chAns A (⟨1, tm, vo, 0, ⟨0, 0, 0, 0, k, v, o⟩⟩ : Rec) = .tuple #[.nilIface, .iface 124 (.agg #[sentR A, .int .i64 0])] := by unfold chAns; rw [hR]; rfl
              rw [hC]
              clear hC hR
              have hB0 : Hid (Below w.heap.size w (w.alloc (.cells #[.int .i64 1, .int .i64 tm, .int .i64 vo, .int .i64 0, .int .i64 0, .int .i64 0, .int .i64 0, .int .i64 0, .string k, .string v, .string o] 94))) := (Below.refl _ _).alloc (Nat.le_refl _) _
              have m1 := fun x w => meth_hard_record x w
              have m2 := fun x w => meth_hard_fits x w
              go_enter Tryd.func82, Tryd.ntmps82
              go_wp2
              first | (go_region_with (go_at_call 92; refine (hardRecord_any tm vo _).mono ?_; rintro x w1 ⟨rfl, hb1⟩; have hz1 : w.heap.size < w1.heap.size := (by have := hb1.size; simp at this; omega); have k0 : w1.cell? ⟨w.heap.size, 0, none⟩ = some (.int .i64 1) := ((bcell hb1).1 w.heap.size 0 (by simp)).trans (by simp [go_sem]); have k1 : w1.cell? ⟨w.heap.size, 1, none⟩ = some (.int .i64 tm) := ((bcell hb1).1 w.heap.size 1 (by simp)).trans (by simp [go_sem]); have k2 : w1.cell? ⟨w.heap.size, 2, none⟩ = some (.int .i64 vo) := ((bcell hb1).1 w.heap.size 2 (by simp)).trans (by simp [go_sem]); have k3 : w1.cell? ⟨w.heap.size, 3, none⟩ = some (.int .i64 0) := ((bcell hb1).1 w.heap.size 3 (by simp)).trans (by simp [go_sem]); have k4 : w1.cell? ⟨w.heap.size, 4, none⟩ = some (.int .i64 0) := ((bcell hb1).1 w.heap.size 4 (by simp)).trans (by simp [go_sem]); have k5 : w1.cell? ⟨w.heap.size, 5, none⟩ = some (.int .i64 0) := ((bcell hb1).1 w.heap.size 5 (by simp)).trans (by simp [go_sem]); have k6 : w1.cell? ⟨w.heap.size, 6, none⟩ = some (.int .i64 0) := ((bcell hb1).1 w.heap.size 6 (by simp)).trans (by simp [go_sem]); have k7 : w1.cell? ⟨w.heap.size, 7, none⟩ = some (.int .i64 0) := ((bcell hb1).1 w.heap.size 7 (by simp)).trans (by simp [go_sem]); have k8 : w1.cell? ⟨w.heap.size, 8, none⟩ = some (.string k) := ((bcell hb1).1 w.heap.size 8 (by simp)).trans (by simp [go_sem]); have k9 : w1.cell? ⟨w.heap.size, 9, none⟩ = some (.string v) := ((bcell hb1).1 w.heap.size 9 (by simp)).trans (by simp [go_sem]); have k10 : w1.cell? ⟨w.heap.size, 10, none⟩ = some (.string o) := ((bcell hb1).1 w.heap.size 10 (by simp)).trans (by simp [go_sem]); have hG1 : w1.cell? ⟨0, 0, none⟩ = some (sentR A) := ((bcell hb1).1 _ 0 (by simp <;> omega)).trans (((bcell ((Below.refl w.heap.size w).alloc (Nat.le_refl _) (.cells #[.int .i64 1, .int .i64 tm, .int .i64 vo, .int .i64 0, .int .i64 0, .int .i64 0, .int .i64 0, .int .i64 0, .string k, .string v, .string o] 94))).1 _ 0 hgl).trans hG))) | fail
              all_goals go_wp2
              all_goals go_quiet (fail)
              all_goals go_wp2
              all_goals go_ret2
              all_goals exact ⟨rfl, ch_below (ch_trans hB0.out hb1 (by simp))⟩
          · have hN : noEntB (⟨0, 0, 0, op, k, v, o⟩ : Ent) = false := by
              cases hB : noEntB (⟨0, 0, 0, op, k, v, o⟩ : Ent)
              · rfl
              · rw [noEnt_iff] at hB; injection hB with e0 e1 e2 e3 e4 e5 e6; exact absurd e3 hop
            have b_op : (op == 0) = false := by simpa using hop
            have d_op : ((0 : Int) == op) = false := by simpa using (fun e : (0 : Int) = op => hop e.symm)
            have hR : recB (⟨1, tm, vo, 0, ⟨0, 0, 0, op, k, v, o⟩⟩ : Rec) = false := by simp [recB, hN]
            have hC : chAns A (⟨1, tm, vo, 0, ⟨0, 0, 0, op, k, v, o⟩⟩ : Rec) = .tuple #[.nilIface, .iface 124 (.agg #[sentR A, .int .i64 0])] := by unfold chAns; rw [hR]; rfl
            rw [hC]
            clear hC hR
            have hB0 : Hid (Below w.heap.size w (w.alloc (.cells #[.int .i64 1, .int .i64 tm, .int .i64 vo, .int .i64 0, .int .i64 0, .int .i64 0, .int .i64 0, .int .i64 op, .string k, .string v, .string o] 94))) := (Below.refl _ _).alloc (Nat.le_refl _) _
            have m1 := fun x w => meth_hard_record x w
            have m2 := fun x w => meth_hard_fits x w
            go_enter Tryd.func82, Tryd.ntmps82
            go_wp2
            first | (go_region_with (go_at_call 92; refine (hardRecord_any tm vo _).mono ?_; rintro x w1 ⟨rfl, hb1⟩; have hz1 : w.heap.size < w1.heap.size := (by have := hb1.size; simp at this; omega); have k0 : w1.cell? ⟨w.heap.size, 0, none⟩ = some (.int .i64 1) := ((bcell hb1).1 w.heap.size 0 (by simp)).trans (by simp [go_sem]); have k1 : w1.cell? ⟨w.heap.size, 1, none⟩ = some (.int .i64 tm) := ((bcell hb1).1 w.heap.size 1 (by simp)).trans (by simp [go_sem]); have k2 : w1.cell? ⟨w.heap.size, 2, none⟩ = some (.int .i64 vo) := ((bcell hb1).1 w.heap.size 2 (by simp)).trans (by simp [go_sem]); have k3 : w1.cell? ⟨w.heap.size, 3, none⟩ = some (.int .i64 0) := ((bcell hb1).1 w.heap.size 3 (by simp)).trans (by simp [go_sem]); have k4 : w1.cell? ⟨w.heap.size, 4, none⟩ = some (.int .i64 0) := ((bcell hb1).1 w.heap.size 4 (by simp)).trans (by simp [go_sem]); have k5 : w1.cell? ⟨w.heap.size, 5, none⟩ = some (.int .i64 0) := ((bcell hb1).1 w.heap.size 5 (by simp)).trans (by simp [go_sem]); have k6 : w1.cell? ⟨w.heap.size, 6, none⟩ = some (.int .i64 0) := ((bcell hb1).1 w.heap.size 6 (by simp)).trans (by simp [go_sem]); have k7 : w1.cell? ⟨w.heap.size, 7, none⟩ = some (.int .i64 op) := ((bcell hb1).1 w.heap.size 7 (by simp)).trans (by simp [go_sem]); have k8 : w1.cell? ⟨w.heap.size, 8, none⟩ = some (.string k) := ((bcell hb1).1 w.heap.size 8 (by simp)).trans (by simp [go_sem]); have k9 : w1.cell? ⟨w.heap.size, 9, none⟩ = some (.string v) := ((bcell hb1).1 w.heap.size 9 (by simp)).trans (by simp [go_sem]); have k10 : w1.cell? ⟨w.heap.size, 10, none⟩ = some (.string o) := ((bcell hb1).1 w.heap.size 10 (by simp)).trans (by simp [go_sem]); have hG1 : w1.cell? ⟨0, 0, none⟩ = some (sentR A) := ((bcell hb1).1 _ 0 (by simp <;> omega)).trans (((bcell ((Below.refl w.heap.size w).alloc (Nat.le_refl _) (.cells #[.int .i64 1, .int .i64 tm, .int .i64 vo, .int .i64 0, .int .i64 0, .int .i64 0, .int .i64 0, .int .i64 op, .string k, .string v, .string o] 94))).1 _ 0 hgl).trans hG))) | fail
            all_goals go_wp2
            all_goals go_quiet (fail)
            all_goals go_wp2
            all_goals go_ret2
            all_goals exact ⟨rfl, ch_below (ch_trans hB0.out hb1 (by simp))⟩
        · have hN : noEntB (⟨0, 0, sq, op, k, v, o⟩ : Ent) = false := by
            cases hB : noEntB (⟨0, 0, sq, op, k, v, o⟩ : Ent)
            · rfl
            · rw [noEnt_iff] at hB; injection hB with e0 e1 e2 e3 e4 e5 e6; exact absurd e2 hsq
          have b_sq : (sq == 0) = false := by simpa using hsq
          have d_sq : ((0 : Int) == sq) = false := by simpa using (fun e : (0 : Int) = sq => hsq e.symm)
          have hR : recB (⟨1, tm, vo, 0, ⟨0, 0, sq, op, k, v, o⟩⟩ : Rec) = false := by simp [recB, hN]
          have hC : chAns A (⟨1, tm, vo, 0, ⟨0, 0, sq, op, k, v, o⟩⟩ : Rec) = .tuple #[.nilIface, .iface 124 (.agg #[sentR A, .int .i64 0])] := by unfold chAns; rw [hR]; rfl
          rw [hC]
          clear hC hR
          have hB0 : Hid (Below w.heap.size w (w.alloc (.cells #[.int .i64 1, .int .i64 tm, .int .i64 vo, .int .i64 0, .int .i64 0, .int .i64 0, .int .i64 sq, .int .i64 op, .string k, .string v, .string o] 94))) := (Below.refl _ _).alloc (Nat.le_refl _) _
          have m1 := fun x w => meth_hard_record x w
          have m2 := fun x w => meth_hard_fits x w
          go_enter Tryd.func82, Tryd.ntmps82
          go_wp2
          first | (go_region_with (go_at_call 92; refine (hardRecord_any tm vo _).mono ?_; rintro x w1 ⟨rfl, hb1⟩; have hz1 : w.heap.size < w1.heap.size := (by have := hb1.size; simp at this; omega); have k0 : w1.cell? ⟨w.heap.size, 0, none⟩ = some (.int .i64 1) := ((bcell hb1).1 w.heap.size 0 (by simp)).trans (by simp [go_sem]); have k1 : w1.cell? ⟨w.heap.size, 1, none⟩ = some (.int .i64 tm) := ((bcell hb1).1 w.heap.size 1 (by simp)).trans (by simp [go_sem]); have k2 : w1.cell? ⟨w.heap.size, 2, none⟩ = some (.int .i64 vo) := ((bcell hb1).1 w.heap.size 2 (by simp)).trans (by simp [go_sem]); have k3 : w1.cell? ⟨w.heap.size, 3, none⟩ = some (.int .i64 0) := ((bcell hb1).1 w.heap.size 3 (by simp)).trans (by simp [go_sem]); have k4 : w1.cell? ⟨w.heap.size, 4, none⟩ = some (.int .i64 0) := ((bcell hb1).1 w.heap.size 4 (by simp)).trans (by simp [go_sem]); have k5 : w1.cell? ⟨w.heap.size, 5, none⟩ = some (.int .i64 0) := ((bcell hb1).1 w.heap.size 5 (by simp)).trans (by simp [go_sem]); have k6 : w1.cell? ⟨w.heap.size, 6, none⟩ = some (.int .i64 sq) := ((bcell hb1).1 w.heap.size 6 (by simp)).trans (by simp [go_sem]); have k7 : w1.cell? ⟨w.heap.size, 7, none⟩ = some (.int .i64 op) := ((bcell hb1).1 w.heap.size 7 (by simp)).trans (by simp [go_sem]); have k8 : w1.cell? ⟨w.heap.size, 8, none⟩ = some (.string k) := ((bcell hb1).1 w.heap.size 8 (by simp)).trans (by simp [go_sem]); have k9 : w1.cell? ⟨w.heap.size, 9, none⟩ = some (.string v) := ((bcell hb1).1 w.heap.size 9 (by simp)).trans (by simp [go_sem]); have k10 : w1.cell? ⟨w.heap.size, 10, none⟩ = some (.string o) := ((bcell hb1).1 w.heap.size 10 (by simp)).trans (by simp [go_sem]); have hG1 : w1.cell? ⟨0, 0, none⟩ = some (sentR A) := ((bcell hb1).1 _ 0 (by simp <;> omega)).trans (((bcell ((Below.refl w.heap.size w).alloc (Nat.le_refl _) (.cells #[.int .i64 1, .int .i64 tm, .int .i64 vo, .int .i64 0, .int .i64 0, .int .i64 0, .int .i64 sq, .int .i64 op, .string k, .string v, .string o] 94))).1 _ 0 hgl).trans hG))) | fail
          all_goals go_wp2
          all_goals go_quiet (fail)
          all_goals go_wp2
          all_goals go_ret2
          all_goals exact ⟨rfl, ch_below (ch_trans hB0.out hb1 (by simp))⟩
      · have hN : noEntB (⟨0, cl, sq, op, k, v, o⟩ : Ent) = false := by
          cases hB : noEntB (⟨0, cl, sq, op, k, v, o⟩ : Ent)
          · rfl
          · rw [noEnt_iff] at hB; injection hB with e0 e1 e2 e3 e4 e5 e6; exact absurd e1 hcl
        have b_cl : (cl == 0) = false := by simpa using hcl
        have d_cl : ((0 : Int) == cl) = false := by simpa using (fun e : (0 : Int) = cl => hcl e.symm)
        have hR : recB (⟨1, tm, vo, 0, ⟨0, cl, sq, op, k, v, o⟩⟩ : Rec) = false := by simp [recB, hN]
        have hC : chAns A (⟨1, tm, vo, 0, ⟨0, cl, sq, op, k, v, o⟩⟩ : Rec) = .tuple #[.nilIface, .iface 124 (.agg #[sentR A, .int .i64 0])] := by unfold chAns; rw [hR]; rfl
        rw [hC]
        clear hC hR
        have hB0 : Hid (Below w.heap.size w (w.alloc (.cells #[.int .i64 1, .int .i64 tm, .int .i64 vo, .int .i64 0, .int .i64 0, .int .i64 cl, .int .i64 sq, .int .i64 op, .string k, .string v, .string o] 94))) := (Below.refl _ _).alloc (Nat.le_refl _) _
        have m1 := fun x w => meth_hard_record x w
        have m2 := fun x w => meth_hard_fits x w
        go_enter Tryd.func82, Tryd.ntmps82
        go_wp2
        first | (go_region_with (go_at_call 92; refine (hardRecord_any tm vo _).mono ?_; rintro x w1 ⟨rfl, hb1⟩; have hz1 : w.heap.size < w1.heap.size := (by have := hb1.size; simp at this; omega); have k0 : w1.cell? ⟨w.heap.size, 0, none⟩ = some (.int .i64 1) := ((bcell hb1).1 w.heap.size 0 (by simp)).trans (by simp [go_sem]); have k1 : w1.cell? ⟨w.heap.size, 1, none⟩ = some (.int .i64 tm) := ((bcell hb1).1 w.heap.size 1 (by simp)).trans (by simp [go_sem]); have k2 : w1.cell? ⟨w.heap.size, 2, none⟩ = some (.int .i64 vo) := ((bcell hb1).1 w.heap.size 2 (by simp)).trans (by simp [go_sem]); have k3 : w1.cell? ⟨w.heap.size, 3, none⟩ = some (.int .i64 0) := ((bcell hb1).1 w.heap.size 3 (by simp)).trans (by simp [go_sem]); have k4 : w1.cell? ⟨w.heap.size, 4, none⟩ = some (.int .i64 0) := ((bcell hb1).1 w.heap.size 4 (by simp)).trans (by simp [go_sem]); have k5 : w1.cell? ⟨w.heap.size, 5, none⟩ = some (.int .i64 cl) := ((bcell hb1).1 w.heap.size 5 (by simp)).trans (by simp [go_sem]); have k6 : w1.cell? ⟨w.heap.size, 6, none⟩ = some (.int .i64 sq) := ((bcell hb1).1 w.heap.size 6 (by simp)).trans (by simp [go_sem]); have k7 : w1.cell? ⟨w.heap.size, 7, none⟩ = some (.int .i64 op) := ((bcell hb1).1 w.heap.size 7 (by simp)).trans (by simp [go_sem]); have k8 : w1.cell? ⟨w.heap.size, 8, none⟩ = some (.string k) := ((bcell hb1).1 w.heap.size 8 (by simp)).trans (by simp [go_sem]); have k9 : w1.cell? ⟨w.heap.size, 9, none⟩ = some (.string v) := ((bcell hb1).1 w.heap.size 9 (by simp)).trans (by simp [go_sem]); have k10 : w1.cell? ⟨w.heap.size, 10, none⟩ = some (.string o) := ((bcell hb1).1 w.heap.size 10 (by simp)).trans (by simp [go_sem]); have hG1 : w1.cell? ⟨0, 0, none⟩ = some (sentR A) := ((bcell hb1).1 _ 0 (by simp <;> omega)).trans (((bcell ((Below.refl w.heap.size w).alloc (Nat.le_refl _) (.cells #[.int .i64 1, .int .i64 tm, .int .i64 vo, .int .i64 0, .int .i64 0, .int .i64 cl, .int .i64 sq, .int .i64 op, .string k, .string v, .string o] 94))).1 _ 0 hgl).trans hG))) | fail
        all_goals go_wp2
        all_goals go_quiet (fail)
        all_goals go_wp2
        all_goals go_ret2
        all_goals exact ⟨rfl, ch_below (ch_trans hB0.out hb1 (by simp))⟩
    · have hN : noEntB (⟨t, cl, sq, op, k, v, o⟩ : Ent) = false := by
        cases hB : noEntB (⟨t, cl, sq, op, k, v, o⟩ : Ent)
        · rfl
        · rw [noEnt_iff] at hB; injection hB with e0 e1 e2 e3 e4 e5 e6; exact absurd e0 ht
      have b_t : (t == 0) = false := by simpa using ht
      have d_t : ((0 : Int) == t) = false := by simpa using (fun e : (0 : Int) = t => ht e.symm)
      have hR : recB (⟨1, tm, vo, 0, ⟨t, cl, sq, op, k, v, o⟩⟩ : Rec) = false := by simp [recB, hN]
      have hC : chAns A (⟨1, tm, vo, 0, ⟨t, cl, sq, op, k, v, o⟩⟩ : Rec) = .tuple #[.nilIface, .iface 124 (.agg #[sentR A, .int .i64 0])] := by unfold chAns; rw [hR]; rfl
      rw [hC]
      clear hC hR
      have hB0 : Hid (Below w.heap.size w (w.alloc (.cells #[.int .i64 1, .int .i64 tm, .int .i64 vo, .int .i64 0, .int .i64 t, .int .i64 cl, .int .i64 sq, .int .i64 op, .string k, .string v, .string o] 94))) := (Below.refl _ _).alloc (Nat.le_refl _) _
      have m1 := fun x w => meth_hard_record x w
      have m2 := fun x w => meth_hard_fits x w
      go_enter Tryd.func82, Tryd.ntmps82
      go_wp2
      first | (go_region_with (go_at_call 92; refine (hardRecord_any tm vo _).mono ?_; rintro x w1 ⟨rfl, hb1⟩; have hz1 : w.heap.size < w1.heap.size := (by have := hb1.size; simp at this; omega); have k0 : w1.cell? ⟨w.heap.size, 0, none⟩ = some (.int .i64 1) := ((bcell hb1).1 w.heap.size 0 (by simp)).trans (by simp [go_sem]); have k1 : w1.cell? ⟨w.heap.size, 1, none⟩ = some (.int .i64 tm) := ((bcell hb1).1 w.heap.size 1 (by simp)).trans (by simp [go_sem]); have k2 : w1.cell? ⟨w.heap.size, 2, none⟩ = some (.int .i64 vo) := ((bcell hb1).1 w.heap.size 2 (by simp)).trans (by simp [go_sem]); have k3 : w1.cell? ⟨w.heap.size, 3, none⟩ = some (.int .i64 0) := ((bcell hb1).1 w.heap.size 3 (by simp)).trans (by simp [go_sem]); have k4 : w1.cell? ⟨w.heap.size, 4, none⟩ = some (.int .i64 t) := ((bcell hb1).1 w.heap.size 4 (by simp)).trans (by simp [go_sem]); have k5 : w1.cell? ⟨w.heap.size, 5, none⟩ = some (.int .i64 cl) := ((bcell hb1).1 w.heap.size 5 (by simp)).trans (by simp [go_sem]); have k6 : w1.cell? ⟨w.heap.size, 6, none⟩ = some (.int .i64 sq) := ((bcell hb1).1 w.heap.size 6 (by simp)).trans (by simp [go_sem]); have k7 : w1.cell? ⟨w.heap.size, 7, none⟩ = some (.int .i64 op) := ((bcell hb1).1 w.heap.size 7 (by simp)).trans (by simp [go_sem]); have k8 : w1.cell? ⟨w.heap.size, 8, none⟩ = some (.string k) := ((bcell hb1).1 w.heap.size 8 (by simp)).trans (by simp [go_sem]); have k9 : w1.cell? ⟨w.heap.size, 9, none⟩ = some (.string v) := ((bcell hb1).1 w.heap.size 9 (by simp)).trans (by simp [go_sem]); have k10 : w1.cell? ⟨w.heap.size, 10, none⟩ = some (.string o) := ((bcell hb1).1 w.heap.size 10 (by simp)).trans (by simp [go_sem]); have hG1 : w1.cell? ⟨0, 0, none⟩ = some (sentR A) := ((bcell hb1).1 _ 0 (by simp <;> omega)).trans (((bcell ((Below.refl w.heap.size w).alloc (Nat.le_refl _) (.cells #[.int .i64 1, .int .i64 tm, .int .i64 vo, .int .i64 0, .int .i64 t, .int .i64 cl, .int .i64 sq, .int .i64 op, .string k, .string v, .string o] 94))).1 _ 0 hgl).trans hG))) | fail
      all_goals go_wp2
      all_goals go_quiet (fail)
      all_goals go_wp2
      all_goals go_ret2
      all_goals exact ⟨rfl, ch_below (ch_trans hB0.out hb1 (by simp))⟩
  · have b_ix : (ix == 0) = false := by simpa using hix
    have d_ix : ((0 : Int) == ix) = false := by simpa using (fun e : (0 : Int) = ix => hix e.symm)
    have hR : recB (⟨1, tm, vo, ix, ⟨t, cl, sq, op, k, v, o⟩⟩ : Rec) = false := by simp [recB, hix]
    have hC : chAns A (⟨1, tm, vo, ix, ⟨t, cl, sq, op, k, v, o⟩⟩ : Rec) = .tuple #[.nilIface, .iface 124 (.agg #[sentR A, .int .i64 0])] := by unfold chAns; rw [hR]; rfl
    rw [hC]
    clear hC hR
    have hB0 : Hid (Below w.heap.size w (w.alloc (.cells #[.int .i64 1, .int .i64 tm, .int .i64 vo, .int .i64 ix, .int .i64 t, .int .i64 cl, .int .i64 sq, .int .i64 op, .string k, .string v, .string o] 94))) := (Below.refl _ _).alloc (Nat.le_refl _) _
    have m1 := fun x w => meth_hard_record x w
    have m2 := fun x w => meth_hard_fits x w
    go_enter Tryd.func82, Tryd.ntmps82
    go_wp2
    first | (go_region_with (go_at_call 92; refine (hardRecord_any tm vo _).mono ?_; rintro x w1 ⟨rfl, hb1⟩; have hz1 : w.heap.size < w1.heap.size := (by have := hb1.size; simp at this; omega); have k0 : w1.cell? ⟨w.heap.size, 0, none⟩ = some (.int .i64 1) := ((bcell hb1).1 w.heap.size 0 (by simp)).trans (by simp [go_sem]); have k1 : w1.cell? ⟨w.heap.size, 1, none⟩ = some (.int .i64 tm) := ((bcell hb1).1 w.heap.size 1 (by simp)).trans (by simp [go_sem]); have k2 : w1.cell? ⟨w.heap.size, 2, none⟩ = some (.int .i64 vo) := ((bcell hb1).1 w.heap.size 2 (by simp)).trans (by simp [go_sem]); have k3 : w1.cell? ⟨w.heap.size, 3, none⟩ = some (.int .i64 ix) := ((bcell hb1).1 w.heap.size 3 (by simp)).trans (by simp [go_sem]); have k4 : w1.cell? ⟨w.heap.size, 4, none⟩ = some (.int .i64 t) := ((bcell hb1).1 w.heap.size 4 (by simp)).trans (by simp [go_sem]); have k5 : w1.cell? ⟨w.heap.size, 5, none⟩ = some (.int .i64 cl) := ((bcell hb1).1 w.heap.size 5 (by simp)).trans (by simp [go_sem]); have k6 : w1.cell? ⟨w.heap.size, 6, none⟩ = some (.int .i64 sq) := ((bcell hb1).1 w.heap.size 6 (by simp)).trans (by simp [go_sem]); have k7 : w1.cell? ⟨w.heap.size, 7, none⟩ = some (.int .i64 op) := ((bcell hb1).1 w.heap.size 7 (by simp)).trans (by simp [go_sem]); have k8 : w1.cell? ⟨w.heap.size, 8, none⟩ = some (.string k) := ((bcell hb1).1 w.heap.size 8 (by simp)).trans (by simp [go_sem]); have k9 : w1.cell? ⟨w.heap.size, 9, none⟩ = some (.string v) := ((bcell hb1).1 w.heap.size 9 (by simp)).trans (by simp [go_sem]); have k10 : w1.cell? ⟨w.heap.size, 10, none⟩ = some (.string o) := ((bcell hb1).1 w.heap.size 10 (by simp)).trans (by simp [go_sem]); have hG1 : w1.cell? ⟨0, 0, none⟩ = some (sentR A) := ((bcell hb1).1 _ 0 (by simp <;> omega)).trans (((bcell ((Below.refl w.heap.size w).alloc (Nat.le_refl _) (.cells #[.int .i64 1, .int .i64 tm, .int .i64 vo, .int .i64 ix, .int .i64 t, .int .i64 cl, .int .i64 sq, .int .i64 op, .string k, .string v, .string o] 94))).1 _ 0 hgl).trans hG))) | fail
    all_goals go_wp2
    all_goals go_quiet (fail)
    all_goals go_wp2
    all_goals go_ret2
    all_goals exact ⟨rfl, ch_below (ch_trans hB0.out hb1 (by simp))⟩
end Go.Proofs.YtjoflnnomebkpaaDoor

/-
  impl.changeOf: an add record.
-/
namespace Go.Proofs.YtjoflnnomebkpaaDoor
open Go.RowKit
set_option linter.unusedVariables false
set_option linter.unusedSimpArgs false

set_option maxHeartbeats 20000000 in
set_option maxRecDepth 100000 in
theorem changeOf_add (tm vo ix t cl sq op : Int) (k v o : ByteArray) (hf : (⟨t, cl, sq, op, k, v, o⟩ : Ent).fits) (A : Addr) (w : World) (hG : w.cell? ⟨0, 0, none⟩ = some (sentR A)) :
    Calls Tryd.prog 82 #[.agg #[.int .i64 2, .int .i64 tm, .int .i64 vo, .int .i64 ix, .int .i64 t, .int .i64 cl, .int .i64 sq, .int .i64 op, .string k, .string v, .string o]] w fun x w' => x = .returned (chAns A ⟨2, tm, vo, ix, ⟨t, cl, sq, op, k, v, o⟩⟩) ∧ Below w.heap.size w w' := by
  have hgl := cell_lt hG
  by_cases htm : tm = 0
  · subst htm
    by_cases hvo : vo = 0
    · subst hvo
      cases hF : (inB ix 1 4096 && entB ⟨t, cl, sq, op, k, v, o⟩)
      · have hR : recB (⟨2, 0, 0, ix, ⟨t, cl, sq, op, k, v, o⟩⟩ : Rec) = false := by simp [recB, hF]
        have hC : chAns A (⟨2, 0, 0, ix, ⟨t, cl, sq, op, k, v, o⟩⟩ : Rec) = .tuple #[.nilIface, .iface 124 (.agg #[sentR A, .int .i64 0])] := by unfold chAns; rw [hR]; rfl
        rw [hC]
        clear hC hR
        have hB0 : Hid (Below w.heap.size w (w.alloc (.cells #[.int .i64 2, .int .i64 0, .int .i64 0, .int .i64 ix, .int .i64 t, .int .i64 cl, .int .i64 sq, .int .i64 op, .string k, .string v, .string o] 94))) := (Below.refl _ _).alloc (Nat.le_refl _) _
        have m1 := fun x w => meth_add_record x w
        have m2 := fun x w => meth_add_fits x w
        go_enter Tryd.func82, Tryd.ntmps82
        go_wp2
        go_region_held3 (fun w' => w'.cell? ⟨w.heap.size, 0, none⟩ = some (.int .i64 2) ∧ w'.cell? ⟨w.heap.size, 1, none⟩ = some (.int .i64 0) ∧ w'.cell? ⟨w.heap.size, 2, none⟩ = some (.int .i64 0) ∧ w'.cell? ⟨w.heap.size, 3, none⟩ = some (.int .i64 ix) ∧ w'.cell? ⟨w.heap.size, 4, none⟩ = some (.int .i64 t) ∧ w'.cell? ⟨w.heap.size, 5, none⟩ = some (.int .i64 cl) ∧ w'.cell? ⟨w.heap.size, 6, none⟩ = some (.int .i64 sq) ∧ w'.cell? ⟨w.heap.size, 7, none⟩ = some (.int .i64 op) ∧ w'.cell? ⟨w.heap.size, 8, none⟩ = some (.string k) ∧ w'.cell? ⟨w.heap.size, 9, none⟩ = some (.string v) ∧ w'.cell? ⟨w.heap.size, 10, none⟩ = some (.string o)) (simp [*, go_sem])
          (first
            | (go_at_call 94; refine (addRecord_any ix ⟨t, cl, sq, op, k, v, o⟩ _).mono ?_; rintro x w1 ⟨rfl, hb1⟩; have hz1 : w.heap.size < w1.heap.size := (by have := hb1.size; simp at this; omega); have q1 := fun (o : Nat) => (bcell hb1).1 w.heap.size o (by simp); have hG1 : w1.cell? ⟨0, 0, none⟩ = some (sentR A) := ((bcell hb1).1 _ 0 (by simp <;> omega)).trans (((bcell ((Below.refl w.heap.size w).alloc (Nat.le_refl _) (.cells #[.int .i64 2, .int .i64 0, .int .i64 0, .int .i64 ix, .int .i64 t, .int .i64 cl, .int .i64 sq, .int .i64 op, .string k, .string v, .string o] 94))).1 _ 0 hgl).trans hG))
            | (go_at_call 168; refine (addFits_any ix ⟨t, cl, sq, op, k, v, o⟩ hf _).mono ?_; rintro x w2 ⟨rfl, hb2⟩; have hz2 : w.heap.size < w2.heap.size := (by have := hb2.size; omega); have q2 := fun (o : Nat) => (bcell hb2).1 w.heap.size o hz1; have hG2 : w2.cell? ⟨0, 0, none⟩ = some (sentR A) := ((bcell hb2).1 _ 0 (by omega)).trans hG1; rw [hF]))
        all_goals go_wp2
        all_goals go_quiet (fail)
        all_goals go_wp2
        all_goals go_ret2
        all_goals exact ⟨rfl, ch_below (ch_trans (ch_trans hB0.out hb1 (by simp)) hb2 (by omega))⟩
      · have hR : recB (⟨2, 0, 0, ix, ⟨t, cl, sq, op, k, v, o⟩⟩ : Rec) = true := by simp [recB, hF]
        have hC : chAns A (⟨2, 0, 0, ix, ⟨t, cl, sq, op, k, v, o⟩⟩ : Rec) = .tuple #[.iface 138 (.agg #[.int .i64 ix, .int .i64 t, .int .i64 cl, .int .i64 sq, .int .i64 op, .string k, .string v, .string o]), .nilIface] := by unfold chAns; rw [hR]; rfl
        rw [hC]
        clear hC hR
        have hB0 : Hid (Below w.heap.size w (w.alloc (.cells #[.int .i64 2, .int .i64 0, .int .i64 0, .int .i64 ix, .int .i64 t, .int .i64 cl, .int .i64 sq, .int .i64 op, .string k, .string v, .string o] 94))) := (Below.refl _ _).alloc (Nat.le_refl _) _
        have m1 := fun x w => meth_add_record x w
        have m2 := fun x w => meth_add_fits x w
        go_enter Tryd.func82, Tryd.ntmps82
        go_wp2
        go_region_held3 (fun w' => w'.cell? ⟨w.heap.size, 0, none⟩ = some (.int .i64 2) ∧ w'.cell? ⟨w.heap.size, 1, none⟩ = some (.int .i64 0) ∧ w'.cell? ⟨w.heap.size, 2, none⟩ = some (.int .i64 0) ∧ w'.cell? ⟨w.heap.size, 3, none⟩ = some (.int .i64 ix) ∧ w'.cell? ⟨w.heap.size, 4, none⟩ = some (.int .i64 t) ∧ w'.cell? ⟨w.heap.size, 5, none⟩ = some (.int .i64 cl) ∧ w'.cell? ⟨w.heap.size, 6, none⟩ = some (.int .i64 sq) ∧ w'.cell? ⟨w.heap.size, 7, none⟩ = some (.int .i64 op) ∧ w'.cell? ⟨w.heap.size, 8, none⟩ = some (.string k) ∧ w'.cell? ⟨w.heap.size, 9, none⟩ = some (.string v) ∧ w'.cell? ⟨w.heap.size, 10, none⟩ = some (.string o)) (simp [*, go_sem])
          (first
            | (go_at_call 94; refine (addRecord_any ix ⟨t, cl, sq, op, k, v, o⟩ _).mono ?_; rintro x w1 ⟨rfl, hb1⟩; have hz1 : w.heap.size < w1.heap.size := (by have := hb1.size; simp at this; omega); have q1 := fun (o : Nat) => (bcell hb1).1 w.heap.size o (by simp); have hG1 : w1.cell? ⟨0, 0, none⟩ = some (sentR A) := ((bcell hb1).1 _ 0 (by simp <;> omega)).trans (((bcell ((Below.refl w.heap.size w).alloc (Nat.le_refl _) (.cells #[.int .i64 2, .int .i64 0, .int .i64 0, .int .i64 ix, .int .i64 t, .int .i64 cl, .int .i64 sq, .int .i64 op, .string k, .string v, .string o] 94))).1 _ 0 hgl).trans hG))
            | (go_at_call 168; refine (addFits_any ix ⟨t, cl, sq, op, k, v, o⟩ hf _).mono ?_; rintro x w2 ⟨rfl, hb2⟩; have hz2 : w.heap.size < w2.heap.size := (by have := hb2.size; omega); have q2 := fun (o : Nat) => (bcell hb2).1 w.heap.size o hz1; have hG2 : w2.cell? ⟨0, 0, none⟩ = some (sentR A) := ((bcell hb2).1 _ 0 (by omega)).trans hG1; rw [hF]))
        all_goals go_wp2
        all_goals go_ret2
        all_goals exact ⟨rfl, ch_below (ch_trans (ch_trans hB0.out hb1 (by simp)) hb2 (by omega))⟩
    · have b_vo : (vo == 0) = false := by simpa using hvo
      have d_vo : ((0 : Int) == vo) = false := by simpa using (fun e : (0 : Int) = vo => hvo e.symm)
      have hR : recB (⟨2, 0, vo, ix, ⟨t, cl, sq, op, k, v, o⟩⟩ : Rec) = false := by simp [recB, hvo]
      have hC : chAns A (⟨2, 0, vo, ix, ⟨t, cl, sq, op, k, v, o⟩⟩ : Rec) = .tuple #[.nilIface, .iface 124 (.agg #[sentR A, .int .i64 0])] := by unfold chAns; rw [hR]; rfl
      rw [hC]
      clear hC hR
      have hB0 : Hid (Below w.heap.size w (w.alloc (.cells #[.int .i64 2, .int .i64 0, .int .i64 vo, .int .i64 ix, .int .i64 t, .int .i64 cl, .int .i64 sq, .int .i64 op, .string k, .string v, .string o] 94))) := (Below.refl _ _).alloc (Nat.le_refl _) _
      have m1 := fun x w => meth_add_record x w
      have m2 := fun x w => meth_add_fits x w
      go_enter Tryd.func82, Tryd.ntmps82
      go_wp2
      first | (go_region_with (go_at_call 94; refine (addRecord_any ix ⟨t, cl, sq, op, k, v, o⟩ _).mono ?_; rintro x w1 ⟨rfl, hb1⟩; have hz1 : w.heap.size < w1.heap.size := (by have := hb1.size; simp at this; omega); have k0 : w1.cell? ⟨w.heap.size, 0, none⟩ = some (.int .i64 2) := ((bcell hb1).1 w.heap.size 0 (by simp)).trans (by simp [go_sem]); have k1 : w1.cell? ⟨w.heap.size, 1, none⟩ = some (.int .i64 0) := ((bcell hb1).1 w.heap.size 1 (by simp)).trans (by simp [go_sem]); have k2 : w1.cell? ⟨w.heap.size, 2, none⟩ = some (.int .i64 vo) := ((bcell hb1).1 w.heap.size 2 (by simp)).trans (by simp [go_sem]); have k3 : w1.cell? ⟨w.heap.size, 3, none⟩ = some (.int .i64 ix) := ((bcell hb1).1 w.heap.size 3 (by simp)).trans (by simp [go_sem]); have k4 : w1.cell? ⟨w.heap.size, 4, none⟩ = some (.int .i64 t) := ((bcell hb1).1 w.heap.size 4 (by simp)).trans (by simp [go_sem]); have k5 : w1.cell? ⟨w.heap.size, 5, none⟩ = some (.int .i64 cl) := ((bcell hb1).1 w.heap.size 5 (by simp)).trans (by simp [go_sem]); have k6 : w1.cell? ⟨w.heap.size, 6, none⟩ = some (.int .i64 sq) := ((bcell hb1).1 w.heap.size 6 (by simp)).trans (by simp [go_sem]); have k7 : w1.cell? ⟨w.heap.size, 7, none⟩ = some (.int .i64 op) := ((bcell hb1).1 w.heap.size 7 (by simp)).trans (by simp [go_sem]); have k8 : w1.cell? ⟨w.heap.size, 8, none⟩ = some (.string k) := ((bcell hb1).1 w.heap.size 8 (by simp)).trans (by simp [go_sem]); have k9 : w1.cell? ⟨w.heap.size, 9, none⟩ = some (.string v) := ((bcell hb1).1 w.heap.size 9 (by simp)).trans (by simp [go_sem]); have k10 : w1.cell? ⟨w.heap.size, 10, none⟩ = some (.string o) := ((bcell hb1).1 w.heap.size 10 (by simp)).trans (by simp [go_sem]); have hG1 : w1.cell? ⟨0, 0, none⟩ = some (sentR A) := ((bcell hb1).1 _ 0 (by simp <;> omega)).trans (((bcell ((Below.refl w.heap.size w).alloc (Nat.le_refl _) (.cells #[.int .i64 2, .int .i64 0, .int .i64 vo, .int .i64 ix, .int .i64 t, .int .i64 cl, .int .i64 sq, .int .i64 op, .string k, .string v, .string o] 94))).1 _ 0 hgl).trans hG))) | fail
      all_goals go_wp2
      all_goals go_quiet (fail)
      all_goals go_wp2
      all_goals go_ret2
      all_goals exact ⟨rfl, ch_below (ch_trans hB0.out hb1 (by simp))⟩
  · have b_tm : (tm == 0) = false := by simpa using htm
    have d_tm : ((0 : Int) == tm) = false := by simpa using (fun e : (0 : Int) = tm => htm e.symm)
    have hR : recB (⟨2, tm, vo, ix, ⟨t, cl, sq, op, k, v, o⟩⟩ : Rec) = false := by simp [recB, htm]
    have hC : chAns A (⟨2, tm, vo, ix, ⟨t, cl, sq, op, k, v, o⟩⟩ : Rec) = .tuple #[.nilIface, .iface 124 (.agg #[sentR A, .int .i64 0])] := by unfold chAns; rw [hR]; rfl
    rw [hC]
    clear hC hR
    have hB0 : Hid (Below w.heap.size w (w.alloc (.cells #[.int .i64 2, .int .i64 tm, .int .i64 vo, .int .i64 ix, .int .i64 t, .int .i64 cl, .int .i64 sq, .int .i64 op, .string k, .string v, .string o] 94))) := (Below.refl _ _).alloc (Nat.le_refl _) _
    have m1 := fun x w => meth_add_record x w
    have m2 := fun x w => meth_add_fits x w
    go_enter Tryd.func82, Tryd.ntmps82
    go_wp2
    first | (go_region_with (go_at_call 94; refine (addRecord_any ix ⟨t, cl, sq, op, k, v, o⟩ _).mono ?_; rintro x w1 ⟨rfl, hb1⟩; have hz1 : w.heap.size < w1.heap.size := (by have := hb1.size; simp at this; omega); have k0 : w1.cell? ⟨w.heap.size, 0, none⟩ = some (.int .i64 2) := ((bcell hb1).1 w.heap.size 0 (by simp)).trans (by simp [go_sem]); have k1 : w1.cell? ⟨w.heap.size, 1, none⟩ = some (.int .i64 tm) := ((bcell hb1).1 w.heap.size 1 (by simp)).trans (by simp [go_sem]); have k2 : w1.cell? ⟨w.heap.size, 2, none⟩ = some (.int .i64 vo) := ((bcell hb1).1 w.heap.size 2 (by simp)).trans (by simp [go_sem]); have k3 : w1.cell? ⟨w.heap.size, 3, none⟩ = some (.int .i64 ix) := ((bcell hb1).1 w.heap.size 3 (by simp)).trans (by simp [go_sem]); have k4 : w1.cell? ⟨w.heap.size, 4, none⟩ = some (.int .i64 t) := ((bcell hb1).1 w.heap.size 4 (by simp)).trans (by simp [go_sem]); have k5 : w1.cell? ⟨w.heap.size, 5, none⟩ = some (.int .i64 cl) := ((bcell hb1).1 w.heap.size 5 (by simp)).trans (by simp [go_sem]); have k6 : w1.cell? ⟨w.heap.size, 6, none⟩ = some (.int .i64 sq) := ((bcell hb1).1 w.heap.size 6 (by simp)).trans (by simp [go_sem]); have k7 : w1.cell? ⟨w.heap.size, 7, none⟩ = some (.int .i64 op) := ((bcell hb1).1 w.heap.size 7 (by simp)).trans (by simp [go_sem]); have k8 : w1.cell? ⟨w.heap.size, 8, none⟩ = some (.string k) := ((bcell hb1).1 w.heap.size 8 (by simp)).trans (by simp [go_sem]); have k9 : w1.cell? ⟨w.heap.size, 9, none⟩ = some (.string v) := ((bcell hb1).1 w.heap.size 9 (by simp)).trans (by simp [go_sem]); have k10 : w1.cell? ⟨w.heap.size, 10, none⟩ = some (.string o) := ((bcell hb1).1 w.heap.size 10 (by simp)).trans (by simp [go_sem]); have hG1 : w1.cell? ⟨0, 0, none⟩ = some (sentR A) := ((bcell hb1).1 _ 0 (by simp <;> omega)).trans (((bcell ((Below.refl w.heap.size w).alloc (Nat.le_refl _) (.cells #[.int .i64 2, .int .i64 tm, .int .i64 vo, .int .i64 ix, .int .i64 t, .int .i64 cl, .int .i64 sq, .int .i64 op, .string k, .string v, .string o] 94))).1 _ 0 hgl).trans hG))) | fail
    all_goals go_wp2
    all_goals go_quiet (fail)
    all_goals go_wp2
    all_goals go_ret2
    all_goals exact ⟨rfl, ch_below (ch_trans hB0.out hb1 (by simp))⟩
end Go.Proofs.YtjoflnnomebkpaaDoor

/-
  impl.changeOf: a cut record.
-/
namespace Go.Proofs.YtjoflnnomebkpaaDoor
open Go.RowKit
set_option linter.unusedVariables false
set_option linter.unusedSimpArgs false

set_option maxHeartbeats 20000000 in
set_option maxRecDepth 100000 in
theorem changeOf_cut (tm vo ix t cl sq op : Int) (k v o : ByteArray) (hf : (⟨t, cl, sq, op, k, v, o⟩ : Ent).fits) (A : Addr) (w : World) (hG : w.cell? ⟨0, 0, none⟩ = some (sentR A)) :
    Calls Tryd.prog 82 #[.agg #[.int .i64 3, .int .i64 tm, .int .i64 vo, .int .i64 ix, .int .i64 t, .int .i64 cl, .int .i64 sq, .int .i64 op, .string k, .string v, .string o]] w fun x w' => x = .returned (chAns A ⟨3, tm, vo, ix, ⟨t, cl, sq, op, k, v, o⟩⟩) ∧ Below w.heap.size w w' := by
  have hgl := cell_lt hG
  by_cases htm : tm = 0
  · subst htm
    by_cases hvo : vo = 0
    · subst hvo
      by_cases ht : t = 0
      · subst ht
        by_cases hcl : cl = 0
        · subst hcl
          by_cases hsq : sq = 0
          · subst hsq
            by_cases hop : op = 0
            · subst hop
              by_cases hk : k = .empty
              · subst hk
                by_cases hv : v = .empty
                · subst hv
                  by_cases ho : o = .empty
                  · subst ho
                    cases hF : inB ix 0 4096
                    · have hN : noEntB (⟨0, 0, 0, 0, .empty, .empty, .empty⟩ : Ent) = true := by rw [noEnt_iff]; rfl
                      have hR : recB (⟨3, 0, 0, ix, ⟨0, 0, 0, 0, .empty, .empty, .empty⟩⟩ : Rec) = false := by simp [recB, hN, hF]
                      have hC : chAns A (⟨3, 0, 0, ix, ⟨0, 0, 0, 0, .empty, .empty, .empty⟩⟩ : Rec) = .tuple #[.nilIface, .iface 124 (.agg #[sentR A, .int .i64 0])] := by unfold chAns; rw [hR]; rfl
                      rw [hC]
                      clear hC hR
                      have hB0 : Hid (Below w.heap.size w (w.alloc (.cells #[.int .i64 3, .int .i64 0, .int .i64 0, .int .i64 ix, .int .i64 0, .int .i64 0, .int .i64 0, .int .i64 0, .string .empty, .string .empty, .string .empty] 94))) := (Below.refl _ _).alloc (Nat.le_refl _) _
                      have m1 := fun x w => meth_cut_record x w
                      have m2 := fun x w => meth_cut_fits x w
                      go_enter Tryd.func82, Tryd.ntmps82
                      go_wp2
                      go_region_held3 (fun w' => w'.cell? ⟨w.heap.size, 0, none⟩ = some (.int .i64 3) ∧ w'.cell? ⟨w.heap.size, 1, none⟩ = some (.int .i64 0) ∧ w'.cell? ⟨w.heap.size, 2, none⟩ = some (.int .i64 0) ∧ w'.cell? ⟨w.heap.size, 3, none⟩ = some (.int .i64 ix) ∧ w'.cell? ⟨w.heap.size, 4, none⟩ = some (.int .i64 0) ∧ w'.cell? ⟨w.heap.size, 5, none⟩ = some (.int .i64 0) ∧ w'.cell? ⟨w.heap.size, 6, none⟩ = some (.int .i64 0) ∧ w'.cell? ⟨w.heap.size, 7, none⟩ = some (.int .i64 0) ∧ w'.cell? ⟨w.heap.size, 8, none⟩ = some (.string .empty) ∧ w'.cell? ⟨w.heap.size, 9, none⟩ = some (.string .empty) ∧ w'.cell? ⟨w.heap.size, 10, none⟩ = some (.string .empty)) (simp [*, go_sem])
                        (first
                          | (go_at_call 93; refine (cutRecord_any ix _).mono ?_; rintro x w1 ⟨rfl, hb1⟩; have hz1 : w.heap.size < w1.heap.size := (by have := hb1.size; simp at this; omega); have q1 := fun (o : Nat) => (bcell hb1).1 w.heap.size o (by simp); have hG1 : w1.cell? ⟨0, 0, none⟩ = some (sentR A) := ((bcell hb1).1 _ 0 (by simp <;> omega)).trans (((bcell ((Below.refl w.heap.size w).alloc (Nat.le_refl _) (.cells #[.int .i64 3, .int .i64 0, .int .i64 0, .int .i64 ix, .int .i64 0, .int .i64 0, .int .i64 0, .int .i64 0, .string .empty, .string .empty, .string .empty] 94))).1 _ 0 hgl).trans hG))
                          | (go_at_call 165; refine (cutFits_any ix _).mono ?_; rintro x w2 ⟨rfl, hb2⟩; have hz2 : w.heap.size < w2.heap.size := (by have := hb2.size; omega); have q2 := fun (o : Nat) => (bcell hb2).1 w.heap.size o hz1; have hG2 : w2.cell? ⟨0, 0, none⟩ = some (sentR A) := ((bcell hb2).1 _ 0 (by omega)).trans hG1; rw [hF]))
                      all_goals go_wp2
                      all_goals go_quiet (fail)
                      all_goals go_wp2
                      all_goals go_ret2
                      all_goals exact ⟨rfl, ch_below (ch_trans (ch_trans hB0.out hb1 (by simp)) hb2 (by omega))⟩
                    · have hN : noEntB (⟨0, 0, 0, 0, .empty, .empty, .empty⟩ : Ent) = true := by rw [noEnt_iff]; rfl
                      have hR : recB (⟨3, 0, 0, ix, ⟨0, 0, 0, 0, .empty, .empty, .empty⟩⟩ : Rec) = true := by simp [recB, hN, hF]
                      have hC : chAns A (⟨3, 0, 0, ix, ⟨0, 0, 0, 0, .empty, .empty, .empty⟩⟩ : Rec) = .tuple #[.iface 136 (.agg #[.int .i64 ix]), .nilIface] := by unfold chAns; rw [hR]; rfl
                      rw [hC]
                      clear hC hR
                      have hB0 : Hid (Below w.heap.size w (w.alloc (.cells #[.int .i64 3, .int .i64 0, .int .i64 0, .int .i64 ix, .int .i64 0, .int .i64 0, .int .i64 0, .int .i64 0, .string .empty, .string .empty, .string .empty] 94))) := (Below.refl _ _).alloc (Nat.le_refl _) _
                      have m1 := fun x w => meth_cut_record x w
                      have m2 := fun x w => meth_cut_fits x w
                      go_enter Tryd.func82, Tryd.ntmps82
                      go_wp2
                      go_region_held3 (fun w' => w'.cell? ⟨w.heap.size, 0, none⟩ = some (.int .i64 3) ∧ w'.cell? ⟨w.heap.size, 1, none⟩ = some (.int .i64 0) ∧ w'.cell? ⟨w.heap.size, 2, none⟩ = some (.int .i64 0) ∧ w'.cell? ⟨w.heap.size, 3, none⟩ = some (.int .i64 ix) ∧ w'.cell? ⟨w.heap.size, 4, none⟩ = some (.int .i64 0) ∧ w'.cell? ⟨w.heap.size, 5, none⟩ = some (.int .i64 0) ∧ w'.cell? ⟨w.heap.size, 6, none⟩ = some (.int .i64 0) ∧ w'.cell? ⟨w.heap.size, 7, none⟩ = some (.int .i64 0) ∧ w'.cell? ⟨w.heap.size, 8, none⟩ = some (.string .empty) ∧ w'.cell? ⟨w.heap.size, 9, none⟩ = some (.string .empty) ∧ w'.cell? ⟨w.heap.size, 10, none⟩ = some (.string .empty)) (simp [*, go_sem])
                        (first
                          | (go_at_call 93; refine (cutRecord_any ix _).mono ?_; rintro x w1 ⟨rfl, hb1⟩; have hz1 : w.heap.size < w1.heap.size := (by have := hb1.size; simp at this; omega); have q1 := fun (o : Nat) => (bcell hb1).1 w.heap.size o (by simp); have hG1 : w1.cell? ⟨0, 0, none⟩ = some (sentR A) := ((bcell hb1).1 _ 0 (by simp <;> omega)).trans (((bcell ((Below.refl w.heap.size w).alloc (Nat.le_refl _) (.cells #[.int .i64 3, .int .i64 0, .int .i64 0, .int .i64 ix, .int .i64 0, .int .i64 0, .int .i64 0, .int .i64 0, .string .empty, .string .empty, .string .empty] 94))).1 _ 0 hgl).trans hG))
                          | (go_at_call 165; refine (cutFits_any ix _).mono ?_; rintro x w2 ⟨rfl, hb2⟩; have hz2 : w.heap.size < w2.heap.size := (by have := hb2.size; omega); have q2 := fun (o : Nat) => (bcell hb2).1 w.heap.size o hz1; have hG2 : w2.cell? ⟨0, 0, none⟩ = some (sentR A) := ((bcell hb2).1 _ 0 (by omega)).trans hG1; rw [hF]))
                      all_goals go_wp2
                      all_goals go_ret2
                      all_goals exact ⟨rfl, ch_below (ch_trans (ch_trans hB0.out hb1 (by simp)) hb2 (by omega))⟩
                  · have hN : noEntB (⟨0, 0, 0, 0, .empty, .empty, o⟩ : Ent) = false := by
                      cases hB : noEntB (⟨0, 0, 0, 0, .empty, .empty, o⟩ : Ent)
                      · rfl
                      · rw [noEnt_iff] at hB; injection hB with e0 e1 e2 e3 e4 e5 e6; exact absurd e6 ho
                    have b_o := text_ne ho
                    have c_o := text_ne' ho
                    have d_o : ¬ ([] : List UInt8) = o.toList := fun e => b_o e.symm
                    have e_o : (([] : List UInt8) == o.toList) = false := by simpa using d_o
                    have hR : recB (⟨3, 0, 0, ix, ⟨0, 0, 0, 0, .empty, .empty, o⟩⟩ : Rec) = false := by simp [recB, hN]
                    have hC : chAns A (⟨3, 0, 0, ix, ⟨0, 0, 0, 0, .empty, .empty, o⟩⟩ : Rec) = .tuple #[.nilIface, .iface 124 (.agg #[sentR A, .int .i64 0])] := by unfold chAns; rw [hR]; rfl
                    rw [hC]
                    clear hC hR
                    have hB0 : Hid (Below w.heap.size w (w.alloc (.cells #[.int .i64 3, .int .i64 0, .int .i64 0, .int .i64 ix, .int .i64 0, .int .i64 0, .int .i64 0, .int .i64 0, .string .empty, .string .empty, .string o] 94))) := (Below.refl _ _).alloc (Nat.le_refl _) _
                    have m1 := fun x w => meth_cut_record x w
                    have m2 := fun x w => meth_cut_fits x w
                    go_enter Tryd.func82, Tryd.ntmps82
                    go_wp2
                    first | (go_region_with (go_at_call 93; refine (cutRecord_any ix _).mono ?_; rintro x w1 ⟨rfl, hb1⟩; have hz1 : w.heap.size < w1.heap.size := (by have := hb1.size; simp at this; omega); have k0 : w1.cell? ⟨w.heap.size, 0, none⟩ = some (.int .i64 3) := ((bcell hb1).1 w.heap.size 0 (by simp)).trans (by simp [go_sem]); have k1 : w1.cell? ⟨w.heap.size, 1, none⟩ = some (.int .i64 0) := ((bcell hb1).1 w.heap.size 1 (by simp)).trans (by simp [go_sem]); have k2 : w1.cell? ⟨w.heap.size, 2, none⟩ = some (.int .i64 0) := ((bcell hb1).1 w.heap.size 2 (by simp)).trans (by simp [go_sem]); have k3 : w1.cell? ⟨w.heap.size, 3, none⟩ = some (.int .i64 ix) := ((bcell hb1).1 w.heap.size 3 (by simp)).trans (by simp [go_sem]); have k4 : w1.cell? ⟨w.heap.size, 4, none⟩ = some (.int .i64 0) := ((bcell hb1).1 w.heap.size 4 (by simp)).trans (by simp [go_sem]); have k5 : w1.cell? ⟨w.heap.size, 5, none⟩ = some (.int .i64 0) := ((bcell hb1).1 w.heap.size 5 (by simp)).trans (by simp [go_sem]); have k6 : w1.cell? ⟨w.heap.size, 6, none⟩ = some (.int .i64 0) := ((bcell hb1).1 w.heap.size 6 (by simp)).trans (by simp [go_sem]); have k7 : w1.cell? ⟨w.heap.size, 7, none⟩ = some (.int .i64 0) := ((bcell hb1).1 w.heap.size 7 (by simp)).trans (by simp [go_sem]); have k8 : w1.cell? ⟨w.heap.size, 8, none⟩ = some (.string .empty) := ((bcell hb1).1 w.heap.size 8 (by simp)).trans (by simp [go_sem]); have k9 : w1.cell? ⟨w.heap.size, 9, none⟩ = some (.string .empty) := ((bcell hb1).1 w.heap.size 9 (by simp)).trans (by simp [go_sem]); have k10 : w1.cell? ⟨w.heap.size, 10, none⟩ = some (.string o) := ((bcell hb1).1 w.heap.size 10 (by simp)).trans (by simp [go_sem]); have hG1 : w1.cell? ⟨0, 0, none⟩ = some (sentR A) := ((bcell hb1).1 _ 0 (by simp <;> omega)).trans (((bcell ((Below.refl w.heap.size w).alloc (Nat.le_refl _) (.cells #[.int .i64 3, .int .i64 0, .int .i64 0, .int .i64 ix, .int .i64 0, .int .i64 0, .int .i64 0, .int .i64 0, .string .empty, .string .empty, .string o] 94))).1 _ 0 hgl).trans hG))) | fail
                    all_goals go_wp2
                    all_goals go_quiet (fail)
                    all_goals go_wp2
                    all_goals go_ret2
                    all_goals exact ⟨rfl, ch_below (ch_trans hB0.out hb1 (by simp))⟩
                · have hN : noEntB (⟨0, 0, 0, 0, .empty, v, o⟩ : Ent) = false := by
                    cases hB : noEntB (⟨0, 0, 0, 0, .empty, v, o⟩ : Ent)
                    · rfl
                    · rw [noEnt_iff] at hB; injection hB with e0 e1 e2 e3 e4 e5 e6; exact absurd e5 hv
                  have b_v := text_ne hv
                  have c_v := text_ne' hv
                  have d_v : ¬ ([] : List UInt8) = v.toList := fun e => b_v e.symm
                  have e_v : (([] : List UInt8) == v.toList) = false := by simpa using d_v
                  have hR : recB (⟨3, 0, 0, ix, ⟨0, 0, 0, 0, .empty, v, o⟩⟩ : Rec) = false := by simp [recB, hN]
                  have hC : chAns A (⟨3, 0, 0, ix, ⟨0, 0, 0, 0, .empty, v, o⟩⟩ : Rec) = .tuple #[.nilIface, .iface 124 (.agg #[sentR A, .int .i64 0])] := by unfold chAns; rw [hR]; rfl
                  rw [hC]
                  clear hC hR
                  have hB0 : Hid (Below w.heap.size w (w.alloc (.cells #[.int .i64 3, .int .i64 0, .int .i64 0, .int .i64 ix, .int .i64 0, .int .i64 0, .int .i64 0, .int .i64 0, .string .empty, .string v, .string o] 94))) := (Below.refl _ _).alloc (Nat.le_refl _) _
                  have m1 := fun x w => meth_cut_record x w
                  have m2 := fun x w => meth_cut_fits x w
                  go_enter Tryd.func82, Tryd.ntmps82
                  go_wp2
                  first | (go_region_with (go_at_call 93; refine (cutRecord_any ix _).mono ?_; rintro x w1 ⟨rfl, hb1⟩; have hz1 : w.heap.size < w1.heap.size := (by have := hb1.size; simp at this; omega); have k0 : w1.cell? ⟨w.heap.size, 0, none⟩ = some (.int .i64 3) := ((bcell hb1).1 w.heap.size 0 (by simp)).trans (by simp [go_sem]); have k1 : w1.cell? ⟨w.heap.size, 1, none⟩ = some (.int .i64 0) := ((bcell hb1).1 w.heap.size 1 (by simp)).trans (by simp [go_sem]); have k2 : w1.cell? ⟨w.heap.size, 2, none⟩ = some (.int .i64 0) := ((bcell hb1).1 w.heap.size 2 (by simp)).trans (by simp [go_sem]); have k3 : w1.cell? ⟨w.heap.size, 3, none⟩ = some (.int .i64 ix) := ((bcell hb1).1 w.heap.size 3 (by simp)).trans (by simp [go_sem]); have k4 : w1.cell? ⟨w.heap.size, 4, none⟩ = some (.int .i64 0) := ((bcell hb1).1 w.heap.size 4 (by simp)).trans (by simp [go_sem]); have k5 : w1.cell? ⟨w.heap.size, 5, none⟩ = some (.int .i64 0) := ((bcell hb1).1 w.heap.size 5 (by simp)).trans (by simp [go_sem]); have k6 : w1.cell? ⟨w.heap.size, 6, none⟩ = some (.int .i64 0) := ((bcell hb1).1 w.heap.size 6 (by simp)).trans (by simp [go_sem]); have k7 : w1.cell? ⟨w.heap.size, 7, none⟩ = some (.int .i64 0) := ((bcell hb1).1 w.heap.size 7 (by simp)).trans (by simp [go_sem]); have k8 : w1.cell? ⟨w.heap.size, 8, none⟩ = some (.string .empty) := ((bcell hb1).1 w.heap.size 8 (by simp)).trans (by simp [go_sem]); have k9 : w1.cell? ⟨w.heap.size, 9, none⟩ = some (.string v) := ((bcell hb1).1 w.heap.size 9 (by simp)).trans (by simp [go_sem]); have k10 : w1.cell? ⟨w.heap.size, 10, none⟩ = some (.string o) := ((bcell hb1).1 w.heap.size 10 (by simp)).trans (by simp [go_sem]); have hG1 : w1.cell? ⟨0, 0, none⟩ = some (sentR A) := ((bcell hb1).1 _ 0 (by simp <;> omega)).trans (((bcell ((Below.refl w.heap.size w).alloc (Nat.le_refl _) (.cells #[.int .i64 3, .int .i64 0, .int .i64 0, .int .i64 ix, .int .i64 0, .int .i64 0, .int .i64 0, .int .i64 0, .string .empty, .string v, .string o] 94))).1 _ 0 hgl).trans hG))) | fail
                  all_goals go_wp2
                  all_goals go_quiet (fail)
                  all_goals go_wp2
                  all_goals go_ret2
                  all_goals exact ⟨rfl, ch_below (ch_trans hB0.out hb1 (by simp))⟩
              · have hN : noEntB (⟨0, 0, 0, 0, k, v, o⟩ : Ent) = false := by
                  cases hB : noEntB (⟨0, 0, 0, 0, k, v, o⟩ : Ent)
                  · rfl
                  · rw [noEnt_iff] at hB; injection hB with e0 e1 e2 e3 e4 e5 e6; exact absurd e4 hk
                have b_k := text_ne hk
                have c_k := text_ne' hk
                have d_k : ¬ ([] : List UInt8) = k.toList := fun e => b_k e.symm
                have e_k : (([] : List UInt8) == k.toList) = false := by simpa using d_k
                have hR : recB (⟨3, 0, 0, ix, ⟨0, 0, 0, 0, k, v, o⟩⟩ : Rec) = false := by simp [recB, hN]
                have hC : chAns A (⟨3, 0, 0, ix, ⟨0, 0, 0, 0, k, v, o⟩⟩ : Rec) = .tuple #[.nilIface, .iface 124 (.agg #[sentR A, .int .i64 0])] := by unfold chAns; rw [hR]; rfl
                rw [hC]
                clear hC hR
                have hB0 : Hid (Below w.heap.size w (w.alloc (.cells #[.int .i64 3, .int .i64 0, .int .i64 0, .int .i64 ix, .int .i64 0, .int .i64 0, .int .i64 0, .int .i64 0, .string k, .string v, .string o] 94))) := (Below.refl _ _).alloc (Nat.le_refl _) _
                have m1 := fun x w => meth_cut_record x w
                have m2 := fun x w => meth_cut_fits x w
                go_enter Tryd.func82, Tryd.ntmps82
                go_wp2
                first | (go_region_with (go_at_call 93; refine (cutRecord_any ix _).mono ?_; rintro x w1 ⟨rfl, hb1⟩; have hz1 : w.heap.size < w1.heap.size := (by have := hb1.size; simp at this; omega); have k0 : w1.cell? ⟨w.heap.size, 0, none⟩ = some (.int .i64 3) := ((bcell hb1).1 w.heap.size 0 (by simp)).trans (by simp [go_sem]); have k1 : w1.cell? ⟨w.heap.size, 1, none⟩ = some (.int .i64 0) := ((bcell hb1).1 w.heap.size 1 (by simp)).trans (by simp [go_sem]); have k2 : w1.cell? ⟨w.heap.size, 2, none⟩ = some (.int .i64 0) := ((bcell hb1).1 w.heap.size 2 (by simp)).trans (by simp [go_sem]); have k3 : w1.cell? ⟨w.heap.size, 3, none⟩ = some (.int .i64 ix) := ((bcell hb1).1 w.heap.size 3 (by simp)).trans (by simp [go_sem]); have k4 : w1.cell? ⟨w.heap.size, 4, none⟩ = some (.int .i64 0) := ((bcell hb1).1 w.heap.size 4 (by simp)).trans (by simp [go_sem]); have k5 : w1.cell? ⟨w.heap.size, 5, none⟩ = some (.int .i64 0) := ((bcell hb1).1 w.heap.size 5 (by simp)).trans (by simp [go_sem]); have k6 : w1.cell? ⟨w.heap.size, 6, none⟩ = some (.int .i64 0) := ((bcell hb1).1 w.heap.size 6 (by simp)).trans (by simp [go_sem]); have k7 : w1.cell? ⟨w.heap.size, 7, none⟩ = some (.int .i64 0) := ((bcell hb1).1 w.heap.size 7 (by simp)).trans (by simp [go_sem]); have k8 : w1.cell? ⟨w.heap.size, 8, none⟩ = some (.string k) := ((bcell hb1).1 w.heap.size 8 (by simp)).trans (by simp [go_sem]); have k9 : w1.cell? ⟨w.heap.size, 9, none⟩ = some (.string v) := ((bcell hb1).1 w.heap.size 9 (by simp)).trans (by simp [go_sem]); have k10 : w1.cell? ⟨w.heap.size, 10, none⟩ = some (.string o) := ((bcell hb1).1 w.heap.size 10 (by simp)).trans (by simp [go_sem]); have hG1 : w1.cell? ⟨0, 0, none⟩ = some (sentR A) := ((bcell hb1).1 _ 0 (by simp <;> omega)).trans (((bcell ((Below.refl w.heap.size w).alloc (Nat.le_refl _) (.cells #[.int .i64 3, .int .i64 0, .int .i64 0, .int .i64 ix, .int .i64 0, .int .i64 0, .int .i64 0, .int .i64 0, .string k, .string v, .string o] 94))).1 _ 0 hgl).trans hG))) | fail
                all_goals go_wp2
                all_goals go_quiet (fail)
                all_goals go_wp2
                all_goals go_ret2
                all_goals exact ⟨rfl, ch_below (ch_trans hB0.out hb1 (by simp))⟩
            · have hN : noEntB (⟨0, 0, 0, op, k, v, o⟩ : Ent) = false := by
                cases hB : noEntB (⟨0, 0, 0, op, k, v, o⟩ : Ent)
                · rfl
                · rw [noEnt_iff] at hB; injection hB with e0 e1 e2 e3 e4 e5 e6; exact absurd e3 hop
              have b_op : (op == 0) = false := by simpa using hop
              have d_op : ((0 : Int) == op) = false := by simpa using (fun e : (0 : Int) = op => hop e.symm)
              have hR : recB (⟨3, 0, 0, ix, ⟨0, 0, 0, op, k, v, o⟩⟩ : Rec) = false := by simp [recB, hN]
              have hC : chAns A (⟨3, 0, 0, ix, ⟨0, 0, 0, op, k, v, o⟩⟩ : Rec) = .tuple #[.nilIface, .iface 124 (.agg #[sentR A, .int .i64 0])] := by unfold chAns; rw [hR]; rfl
              rw [hC]
              clear hC hR
              have hB0 : Hid (Below w.heap.size w (w.alloc (.cells #[.int .i64 3, .int .i64 0, .int .i64 0, .int .i64 ix, .int .i64 0, .int .i64 0, .int .i64 0, .int .i64 op, .string k, .string v, .string o] 94))) := (Below.refl _ _).alloc (Nat.le_refl _) _
              have m1 := fun x w => meth_cut_record x w
              have m2 := fun x w => meth_cut_fits x w
              go_enter Tryd.func82, Tryd.ntmps82
              go_wp2
              first | (go_region_with (go_at_call 93; refine (cutRecord_any ix _).mono ?_; rintro x w1 ⟨rfl, hb1⟩; have hz1 : w.heap.size < w1.heap.size := (by have := hb1.size; simp at this; omega); have k0 : w1.cell? ⟨w.heap.size, 0, none⟩ = some (.int .i64 3) := ((bcell hb1).1 w.heap.size 0 (by simp)).trans (by simp [go_sem]); have k1 : w1.cell? ⟨w.heap.size, 1, none⟩ = some (.int .i64 0) := ((bcell hb1).1 w.heap.size 1 (by simp)).trans (by simp [go_sem]); have k2 : w1.cell? ⟨w.heap.size, 2, none⟩ = some (.int .i64 0) := ((bcell hb1).1 w.heap.size 2 (by simp)).trans (by simp [go_sem]); have k3 : w1.cell? ⟨w.heap.size, 3, none⟩ = some (.int .i64 ix) := ((bcell hb1).1 w.heap.size 3 (by simp)).trans (by simp [go_sem]); have k4 : w1.cell? ⟨w.heap.size, 4, none⟩ = some (.int .i64 0) := ((bcell hb1).1 w.heap.size 4 (by simp)).trans (by simp [go_sem]); have k5 : w1.cell? ⟨w.heap.size, 5, none⟩ = some (.int .i64 0) := ((bcell hb1).1 w.heap.size 5 (by simp)).trans (by simp [go_sem]); have k6 : w1.cell? ⟨w.heap.size, 6, none⟩ = some (.int .i64 0) := ((bcell hb1).1 w.heap.size 6 (by simp)).trans (by simp [go_sem]); have k7 : w1.cell? ⟨w.heap.size, 7, none⟩ = some (.int .i64 op) := ((bcell hb1).1 w.heap.size 7 (by simp)).trans (by simp [go_sem]); have k8 : w1.cell? ⟨w.heap.size, 8, none⟩ = some (.string k) := ((bcell hb1).1 w.heap.size 8 (by simp)).trans (by simp [go_sem]); have k9 : w1.cell? ⟨w.heap.size, 9, none⟩ = some (.string v) := ((bcell hb1).1 w.heap.size 9 (by simp)).trans (by simp [go_sem]); have k10 : w1.cell? ⟨w.heap.size, 10, none⟩ = some (.string o) := ((bcell hb1).1 w.heap.size 10 (by simp)).trans (by simp [go_sem]); have hG1 : w1.cell? ⟨0, 0, none⟩ = some (sentR A) := ((bcell hb1).1 _ 0 (by simp <;> omega)).trans (((bcell ((Below.refl w.heap.size w).alloc (Nat.le_refl _) (.cells #[.int .i64 3, .int .i64 0, .int .i64 0, .int .i64 ix, .int .i64 0, .int .i64 0, .int .i64 0, .int .i64 op, .string k, .string v, .string o] 94))).1 _ 0 hgl).trans hG))) | fail
              all_goals go_wp2
              all_goals go_quiet (fail)
              all_goals go_wp2
              all_goals go_ret2
              all_goals exact ⟨rfl, ch_below (ch_trans hB0.out hb1 (by simp))⟩
          · have hN : noEntB (⟨0, 0, sq, op, k, v, o⟩ : Ent) = false := by
              cases hB : noEntB (⟨0, 0, sq, op, k, v, o⟩ : Ent)
              · rfl
              · rw [noEnt_iff] at hB; injection hB with e0 e1 e2 e3 e4 e5 e6; exact absurd e2 hsq
            have b_sq : (sq == 0) = false := by simpa using hsq
            have d_sq : ((0 : Int) == sq) = false := by simpa using (fun e : (0 : Int) = sq => hsq e.symm)
            have hR : recB (⟨3, 0, 0, ix, ⟨0, 0, sq, op, k, v, o⟩⟩ : Rec) = false := by simp [recB, hN]
            have hC : chAns A (⟨3, 0, 0, ix, ⟨0, 0, sq, op, k, v, o⟩⟩ : Rec) = .tuple #[.nilIface, .iface 124 (.agg #[sentR A, .int .i64 0])] := by unfold chAns; rw [hR]; rfl
            rw [hC]
            clear hC hR
            have hB0 : Hid (Below w.heap.size w (w.alloc (.cells #[.int .i64 3, .int .i64 0, .int .i64 0, .int .i64 ix, .int .i64 0, .int .i64 0, .int .i64 sq, .int .i64 op, .string k, .string v, .string o] 94))) := (Below.refl _ _).alloc (Nat.le_refl _) _
            have m1 := fun x w => meth_cut_record x w
            have m2 := fun x w => meth_cut_fits x w
            go_enter Tryd.func82, Tryd.ntmps82
            go_wp2
            first | (go_region_with (go_at_call 93; refine (cutRecord_any ix _).mono ?_; rintro x w1 ⟨rfl, hb1⟩; have hz1 : w.heap.size < w1.heap.size := (by have := hb1.size; simp at this; omega); have k0 : w1.cell? ⟨w.heap.size, 0, none⟩ = some (.int .i64 3) := ((bcell hb1).1 w.heap.size 0 (by simp)).trans (by simp [go_sem]); have k1 : w1.cell? ⟨w.heap.size, 1, none⟩ = some (.int .i64 0) := ((bcell hb1).1 w.heap.size 1 (by simp)).trans (by simp [go_sem]); have k2 : w1.cell? ⟨w.heap.size, 2, none⟩ = some (.int .i64 0) := ((bcell hb1).1 w.heap.size 2 (by simp)).trans (by simp [go_sem]); have k3 : w1.cell? ⟨w.heap.size, 3, none⟩ = some (.int .i64 ix) := ((bcell hb1).1 w.heap.size 3 (by simp)).trans (by simp [go_sem]); have k4 : w1.cell? ⟨w.heap.size, 4, none⟩ = some (.int .i64 0) := ((bcell hb1).1 w.heap.size 4 (by simp)).trans (by simp [go_sem]); have k5 : w1.cell? ⟨w.heap.size, 5, none⟩ = some (.int .i64 0) := ((bcell hb1).1 w.heap.size 5 (by simp)).trans (by simp [go_sem]); have k6 : w1.cell? ⟨w.heap.size, 6, none⟩ = some (.int .i64 sq) := ((bcell hb1).1 w.heap.size 6 (by simp)).trans (by simp [go_sem]); have k7 : w1.cell? ⟨w.heap.size, 7, none⟩ = some (.int .i64 op) := ((bcell hb1).1 w.heap.size 7 (by simp)).trans (by simp [go_sem]); have k8 : w1.cell? ⟨w.heap.size, 8, none⟩ = some (.string k) := ((bcell hb1).1 w.heap.size 8 (by simp)).trans (by simp [go_sem]); have k9 : w1.cell? ⟨w.heap.size, 9, none⟩ = some (.string v) := ((bcell hb1).1 w.heap.size 9 (by simp)).trans (by simp [go_sem]); have k10 : w1.cell? ⟨w.heap.size, 10, none⟩ = some (.string o) := ((bcell hb1).1 w.heap.size 10 (by simp)).trans (by simp [go_sem]); have hG1 : w1.cell? ⟨0, 0, none⟩ = some (sentR A) := ((bcell hb1).1 _ 0 (by simp <;> omega)).trans (((bcell ((Below.refl w.heap.size w).alloc (Nat.le_refl _) (.cells #[.int .i64 3, .int .i64 0, .int .i64 0, .int .i64 ix, .int .i64 0, .int .i64 0, .int .i64 sq, .int .i64 op, .string k, .string v, .string o] 94))).1 _ 0 hgl).trans hG))) | fail
            all_goals go_wp2
            all_goals go_quiet (fail)
            all_goals go_wp2
            all_goals go_ret2
            all_goals exact ⟨rfl, ch_below (ch_trans hB0.out hb1 (by simp))⟩
        · have hN : noEntB (⟨0, cl, sq, op, k, v, o⟩ : Ent) = false := by
            cases hB : noEntB (⟨0, cl, sq, op, k, v, o⟩ : Ent)
            · rfl
            · rw [noEnt_iff] at hB; injection hB with e0 e1 e2 e3 e4 e5 e6; exact absurd e1 hcl
          have b_cl : (cl == 0) = false := by simpa using hcl
          have d_cl : ((0 : Int) == cl) = false := by simpa using (fun e : (0 : Int) = cl => hcl e.symm)
          have hR : recB (⟨3, 0, 0, ix, ⟨0, cl, sq, op, k, v, o⟩⟩ : Rec) = false := by simp [recB, hN]
          have hC : chAns A (⟨3, 0, 0, ix, ⟨0, cl, sq, op, k, v, o⟩⟩ : Rec) = .tuple #[.nilIface, .iface 124 (.agg #[sentR A, .int .i64 0])] := by unfold chAns; rw [hR]; rfl
          rw [hC]
          clear hC hR
          have hB0 : Hid (Below w.heap.size w (w.alloc (.cells #[.int .i64 3, .int .i64 0, .int .i64 0, .int .i64 ix, .int .i64 0, .int .i64 cl, .int .i64 sq, .int .i64 op, .string k, .string v, .string o] 94))) := (Below.refl _ _).alloc (Nat.le_refl _) _
          have m1 := fun x w => meth_cut_record x w
          have m2 := fun x w => meth_cut_fits x w
          go_enter Tryd.func82, Tryd.ntmps82
          go_wp2
          first | (go_region_with (go_at_call 93; refine (cutRecord_any ix _).mono ?_; rintro x w1 ⟨rfl, hb1⟩; have hz1 : w.heap.size < w1.heap.size := (by have := hb1.size; simp at this; omega); have k0 : w1.cell? ⟨w.heap.size, 0, none⟩ = some (.int .i64 3) := ((bcell hb1).1 w.heap.size 0 (by simp)).trans (by simp [go_sem]); have k1 : w1.cell? ⟨w.heap.size, 1, none⟩ = some (.int .i64 0) := ((bcell hb1).1 w.heap.size 1 (by simp)).trans (by simp [go_sem]); have k2 : w1.cell? ⟨w.heap.size, 2, none⟩ = some (.int .i64 0) := ((bcell hb1).1 w.heap.size 2 (by simp)).trans (by simp [go_sem]); have k3 : w1.cell? ⟨w.heap.size, 3, none⟩ = some (.int .i64 ix) := ((bcell hb1).1 w.heap.size 3 (by simp)).trans (by simp [go_sem]); have k4 : w1.cell? ⟨w.heap.size, 4, none⟩ = some (.int .i64 0) := ((bcell hb1).1 w.heap.size 4 (by simp)).trans (by simp [go_sem]); have k5 : w1.cell? ⟨w.heap.size, 5, none⟩ = some (.int .i64 cl) := ((bcell hb1).1 w.heap.size 5 (by simp)).trans (by simp [go_sem]); have k6 : w1.cell? ⟨w.heap.size, 6, none⟩ = some (.int .i64 sq) := ((bcell hb1).1 w.heap.size 6 (by simp)).trans (by simp [go_sem]); have k7 : w1.cell? ⟨w.heap.size, 7, none⟩ = some (.int .i64 op) := ((bcell hb1).1 w.heap.size 7 (by simp)).trans (by simp [go_sem]); have k8 : w1.cell? ⟨w.heap.size, 8, none⟩ = some (.string k) := ((bcell hb1).1 w.heap.size 8 (by simp)).trans (by simp [go_sem]); have k9 : w1.cell? ⟨w.heap.size, 9, none⟩ = some (.string v) := ((bcell hb1).1 w.heap.size 9 (by simp)).trans (by simp [go_sem]); have k10 : w1.cell? ⟨w.heap.size, 10, none⟩ = some (.string o) := ((bcell hb1).1 w.heap.size 10 (by simp)).trans (by simp [go_sem]); have hG1 : w1.cell? ⟨0, 0, none⟩ = some (sentR A) := ((bcell hb1).1 _ 0 (by simp <;> omega)).trans (((bcell ((Below.refl w.heap.size w).alloc (Nat.le_refl _) (.cells #[.int .i64 3, .int .i64 0, .int .i64 0, .int .i64 ix, .int .i64 0, .int .i64 cl, .int .i64 sq, .int .i64 op, .string k, .string v, .string o] 94))).1 _ 0 hgl).trans hG))) | fail
          all_goals go_wp2
          all_goals go_quiet (fail)
          all_goals go_wp2
          all_goals go_ret2
          all_goals exact ⟨rfl, ch_below (ch_trans hB0.out hb1 (by simp))⟩
      · have hN : noEntB (⟨t, cl, sq, op, k, v, o⟩ : Ent) = false := by
          cases hB : noEntB (⟨t, cl, sq, op, k, v, o⟩ : Ent)
          · rfl
          · rw [noEnt_iff] at hB; injection hB with e0 e1 e2 e3 e4 e5 e6; exact absurd e0 ht
        have b_t : (t == 0) = false := by simpa using ht
        have d_t : ((0 : Int) == t) = false := by simpa using (fun e : (0 : Int) = t => ht e.symm)
        have hR : recB (⟨3, 0, 0, ix, ⟨t, cl, sq, op, k, v, o⟩⟩ : Rec) = false := by simp [recB, hN]
        have hC : chAns A (⟨3, 0, 0, ix, ⟨t, cl, sq, op, k, v, o⟩⟩ : Rec) = .tuple #[.nilIface, .iface 124 (.agg #[sentR A, .int .i64 0])] := by unfold chAns; rw [hR]; rfl
        rw [hC]
        clear hC hR
        have hB0 : Hid (Below w.heap.size w (w.alloc (.cells #[.int .i64 3, .int .i64 0, .int .i64 0, .int .i64 ix, .int .i64 t, .int .i64 cl, .int .i64 sq, .int .i64 op, .string k, .string v, .string o] 94))) := (Below.refl _ _).alloc (Nat.le_refl _) _
        have m1 := fun x w => meth_cut_record x w
        have m2 := fun x w => meth_cut_fits x w
        go_enter Tryd.func82, Tryd.ntmps82
        go_wp2
        first | (go_region_with (go_at_call 93; refine (cutRecord_any ix _).mono ?_; rintro x w1 ⟨rfl, hb1⟩; have hz1 : w.heap.size < w1.heap.size := (by have := hb1.size; simp at this; omega); have k0 : w1.cell? ⟨w.heap.size, 0, none⟩ = some (.int .i64 3) := ((bcell hb1).1 w.heap.size 0 (by simp)).trans (by simp [go_sem]); have k1 : w1.cell? ⟨w.heap.size, 1, none⟩ = some (.int .i64 0) := ((bcell hb1).1 w.heap.size 1 (by simp)).trans (by simp [go_sem]); have k2 : w1.cell? ⟨w.heap.size, 2, none⟩ = some (.int .i64 0) := ((bcell hb1).1 w.heap.size 2 (by simp)).trans (by simp [go_sem]); have k3 : w1.cell? ⟨w.heap.size, 3, none⟩ = some (.int .i64 ix) := ((bcell hb1).1 w.heap.size 3 (by simp)).trans (by simp [go_sem]); have k4 : w1.cell? ⟨w.heap.size, 4, none⟩ = some (.int .i64 t) := ((bcell hb1).1 w.heap.size 4 (by simp)).trans (by simp [go_sem]); have k5 : w1.cell? ⟨w.heap.size, 5, none⟩ = some (.int .i64 cl) := ((bcell hb1).1 w.heap.size 5 (by simp)).trans (by simp [go_sem]); have k6 : w1.cell? ⟨w.heap.size, 6, none⟩ = some (.int .i64 sq) := ((bcell hb1).1 w.heap.size 6 (by simp)).trans (by simp [go_sem]); have k7 : w1.cell? ⟨w.heap.size, 7, none⟩ = some (.int .i64 op) := ((bcell hb1).1 w.heap.size 7 (by simp)).trans (by simp [go_sem]); have k8 : w1.cell? ⟨w.heap.size, 8, none⟩ = some (.string k) := ((bcell hb1).1 w.heap.size 8 (by simp)).trans (by simp [go_sem]); have k9 : w1.cell? ⟨w.heap.size, 9, none⟩ = some (.string v) := ((bcell hb1).1 w.heap.size 9 (by simp)).trans (by simp [go_sem]); have k10 : w1.cell? ⟨w.heap.size, 10, none⟩ = some (.string o) := ((bcell hb1).1 w.heap.size 10 (by simp)).trans (by simp [go_sem]); have hG1 : w1.cell? ⟨0, 0, none⟩ = some (sentR A) := ((bcell hb1).1 _ 0 (by simp <;> omega)).trans (((bcell ((Below.refl w.heap.size w).alloc (Nat.le_refl _) (.cells #[.int .i64 3, .int .i64 0, .int .i64 0, .int .i64 ix, .int .i64 t, .int .i64 cl, .int .i64 sq, .int .i64 op, .string k, .string v, .string o] 94))).1 _ 0 hgl).trans hG))) | fail
        all_goals go_wp2
        all_goals go_quiet (fail)
        all_goals go_wp2
        all_goals go_ret2
        all_goals exact ⟨rfl, ch_below (ch_trans hB0.out hb1 (by simp))⟩
    · have b_vo : (vo == 0) = false := by simpa using hvo
      have d_vo : ((0 : Int) == vo) = false := by simpa using (fun e : (0 : Int) = vo => hvo e.symm)
      have hR : recB (⟨3, 0, vo, ix, ⟨t, cl, sq, op, k, v, o⟩⟩ : Rec) = false := by simp [recB, hvo]
      have hC : chAns A (⟨3, 0, vo, ix, ⟨t, cl, sq, op, k, v, o⟩⟩ : Rec) = .tuple #[.nilIface, .iface 124 (.agg #[sentR A, .int .i64 0])] := by unfold chAns; rw [hR]; rfl
      rw [hC]
      clear hC hR
      have hB0 : Hid (Below w.heap.size w (w.alloc (.cells #[.int .i64 3, .int .i64 0, .int .i64 vo, .int .i64 ix, .int .i64 t, .int .i64 cl, .int .i64 sq, .int .i64 op, .string k, .string v, .string o] 94))) := (Below.refl _ _).alloc (Nat.le_refl _) _
      have m1 := fun x w => meth_cut_record x w
      have m2 := fun x w => meth_cut_fits x w
      go_enter Tryd.func82, Tryd.ntmps82
      go_wp2
      first | (go_region_with (go_at_call 93; refine (cutRecord_any ix _).mono ?_; rintro x w1 ⟨rfl, hb1⟩; have hz1 : w.heap.size < w1.heap.size := (by have := hb1.size; simp at this; omega); have k0 : w1.cell? ⟨w.heap.size, 0, none⟩ = some (.int .i64 3) := ((bcell hb1).1 w.heap.size 0 (by simp)).trans (by simp [go_sem]); have k1 : w1.cell? ⟨w.heap.size, 1, none⟩ = some (.int .i64 0) := ((bcell hb1).1 w.heap.size 1 (by simp)).trans (by simp [go_sem]); have k2 : w1.cell? ⟨w.heap.size, 2, none⟩ = some (.int .i64 vo) := ((bcell hb1).1 w.heap.size 2 (by simp)).trans (by simp [go_sem]); have k3 : w1.cell? ⟨w.heap.size, 3, none⟩ = some (.int .i64 ix) := ((bcell hb1).1 w.heap.size 3 (by simp)).trans (by simp [go_sem]); have k4 : w1.cell? ⟨w.heap.size, 4, none⟩ = some (.int .i64 t) := ((bcell hb1).1 w.heap.size 4 (by simp)).trans (by simp [go_sem]); have k5 : w1.cell? ⟨w.heap.size, 5, none⟩ = some (.int .i64 cl) := ((bcell hb1).1 w.heap.size 5 (by simp)).trans (by simp [go_sem]); have k6 : w1.cell? ⟨w.heap.size, 6, none⟩ = some (.int .i64 sq) := ((bcell hb1).1 w.heap.size 6 (by simp)).trans (by simp [go_sem]); have k7 : w1.cell? ⟨w.heap.size, 7, none⟩ = some (.int .i64 op) := ((bcell hb1).1 w.heap.size 7 (by simp)).trans (by simp [go_sem]); have k8 : w1.cell? ⟨w.heap.size, 8, none⟩ = some (.string k) := ((bcell hb1).1 w.heap.size 8 (by simp)).trans (by simp [go_sem]); have k9 : w1.cell? ⟨w.heap.size, 9, none⟩ = some (.string v) := ((bcell hb1).1 w.heap.size 9 (by simp)).trans (by simp [go_sem]); have k10 : w1.cell? ⟨w.heap.size, 10, none⟩ = some (.string o) := ((bcell hb1).1 w.heap.size 10 (by simp)).trans (by simp [go_sem]); have hG1 : w1.cell? ⟨0, 0, none⟩ = some (sentR A) := ((bcell hb1).1 _ 0 (by simp <;> omega)).trans (((bcell ((Below.refl w.heap.size w).alloc (Nat.le_refl _) (.cells #[.int .i64 3, .int .i64 0, .int .i64 vo, .int .i64 ix, .int .i64 t, .int .i64 cl, .int .i64 sq, .int .i64 op, .string k, .string v, .string o] 94))).1 _ 0 hgl).trans hG))) | fail
      all_goals go_wp2
      all_goals go_quiet (fail)
      all_goals go_wp2
      all_goals go_ret2
      all_goals exact ⟨rfl, ch_below (ch_trans hB0.out hb1 (by simp))⟩
  · have b_tm : (tm == 0) = false := by simpa using htm
    have d_tm : ((0 : Int) == tm) = false := by simpa using (fun e : (0 : Int) = tm => htm e.symm)
    have hR : recB (⟨3, tm, vo, ix, ⟨t, cl, sq, op, k, v, o⟩⟩ : Rec) = false := by simp [recB, htm]
    have hC : chAns A (⟨3, tm, vo, ix, ⟨t, cl, sq, op, k, v, o⟩⟩ : Rec) = .tuple #[.nilIface, .iface 124 (.agg #[sentR A, .int .i64 0])] := by unfold chAns; rw [hR]; rfl
    rw [hC]
    clear hC hR
    have hB0 : Hid (Below w.heap.size w (w.alloc (.cells #[.int .i64 3, .int .i64 tm, .int .i64 vo, .int .i64 ix, .int .i64 t, .int .i64 cl, .int .i64 sq, .int .i64 op, .string k, .string v, .string o] 94))) := (Below.refl _ _).alloc (Nat.le_refl _) _
    have m1 := fun x w => meth_cut_record x w
    have m2 := fun x w => meth_cut_fits x w
    go_enter Tryd.func82, Tryd.ntmps82
    go_wp2
    first | (go_region_with (go_at_call 93; refine (cutRecord_any ix _).mono ?_; rintro x w1 ⟨rfl, hb1⟩; have hz1 : w.heap.size < w1.heap.size := (by have := hb1.size; simp at this; omega); have k0 : w1.cell? ⟨w.heap.size, 0, none⟩ = some (.int .i64 3) := ((bcell hb1).1 w.heap.size 0 (by simp)).trans (by simp [go_sem]); have k1 : w1.cell? ⟨w.heap.size, 1, none⟩ = some (.int .i64 tm) := ((bcell hb1).1 w.heap.size 1 (by simp)).trans (by simp [go_sem]); have k2 : w1.cell? ⟨w.heap.size, 2, none⟩ = some (.int .i64 vo) := ((bcell hb1).1 w.heap.size 2 (by simp)).trans (by simp [go_sem]); have k3 : w1.cell? ⟨w.heap.size, 3, none⟩ = some (.int .i64 ix) := ((bcell hb1).1 w.heap.size 3 (by simp)).trans (by simp [go_sem]); have k4 : w1.cell? ⟨w.heap.size, 4, none⟩ = some (.int .i64 t) := ((bcell hb1).1 w.heap.size 4 (by simp)).trans (by simp [go_sem]); have k5 : w1.cell? ⟨w.heap.size, 5, none⟩ = some (.int .i64 cl) := ((bcell hb1).1 w.heap.size 5 (by simp)).trans (by simp [go_sem]); have k6 : w1.cell? ⟨w.heap.size, 6, none⟩ = some (.int .i64 sq) := ((bcell hb1).1 w.heap.size 6 (by simp)).trans (by simp [go_sem]); have k7 : w1.cell? ⟨w.heap.size, 7, none⟩ = some (.int .i64 op) := ((bcell hb1).1 w.heap.size 7 (by simp)).trans (by simp [go_sem]); have k8 : w1.cell? ⟨w.heap.size, 8, none⟩ = some (.string k) := ((bcell hb1).1 w.heap.size 8 (by simp)).trans (by simp [go_sem]); have k9 : w1.cell? ⟨w.heap.size, 9, none⟩ = some (.string v) := ((bcell hb1).1 w.heap.size 9 (by simp)).trans (by simp [go_sem]); have k10 : w1.cell? ⟨w.heap.size, 10, none⟩ = some (.string o) := ((bcell hb1).1 w.heap.size 10 (by simp)).trans (by simp [go_sem]); have hG1 : w1.cell? ⟨0, 0, none⟩ = some (sentR A) := ((bcell hb1).1 _ 0 (by simp <;> omega)).trans (((bcell ((Below.refl w.heap.size w).alloc (Nat.le_refl _) (.cells #[.int .i64 3, .int .i64 tm, .int .i64 vo, .int .i64 ix, .int .i64 t, .int .i64 cl, .int .i64 sq, .int .i64 op, .string k, .string v, .string o] 94))).1 _ 0 hgl).trans hG))) | fail
    all_goals go_wp2
    all_goals go_quiet (fail)
    all_goals go_wp2
    all_goals go_ret2
    all_goals exact ⟨rfl, ch_below (ch_trans hB0.out hb1 (by simp))⟩
end Go.Proofs.YtjoflnnomebkpaaDoor

/-
  impl.framesOf.
-/
namespace Go.Proofs.YtjoflnnomebkpaaDoor
open Go.RowKit
set_option linter.unusedVariables false

theorem wpl_store_new' {w : World} {ops : Array Oper} {rest : List Oper} {o : Oper} {a : Act} {Q : Exit → Act → World → Prop} (hgd : o.guard = none) (ty : TypeId) (x y : Operand) (ho : o.op = .store ty x y)
    (c c' : Array Value) (hx : a.eval x = .pointer (some ⟨w.heap.size, 0, none⟩)) (hy : a.eval y = .agg c') (hi : (Tryd.prog.info? ty).map (·.size) = some c'.size) (hc : c.size = c'.size) (h1 : c'.all (·.oneCell') = true)
    (h : wpList Tryd.prog ops Q rest (a.put o.dst undef) (w.alloc (.cells c' ty))) : wpList Tryd.prog ops Q (o :: rest) a (w.alloc (.cells c ty)) :=
  wpList_plain hgd fun K hK => by
    unfold Oper.wp execOp
    simp only [ho, hx, hy, Sem.run_bind, Sem.run_pure, Result.andThen_ok, run_storeAt_new w ty c c' hi hc h1]
    exact hK _ _ h

theorem changeOf_other (ki tm vo ix t cl sq op : Int) (k v o : ByteArray) (h1 : ki ≠ 1) (h2 : ki ≠ 2) (h3 : ki ≠ 3) (A : Addr) (w : World) (hG : w.cell? ⟨0, 0, none⟩ = some (sentR A)) :
    Calls Tryd.prog 82 #[.agg #[.int .i64 ki, .int .i64 tm, .int .i64 vo, .int .i64 ix, .int .i64 t, .int .i64 cl, .int .i64 sq, .int .i64 op, .string k, .string v, .string o]] w fun x w' => x = .returned (chAns A ⟨ki, tm, vo, ix, ⟨t, cl, sq, op, k, v, o⟩⟩) ∧ Below w.heap.size w w' := by
  have hgl := cell_lt hG
  have hR : recB ⟨ki, tm, vo, ix, ⟨t, cl, sq, op, k, v, o⟩⟩ = false := by
    have b3 : (ki == 3) = false := by simpa using h3
    unfold recB
    simp only [h1, h2, if_false, b3, Bool.false_and]
    split <;> rfl
  have hC : chAns A ⟨ki, tm, vo, ix, ⟨t, cl, sq, op, k, v, o⟩⟩ = .tuple #[.nilIface, .iface 124 (.agg #[sentR A, .int .i64 0])] := by unfold chAns; rw [hR]; rfl
  rw [hC]
  have b1 : (ki == 1) = false := by simpa using h1
  have b2 : (ki == 2) = false := by simpa using h2
  have b3 : (ki == 3) = false := by simpa using h3
  clear hC hR
  have hG1 := ((bcell ((Below.refl w.heap.size w).alloc (Nat.le_refl _) (.cells #[.int .i64 ki, .int .i64 tm, .int .i64 vo, .int .i64 ix, .int .i64 t, .int .i64 cl, .int .i64 sq, .int .i64 op, .string k, .string v, .string o] 94))).1 _ 0 hgl).trans hG
  go_enter Tryd.func82, Tryd.ntmps82
  go_wp2
  go_quiet (fail)
  go_wp2
  go_ret2
  exact ⟨rfl, ch_below ((Below.refl _ _).alloc (Nat.le_refl _) _)⟩

theorem changeOf_any (r : Rec) (hf : r.e.fits) (A : Addr) (w : World) (hG : w.cell? ⟨0, 0, none⟩ = some (sentR A)) :
    Calls Tryd.prog 82 #[.agg r.cells.toArray] w fun x w' => x = .returned (chAns A r) ∧ Below w.heap.size w w' := by
  obtain ⟨ki, tm, vo, ix, ⟨t, cl, sq, op, k, v, o⟩⟩ := r
  by_cases h1 : ki = 1
  · subst h1; exact changeOf_hard tm vo ix t cl sq op k v o hf A w hG
  · by_cases h2 : ki = 2
    · subst h2; exact changeOf_add tm vo ix t cl sq op k v o hf A w hG
    · by_cases h3 : ki = 3
      · subst h3; exact changeOf_cut tm vo ix t cl sq op k v o hf A w hG
      · exact changeOf_other ki tm vo ix t cl sq op k v o h1 h2 h3 A w hG

/-- the encoder of a change that was made of a well-formed record -/
theorem encode_of (r : Rec) (h : recB r = true) : (∃ x, chV r = .iface 97 x ∧ ∀ w, Calls Tryd.prog 158 #[x, .slice none 0 0] w fun e w' => ∃ v', e = .returned v' ∧ Own w' w.heap.size v' (recL r) ∧ Below w.heap.size w w') ∨
    (∃ x, chV r = .iface 138 x ∧ ∀ w, Calls Tryd.prog 167 #[x, .slice none 0 0] w fun e w' => ∃ v', e = .returned v' ∧ Own w' w.heap.size v' (recL r) ∧ Below w.heap.size w w') ∨
    (∃ x, chV r = .iface 136 x ∧ ∀ w, Calls Tryd.prog 164 #[x, .slice none 0 0] w fun e w' => ∃ v', e = .returned v' ∧ Own w' w.heap.size v' (recL r) ∧ Below w.heap.size w w') := by
  rcases recB_kinds h with ⟨k1, h1, h2, h3, h4, h5, h6, h7⟩ | ⟨k2, h1, h2, h3, h4, h5⟩ | ⟨k3, h1, h2, h3, h4, h5⟩
  · obtain ⟨ki, tm, vo, ix, e⟩ := r
    simp only at k1 h1 h2 h3 h4 h5 h6
    subst k1 h1 h2
    obtain ⟨tm, rfl⟩ := Int.eq_ofNat_of_zero_le h3
    obtain ⟨vo, rfl⟩ := Int.eq_ofNat_of_zero_le h5
    exact .inl ⟨_, rfl, fun w => hardEncode_any tm vo (by omega) (by omega) w⟩
  · obtain ⟨ki, tm, vo, ix, e⟩ := r
    simp only at k2 h1 h2 h3 h4 h5
    subst k2 h1 h2
    obtain ⟨ix, rfl⟩ := Int.eq_ofNat_of_zero_le (show 0 ≤ ix by omega)
    obtain ⟨t, cl, sq, op, k, vl, o, rfl, a1, a2, a3, a4, a5, a6, a7, _⟩ := entB_nat h5
    exact .inr (.inl ⟨_, rfl, fun w => addEncode_any ix t cl sq op k vl o (by omega) a1 a2 a3 a4 a5 a6 a7 w⟩)
  · obtain ⟨ki, tm, vo, ix, e⟩ := r
    simp only at k3 h1 h2 h3 h4 h5
    subst k3 h1 h2 h3
    obtain ⟨ix, rfl⟩ := Int.eq_ofNat_of_zero_le h4
    exact .inr (.inr ⟨_, rfl, fun w => cutEncode_any ix (by omega) w⟩)


theorem recsB_no {l : List Rec} {k : Nat} (h : k < l.length) (hk : recB l[k] = false) : recsB l = false := by
  rw [recsB, all_take_false h hk, Bool.and_false]

set_option maxHeartbeats 8000000 in
set_option maxRecDepth 100000 in
theorem framesOf_any (v : Value) (l : List Rec) (w : World) (hv : Sl Rec.cells 11 w v l) (hf : ∀ r ∈ l, r.e.fits) (A : Addr) (hG : w.cell? ⟨0, 0, none⟩ = some (sentR A)) :
    Calls Tryd.prog 48 #[v] w fun x w' =>
      ((recsB l = true ∧ ∃ v', x = .returned (.tuple #[v', .nilIface]) ∧ Own w' w.heap.size v' (framesL l)) ∨ (recsB l = false ∧ x = .returned (.tuple #[.slice none 0 0, .iface 124 (.agg #[sentR A, .int .i64 0])]))) ∧ Below w.heap.size w w' := by
  have hgl := cell_lt hG
  obtain ⟨hl, a, cap, rfl, hc⟩ := hv
  unfold maxLen at hl
  by_cases h8 : (8192 : Int) < l.length
  · have e : recsB l = false := by simp [recsB]; omega
    have HE : Hid (recsB l = false) := e
    clear hc e
    go_enter Tryd.func48, Tryd.ntmps48
    go_wp2
    go_quiet (fail)
    go_wp2
    go_ret2
    exact ⟨.inr ⟨HE.out, rfl⟩, ch_below (Below.refl _ _)⟩
  · have h8' : l.length ≤ 8192 := by omega
    go_enter Tryd.func48, Tryd.ntmps48
    go_wp2
    go_loopw [4, 17] (fun o i wr => ∃ k : Nat, k ≤ l.length ∧ i = .int .i64 k ∧ (∀ r ∈ l.take k, recB r = true) ∧ Own wr w.heap.size o (framesL (l.take k)) ∧ Below w.heap.size w wr) (fun _ i _ => l.length - (intOf i).toNat)
    case atStart => exact ⟨0, Nat.zero_le _, rfl, by simp, Own.nil _ _, Below.refl _ _⟩
    case round =>
      obtain ⟨k, hk, rfl, hal, ho, hB⟩ := hrel
      have HA : Hid (∀ r ∈ l.take k, recB r = true) := hal
      clear hal
      have hz := hB.size
      by_cases hlt : k < l.length
      · obtain ⟨b, off, rfl, hj⟩ := hc k hlt
        have hra := range_below (hj k hlt) hB
        have hfk := hf l[k] (List.getElem_mem hlt)
        have hnew := range_new' wr l[k].cells 94
        have hGr : (wr.alloc (.cells l[k].cells.toArray 94)).cell? ⟨0, 0, none⟩ = some (sentR A) := ((bcell ((Below.refl wr.heap.size wr).alloc (Nat.le_refl _) (.cells l[k].cells.toArray 94))).1 _ 0 (by omega)).trans ((hB.cell (p := ⟨0, 0, none⟩) hgl).trans hG)
        clear hc hj
        cases hrk : recB l[k]
        · have HN : Hid (recsB l = false) := recsB_no hlt hrk
          have hca : chAns A l[k] = .tuple #[.nilIface, .iface 124 (.agg #[sentR A, .int .i64 0])] := by unfold chAns; rw [hrk]; rfl
          go_wp2_with (first
          | (refine gate_load' 94 (.tmp 19) rfl ?_; refine wpList_load_mid rfl 94 (.tmp 19) rfl b (off + k * 11) rfl l[k].cells _ hra Tryd.underlying94 rfl sizeRec ?_)
          | (refine gate_store' 94 (.tmp 6) (.tmp 20) rfl ?_; refine wpl_store_new' rfl 94 (.tmp 6) (.tmp 20) rfl #[.int .i64 0, .int .i64 0, .int .i64 0, .int .i64 0, .int .i64 0, .int .i64 0, .int .i64 0, .int .i64 0, .string ⟨#[]⟩, .string ⟨#[]⟩, .string ⟨#[]⟩] l[k].cells.toArray rfl rfl sizeRec rfl (by simp [Rec.cells, Value.oneCell']) ?_)
          | (refine gate_load' 94 (.tmp 6) rfl ?_; refine wpList_load_mid rfl 94 (.tmp 6) rfl wr.heap.size 0 rfl l[k].cells _ hnew Tryd.underlying94 rfl sizeRec ?_)
          | (go_at_call 82; refine (changeOf_any l[k] hfk A _ hGr).mono ?_; rintro x w1 ⟨rfl, hb1⟩; rw [hca]; have hz1 : wr.heap.size < w1.heap.size := (by have := hb1.size; simp at this; omega); have hB1 : Below w.heap.size w w1 := (hB.alloc hz _).trans (hb1.mono (by simp; omega))))
          go_ret2
          exact ⟨.inr ⟨HN.out, rfl⟩, hB1⟩
        · obtain ⟨p1, p2, p3⟩ := recL_len hrk
          have q1 : 0 < (frameL (recL l[k])).length := by simp [frameL, wordL]
          have hfl : (framesL (l.take k)).length ≤ 408 * 8192 := by
            have h := framesL_len (l := l.take k) (by rw [List.all_eq_true]; exact HA.out)
            have h2 : (l.take k).length ≤ 8192 := by rw [List.length_take]; omega
            omega
          have HT : Hid (framesL (l.take (k + 1)) = framesL (l.take k) ++ frameL (recL l[k])) := framesL_take l k hlt
          have HA' : Hid (∀ r ∈ l.take (k + 1), recB r = true) := by
            intro r hr
            rw [List.take_succ_eq_append_getElem hlt, List.mem_append] at hr
            rcases hr with hr | hr
            · exact HA.out r hr
            · rw [List.mem_singleton] at hr; rw [hr]; exact hrk
          rcases encode_of l[k] hrk with ⟨x, hch, hcc⟩ | ⟨x, hch, hcc⟩ | ⟨x, hch, hcc⟩
          · have HCC : Hid (∀ w, Calls Tryd.prog 158 #[x, .slice none 0 0] w fun e w' => ∃ v', e = .returned v' ∧ Own w' w.heap.size v' (recL l[k]) ∧ Below w.heap.size w w') := hcc
            have hm := fun w => meth_hard_encode x w
            have hca : chAns A l[k] = .tuple #[.iface 97 x, .nilIface] := by unfold chAns; rw [hrk, if_pos rfl, hch]
            clear hcc hch
            go_wp2_with (first
            | (refine gate_load' 94 (.tmp 19) rfl ?_; refine wpList_load_mid rfl 94 (.tmp 19) rfl b (off + k * 11) rfl l[k].cells _ hra Tryd.underlying94 rfl sizeRec ?_)
            | (refine gate_store' 94 (.tmp 6) (.tmp 20) rfl ?_; refine wpl_store_new' rfl 94 (.tmp 6) (.tmp 20) rfl #[.int .i64 0, .int .i64 0, .int .i64 0, .int .i64 0, .int .i64 0, .int .i64 0, .int .i64 0, .int .i64 0, .string ⟨#[]⟩, .string ⟨#[]⟩, .string ⟨#[]⟩] l[k].cells.toArray rfl rfl sizeRec rfl (by simp [Rec.cells, Value.oneCell']) ?_)
            | (refine gate_load' 94 (.tmp 6) rfl ?_; refine wpList_load_mid rfl 94 (.tmp 6) rfl wr.heap.size 0 rfl l[k].cells _ hnew Tryd.underlying94 rfl sizeRec ?_)
            | (go_at_call 82; refine (changeOf_any l[k] hfk A _ hGr).mono ?_; rintro x w1 ⟨rfl, hb1⟩; rw [hca]; have hz1 : wr.heap.size < w1.heap.size := (by have := hb1.size; simp at this; omega); have hB1 : Below w.heap.size w w1 := (hB.alloc hz _).trans (hb1.mono (by simp; omega)))
            | (go_at_call 158; refine Calls.mono (HCC.out _) ?_; rintro e w2 ⟨v2, rfl, ho2, hb2⟩; have hz2 := hb2.size; replace hB1 := hB1.trans (hb2.mono (by omega)))
            | (go_at_call 83; refine (sealFrame_any _ _ _ (ho2.bs (by unfold maxLen; omega)) p1 (by omega)).mono ?_; rintro e w3 ⟨v3, rfl, ho3, hb3⟩; have hz3 := hb3.size; have hoo := ((ho.below ((Below.refl _ _).alloc (Nat.le_refl _) (.cells l[k].cells.toArray 94))).below hb1).below (hb2.trans (hb3.mono hb2.size)); replace hB1 := hB1.trans (hb3.mono (by omega)))
            | (at_builtin; refine wpl_append rfl (.tmp 29) (.tmp 32) rfl hoo rfl (ho3.bs (by unfold maxLen; omega)) rfl q1 (by omega) (by omega) ?_; intro v4 w4 ho4 hg4; replace hB1 := hB1.trans (hg4.below hoo (by omega))))
            go_roundw
            case rel => exact ⟨k + 1, by omega, by go_num, HA'.out, by rw [HT.out]; exact ho4, hB1⟩
            case measure => simp [intOf]; omega
          · have HCC : Hid (∀ w, Calls Tryd.prog 167 #[x, .slice none 0 0] w fun e w' => ∃ v', e = .returned v' ∧ Own w' w.heap.size v' (recL l[k]) ∧ Below w.heap.size w w') := hcc
            have hm := fun w => meth_add_encode x w
            have hca : chAns A l[k] = .tuple #[.iface 138 x, .nilIface] := by unfold chAns; rw [hrk, if_pos rfl, hch]
            clear hcc hch
            go_wp2_with (first
            | (refine gate_load' 94 (.tmp 19) rfl ?_; refine wpList_load_mid rfl 94 (.tmp 19) rfl b (off + k * 11) rfl l[k].cells _ hra Tryd.underlying94 rfl sizeRec ?_)
            | (refine gate_store' 94 (.tmp 6) (.tmp 20) rfl ?_; refine wpl_store_new' rfl 94 (.tmp 6) (.tmp 20) rfl #[.int .i64 0, .int .i64 0, .int .i64 0, .int .i64 0, .int .i64 0, .int .i64 0, .int .i64 0, .int .i64 0, .string ⟨#[]⟩, .string ⟨#[]⟩, .string ⟨#[]⟩] l[k].cells.toArray rfl rfl sizeRec rfl (by simp [Rec.cells, Value.oneCell']) ?_)
            | (refine gate_load' 94 (.tmp 6) rfl ?_; refine wpList_load_mid rfl 94 (.tmp 6) rfl wr.heap.size 0 rfl l[k].cells _ hnew Tryd.underlying94 rfl sizeRec ?_)
            | (go_at_call 82; refine (changeOf_any l[k] hfk A _ hGr).mono ?_; rintro x w1 ⟨rfl, hb1⟩; rw [hca]; have hz1 : wr.heap.size < w1.heap.size := (by have := hb1.size; simp at this; omega); have hB1 : Below w.heap.size w w1 := (hB.alloc hz _).trans (hb1.mono (by simp; omega)))
            | (go_at_call 167; refine Calls.mono (HCC.out _) ?_; rintro e w2 ⟨v2, rfl, ho2, hb2⟩; have hz2 := hb2.size; replace hB1 := hB1.trans (hb2.mono (by omega)))
            | (go_at_call 83; refine (sealFrame_any _ _ _ (ho2.bs (by unfold maxLen; omega)) p1 (by omega)).mono ?_; rintro e w3 ⟨v3, rfl, ho3, hb3⟩; have hz3 := hb3.size; have hoo := ((ho.below ((Below.refl _ _).alloc (Nat.le_refl _) (.cells l[k].cells.toArray 94))).below hb1).below (hb2.trans (hb3.mono hb2.size)); replace hB1 := hB1.trans (hb3.mono (by omega)))
            | (at_builtin; refine wpl_append rfl (.tmp 29) (.tmp 32) rfl hoo rfl (ho3.bs (by unfold maxLen; omega)) rfl q1 (by omega) (by omega) ?_; intro v4 w4 ho4 hg4; replace hB1 := hB1.trans (hg4.below hoo (by omega))))
            go_roundw
            case rel => exact ⟨k + 1, by omega, by go_num, HA'.out, by rw [HT.out]; exact ho4, hB1⟩
            case measure => simp [intOf]; omega
          · have HCC : Hid (∀ w, Calls Tryd.prog 164 #[x, .slice none 0 0] w fun e w' => ∃ v', e = .returned v' ∧ Own w' w.heap.size v' (recL l[k]) ∧ Below w.heap.size w w') := hcc
            have hm := fun w => meth_cut_encode x w
            have hca : chAns A l[k] = .tuple #[.iface 136 x, .nilIface] := by unfold chAns; rw [hrk, if_pos rfl, hch]
            clear hcc hch
            go_wp2_with (first
            | (refine gate_load' 94 (.tmp 19) rfl ?_; refine wpList_load_mid rfl 94 (.tmp 19) rfl b (off + k * 11) rfl l[k].cells _ hra Tryd.underlying94 rfl sizeRec ?_)
            | (refine gate_store' 94 (.tmp 6) (.tmp 20) rfl ?_; refine wpl_store_new' rfl 94 (.tmp 6) (.tmp 20) rfl #[.int .i64 0, .int .i64 0, .int .i64 0, .int .i64 0, .int .i64 0, .int .i64 0, .int .i64 0, .int .i64 0, .string ⟨#[]⟩, .string ⟨#[]⟩, .string ⟨#[]⟩] l[k].cells.toArray rfl rfl sizeRec rfl (by simp [Rec.cells, Value.oneCell']) ?_)
            | (refine gate_load' 94 (.tmp 6) rfl ?_; refine wpList_load_mid rfl 94 (.tmp 6) rfl wr.heap.size 0 rfl l[k].cells _ hnew Tryd.underlying94 rfl sizeRec ?_)
            | (go_at_call 82; refine (changeOf_any l[k] hfk A _ hGr).mono ?_; rintro x w1 ⟨rfl, hb1⟩; rw [hca]; have hz1 : wr.heap.size < w1.heap.size := (by have := hb1.size; simp at this; omega); have hB1 : Below w.heap.size w w1 := (hB.alloc hz _).trans (hb1.mono (by simp; omega)))
            | (go_at_call 164; refine Calls.mono (HCC.out _) ?_; rintro e w2 ⟨v2, rfl, ho2, hb2⟩; have hz2 := hb2.size; replace hB1 := hB1.trans (hb2.mono (by omega)))
            | (go_at_call 83; refine (sealFrame_any _ _ _ (ho2.bs (by unfold maxLen; omega)) p1 (by omega)).mono ?_; rintro e w3 ⟨v3, rfl, ho3, hb3⟩; have hz3 := hb3.size; have hoo := ((ho.below ((Below.refl _ _).alloc (Nat.le_refl _) (.cells l[k].cells.toArray 94))).below hb1).below (hb2.trans (hb3.mono hb2.size)); replace hB1 := hB1.trans (hb3.mono (by omega)))
            | (at_builtin; refine wpl_append rfl (.tmp 29) (.tmp 32) rfl hoo rfl (ho3.bs (by unfold maxLen; omega)) rfl q1 (by omega) (by omega) ?_; intro v4 w4 ho4 hg4; replace hB1 := hB1.trans (hg4.below hoo (by omega))))
            go_roundw
            case rel => exact ⟨k + 1, by omega, by go_num, HA'.out, by rw [HT.out]; exact ho4, hB1⟩
            case measure => simp [intOf]; omega
      · have e : l.take k = l := List.take_of_length_le (by omega)
        rw [e] at ho HA
        have HR : Hid (recsB l = true) := by
          show _ = _
          simp only [recsB, Bool.and_eq_true, decide_eq_true_eq, List.all_eq_true]
          exact ⟨h8', HA.out⟩
        go_wp2
        go_ret2
        exact ⟨.inl ⟨HR.out, _, rfl, ho⟩, hB⟩

end Go.Proofs.YtjoflnnomebkpaaDoor

/-
  impl.writeDisk.
-/
namespace Go.Proofs.YtjoflnnomebkpaaDoor
open Go.RowKit
set_option linter.unusedVariables false
set_option linter.unusedSimpArgs false

theorem framesOf_no (v : Value) (l : List Rec) (w : World) (hv : Sl Rec.cells 11 w v l) (hf : ∀ r ∈ l, r.e.fits) (A : Addr) (hG : w.cell? ⟨0, 0, none⟩ = some (sentR A)) (hR : recsB l = false) :
    Calls Tryd.prog 48 #[v] w fun x w' => x = .returned (.tuple #[.slice none 0 0, .iface 124 (.agg #[sentR A, .int .i64 0])]) ∧ Below w.heap.size w w' :=
  (framesOf_any v l w hv hf A hG).mono fun x w' h => by
    rcases h with ⟨⟨h1, _⟩ | ⟨_, h2⟩, h3⟩
    · rw [hR] at h1; cases h1
    · exact ⟨h2, h3⟩
theorem framesOf_yes (v : Value) (l : List Rec) (w : World) (hv : Sl Rec.cells 11 w v l) (hf : ∀ r ∈ l, r.e.fits) (A : Addr) (hG : w.cell? ⟨0, 0, none⟩ = some (sentR A)) (hR : recsB l = true) :
    Calls Tryd.prog 48 #[v] w fun x w' => (∃ a' cap', x = .returned (.tuple #[.slice a' (framesL l).length cap', .nilIface]) ∧ Own w' w.heap.size (.slice a' (framesL l).length cap') (framesL l)) ∧ Below w.heap.size w w' :=
  (framesOf_any v l w hv hf A hG).mono fun x w' h => by
    rcases h with ⟨⟨_, v1, h1, ho⟩ | ⟨h2, _⟩, h3⟩
    · obtain ⟨a', cap', rfl⟩ := ho.shape
      exact ⟨⟨_, _, h1, ho⟩, h3⟩
    · rw [hR] at h2; cases h2

theorem writeDisk_bad (p : Nat) (v : Value) (rs : List Rec) (w : World) (hv : Sl Rec.cells 11 w v rs) (hf : ∀ r ∈ rs, r.e.fits) (A : Addr) (hG : w.cell? ⟨0, 0, none⟩ = some (sentR A)) (hR : recsB rs = false) :
    Calls Tryd.prog 51 #[.pointer (some ⟨p, 0, none⟩), v] w fun x w' => x = .returned (.iface 124 (.agg #[sentR A, .int .i64 0])) ∧ Below w.heap.size w w' := by
  have HF : Hid (Calls Tryd.prog 48 #[v] w fun x w' => x = .returned (.tuple #[.slice none 0 0, .iface 124 (.agg #[sentR A, .int .i64 0])]) ∧ Below w.heap.size w w') := framesOf_no v rs w hv hf A hG hR
  go_enter Tryd.func51, Tryd.ntmps51
  go_wp2_with (go_at_call 48; refine Calls.mono HF.out ?_; rintro x w1 ⟨rfl, hb⟩)
  go_ret
  exact ⟨rfl, hb⟩

set_option maxHeartbeats 4000000 in
set_option maxRecDepth 100000 in
theorem writeDisk_full (p : Nat) (c y : Int) (a : Option Addr) (n cap : Nat) (v : Value) (rs : List Rec) (w : World) (hp0 : w.cell? ⟨p, 0, none⟩ = some (.int .i64 c)) (hp2 : w.cell? ⟨p, 2, none⟩ = some (.slice a n cap)) (hn : n ≤ 1048576)
    (hv : Sl Rec.cells 11 w v rs) (hf : ∀ r ∈ rs, r.e.fits) (A A2 : Addr) (hG : w.cell? ⟨0, 0, none⟩ = some (sentR A)) (hG2 : w.cell? ⟨1, 0, none⟩ = some (sentR A2)) (hR : recsB rs = true) (hx : c < (n : Int) + ((framesL rs).length : Int)) :
    Calls Tryd.prog 51 #[.pointer (some ⟨p, 0, none⟩), v] w fun x w' => x = .returned (.iface 124 (.agg #[sentR A2, .int .i64 0])) ∧ Below w.heap.size w w' := by
  have HF : Hid (Calls Tryd.prog 48 #[v] w fun x w' => (∃ a' cap', x = .returned (.tuple #[.slice a' (framesL rs).length cap', .nilIface]) ∧ Own w' w.heap.size (.slice a' (framesL rs).length cap') (framesL rs)) ∧ Below w.heap.size w w') := framesOf_yes v rs w hv hf A hG hR
  have hfl : (framesL rs).length ≤ 3400000 := by have h := encRecs_len rs; rwa [show encRecs rs = framesL rs by simp [encRecs, hR]] at h
  have hwr : IntKind.i64.wrap ((n : Int) + ((framesL rs).length : Int)) = (n : Int) + ((framesL rs).length : Int) := by simp [IntKind.wrap, IntKind.signed, IntKind.bits]; omega
  go_enter Tryd.func51, Tryd.ntmps51
  go_wp2_with (go_at_call 48; refine Calls.mono HF.out ?_; rintro x w1 ⟨⟨a1, cap1, rfl, ho⟩, hb⟩; have k0 : w1.cell? ⟨p, 0, none⟩ = some (.int .i64 c) := ((bcell hb).1 p 0 (cell_lt hp0)).trans hp0; have k2 : w1.cell? ⟨p, 2, none⟩ = some (.slice a n cap) := ((bcell hb).1 p 2 (cell_lt hp2)).trans hp2; have kg : w1.cell? ⟨1, 0, none⟩ = some (sentR A2) := ((bcell hb).1 _ 0 (cell_lt hG2)).trans hG2)
  go_quiet (fail)
  go_wp2
  go_ret
  exact ⟨rfl, ch_below hb⟩

set_option maxHeartbeats 4000000 in
set_option maxRecDepth 100000 in
theorem writeDisk_ok (p : Nat) (c y : Int) (a : Option Addr) (cap : Nat) (l : List Int) (B : Nat) (v : Value) (rs : List Rec) (w : World) (hp0 : w.cell? ⟨p, 0, none⟩ = some (.int .i64 c)) (hp2 : w.cell? ⟨p, 2, none⟩ = some (.slice a l.length cap)) (hpf : w.frozen? ⟨p, 2, none⟩ = false)
    (ho : Own w B (.slice a l.length cap) l) (hB : B ≤ w.heap.size) (hne : (Value.slice a l.length cap).ownBlock ≠ some p) (hn : l.length ≤ 1048576)
    (hv : Sl Rec.cells 11 w v rs) (hf : ∀ r ∈ rs, r.e.fits) (A : Addr) (hG : w.cell? ⟨0, 0, none⟩ = some (sentR A)) (hR : recsB rs = true) (hx : ¬ c < (l.length : Int) + ((framesL rs).length : Int)) :
    Calls Tryd.prog 51 #[.pointer (some ⟨p, 0, none⟩), v] w fun x w' => x = .returned .nilIface ∧
      ∃ a' cap' w5, w' = w5.setCell ⟨p, 2, none⟩ (.slice a' (l.length + (framesL rs).length) cap') ∧ Own w5 B (.slice a' (l.length + (framesL rs).length) cap') (l ++ framesL rs) ∧ (Value.slice a' (l.length + (framesL rs).length) cap').ownBlock ≠ some p ∧ (∀ k, k < w.heap.size → (Value.slice a l.length cap).ownBlock ≠ some k → w5.heap[k]? = w.heap[k]?) ∧ Below B w w5 := by
  have HF : Hid (Calls Tryd.prog 48 #[v] w fun x w' => (∃ a' cap', x = .returned (.tuple #[.slice a' (framesL rs).length cap', .nilIface]) ∧ Own w' w.heap.size (.slice a' (framesL rs).length cap') (framesL rs)) ∧ Below w.heap.size w w') := framesOf_yes v rs w hv hf A hG hR
  have hfl : (framesL rs).length ≤ 3400000 := by have h := encRecs_len rs; rwa [show encRecs rs = framesL rs by simp [encRecs, hR]] at h
  have hwr : IntKind.i64.wrap ((l.length : Int) + ((framesL rs).length : Int)) = (l.length : Int) + ((framesL rs).length : Int) := by simp [IntKind.wrap, IntKind.signed, IntKind.bits]; omega
  have hlt := cell_lt hp0
  clear hv hf hG
  go_enter Tryd.func51, Tryd.ntmps51
  go_wp2_with (go_at_call 48; refine Calls.mono HF.out ?_; rintro x w1 ⟨⟨a1, cap1, rfl, ho1⟩, hb⟩; have z1 : w.heap.size ≤ w1.heap.size := hb.size; have k0 : w1.cell? ⟨p, 0, none⟩ = some (.int .i64 c) := ((bcell hb).1 p 0 hlt).trans hp0; have k2 : w1.cell? ⟨p, 2, none⟩ = some (.slice a l.length cap) := ((bcell hb).1 p 2 hlt).trans hp2; have kf : w1.frozen? ⟨p, 2, none⟩ = false := ((bcell hb).2 p 2 hlt).trans hpf; have HO := ho.below hb)
  go_quiet (fail)
  go_wp2_with (at_builtin; refine wpl_append_own (w := w1.drewN _) rfl (.tmp 35) (.tmp 36) rfl HO rfl ho1 rfl (by unfold maxLen; omega) (by omega) (show B ≤ w1.heap.size by omega) ?_; intro v5 w5 ho5 hg5; have n5 := hg5.far (k := p) (show p < w1.heap.size by omega) hne; have bl5 : ∀ k, k < w.heap.size → (Value.slice a l.length cap).ownBlock ≠ some k → w5.heap[k]? = w.heap[k]? := (fun k hk hk' => (hg5.block (k := k) (show k < w1.heap.size by omega) hk').trans (hb.block k hk)); have b5 := hg5.below HO (show B ≤ w1.heap.size by omega); obtain ⟨a5, cap5, rfl⟩ := ho5.shape; have j2 : w5.cell? ⟨p, 2, none⟩ = some (.slice a l.length cap) := (hg5.cell (k := p) (o := 2) (show p < w1.heap.size by omega) hne).trans k2; have jf : w5.frozen? ⟨p, 2, none⟩ = false := (frozen_block (hg5.block (k := p) (show p < w1.heap.size by omega) hne)).trans kf)
  go_ret
  rw [List.length_append] at ho5 n5
  exact ⟨rfl, a5, cap5, w5, rfl, ho5, n5, bl5, (ch_trans (Below.refl _ _) (hb.mono (Nat.le_refl _)) hB).trans ⟨b5.os, b5.tape, b5.output, b5.size, b5.block⟩⟩
end Go.Proofs.YtjoflnnomebkpaaDoor
