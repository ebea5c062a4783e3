/-
  impl.Linear.
-/
import Derived.Test.YtnoihfincifphaaLnEarly
namespace Go.Proofs.Ytnoihfincifphaa
open Go.RowKit Go.Maps
set_option linter.unusedVariables false
set_option linter.unusedSimpArgs false

theorem lin_big {es : List Evn} {os : List Cm} (rs : Nat → Int × ByteArray) (h : 4096 < es.length ∨ 4096 < os.length) : linA es os rs = (9, 0) := if_pos h
theorem lin_1 {es : List Evn} {os : List Cm} (rs : Nat → Int × ByteArray) (h : ¬ (4096 < es.length ∨ 4096 < os.length)) (h1 : 0 ≤ fstOf (q1 es) es.length) : linA es os rs = (1, fstOf (q1 es) es.length) := by unfold linA; rw [if_neg h, if_pos h1]
theorem lin_2 {es : List Evn} {os : List Cm} (rs : Nat → Int × ByteArray) (h : ¬ (4096 < es.length ∨ 4096 < os.length)) (h1 : fstOf (q1 es) es.length < 0) (h2 : 0 ≤ fstOf (q2 es os) os.length) : linA es os rs = (2, fstOf (q2 es os) os.length) := by unfold linA; rw [if_neg h, if_neg (by omega), if_pos h2]
theorem lin_3 {es : List Evn} {os : List Cm} (rs : Nat → Int × ByteArray) (h : ¬ (4096 < es.length ∨ 4096 < os.length)) (h1 : fstOf (q1 es) es.length < 0) (h2 : fstOf (q2 es os) os.length < 0) (h3 : 0 ≤ fstOf (q3 es os) es.length) : linA es os rs = (3, fstOf (q3 es os) es.length) := by unfold linA; rw [if_neg h, if_neg (by omega), if_neg (by omega), if_pos h3]
theorem lin_4 {es : List Evn} {os : List Cm} (rs : Nat → Int × ByteArray) (h : ¬ (4096 < es.length ∨ 4096 < os.length)) (h1 : fstOf (q1 es) es.length < 0) (h2 : fstOf (q2 es os) os.length < 0) (h3 : fstOf (q3 es os) es.length < 0) (h4 : 0 ≤ fstOf (q4 es os rs) os.length) : linA es os rs = (4, fstOf (q4 es os rs) os.length) := by unfold linA; rw [if_neg h, if_neg (by omega), if_neg (by omega), if_neg (by omega), if_pos h4]
theorem lin_5 {es : List Evn} {os : List Cm} (rs : Nat → Int × ByteArray) (h : ¬ (4096 < es.length ∨ 4096 < os.length)) (h1 : fstOf (q1 es) es.length < 0) (h2 : fstOf (q2 es os) os.length < 0) (h3 : fstOf (q3 es os) es.length < 0) (h4 : fstOf (q4 es os rs) os.length < 0) (h5 : 0 ≤ fstOf (q5 es os) os.length) : linA es os rs = (5, fstOf (q5 es os) os.length) := by unfold linA; rw [if_neg h, if_neg (by omega), if_neg (by omega), if_neg (by omega), if_neg (by omega), if_pos h5]
theorem lin_0 {es : List Evn} {os : List Cm} (rs : Nat → Int × ByteArray) (h : ¬ (4096 < es.length ∨ 4096 < os.length)) (h1 : fstOf (q1 es) es.length < 0) (h2 : fstOf (q2 es os) os.length < 0) (h3 : fstOf (q3 es os) es.length < 0) (h4 : fstOf (q4 es os rs) os.length < 0) (h5 : fstOf (q5 es os) os.length < 0) : linA es os rs = (0, 0) := by unfold linA; rw [if_neg h, if_neg (by omega), if_neg (by omega), if_neg (by omega), if_neg (by omega), if_neg (by omega)]
/-- how far the looks have come -/
structure LS (w w' : World) (ea : Option Addr) (ec : Nat) (oa : Option Addr) (oc : Nat) (es : List Evn) (os : List Cm) (k : Nat) : Prop where
  below : Below w.heap.size w w'
  ans : Blk w' w.heap.size #[.int .i64 0, .int .i64 0] 27
  fns : Blk w' (w.heap.size + 1 + 1 + 1 + 1 + 1 + 1) #[.func (.func 40) #[.pointer (some ⟨(w.heap.size + 1 + 1 + 1 + 1 + 1), 0, none⟩)] #[], .func (.func 41) #[.pointer (some ⟨(w.heap.size + 1 + 1 + 1 + 1 + 1), 0, none⟩)] #[], .func (.func 42) #[.pointer (some ⟨(w.heap.size + 1 + 1 + 1 + 1 + 1), 0, none⟩)] #[], .func (.func 43) #[.pointer (some ⟨(w.heap.size + 1 + 1 + 1 + 1 + 1), 0, none⟩)] #[], .func (.func 44) #[.pointer (some ⟨(w.heap.size + 1 + 1 + 1 + 1 + 1), 0, none⟩)] #[]] 85
  js : k = 0 → JS w' (w.heap.size + 1 + 1 + 1 + 1 + 1) (w.heap.size + 1) (w.heap.size + 1 + 1) (w.heap.size + 1 + 1 + 1) (w.heap.size + 1 + 1 + 1 + 1) ea es.length ec oa os.length oc (tRun []) (tn es.length []) 0
  js1 : 1 ≤ k → JS w' (w.heap.size + 1 + 1 + 1 + 1 + 1) (w.heap.size + 1) (w.heap.size + 1 + 1) (w.heap.size + 1 + 1 + 1) (w.heap.size + 1 + 1 + 1 + 1) ea es.length ec oa os.length oc (tRun es) (tn es.length es) es.length
  pl : k ≤ 1 → PL w' (w.heap.size + 1 + 1) 0 []
  pl2 : 2 ≤ k → PL w' (w.heap.size + 1 + 1) os.length os
  f1 : 1 ≤ k → fstOf (q1 es) es.length < 0
  f2 : 2 ≤ k → fstOf (q2 es os) os.length < 0
  f3 : 3 ≤ k → fstOf (q3 es os) es.length < 0
  f4 : 4 ≤ k → fstOf (q4 es os (rsC os)) os.length < 0
  f5 : 5 ≤ k → fstOf (q5 es os) os.length < 0
theorem asked_all {es : List Evn} {os : List Cm} (h : fstOf (q2 es os) os.length < 0) : ∀ i, i < os.length → (findK 1 es (cmAt os i)).isSome = true := by
  intro i hi
  have := fst_neg h i hi
  unfold q2 at this
  simp only [Bool.or_eq_false_iff, Option.isNone_eq_false_iff] at this
  exact this.1
theorem cms_good {es : List Evn} {os : List Cm} (h1 : fstOf (q1 es) es.length < 0) (h : fstOf (q2 es os) os.length < 0) : ∀ c ∈ os, cmF c = 0 := by
  intro c hc
  obtain ⟨i, hi, rfl⟩ := List.getElem_of_mem hc
  have := asked_all h i hi
  rw [cmAt_eq hi] at this
  exact (tinv_all h1).f _ this
theorem keyIn {x : Int} (h : okI x) : ∃ kl, keyOf Try.prog 3 (.int .i64 x) = some kl := ⟨_, keyOf_int_mk Try.underlying3 h⟩
theorem laF_nil : laF (tRun []).la = fun _ => none := by funext x; rfl
theorem tn_nil (N : Nat) : tn N [] = fun _ => none := by funext x; rfl

set_option maxHeartbeats 8000000 in
set_option maxRecDepth 100000 in
theorem implLinear_any (ea : Option Addr) (ec : Nat) (oa : Option Addr) (oc : Nat) (es : List Evn) (os : List Cm) (w : World) (hE : Evs w (.slice ea es.length ec) es) (hO : Cms w (.slice oa os.length oc) os) (hle : es.length ≤ 1048576) (hlo : os.length ≤ 1048576) :
    Calls Try.prog 11 #[.slice ea es.length ec, .slice oa os.length oc] w fun e w' => e = .returned (.agg #[.int .i64 (linA es os (rsC os)).1, .int .i64 (linA es os (rsC os)).2]) ∧ Below w.heap.size w w' := by
  have HE : Hid (Evs w (.slice ea es.length ec) es) := hE
  have HO : Hid (Cms w (.slice oa os.length oc) os) := hO
  have hmm := @run_makeMap Try.prog
  clear hE hO
  obtain ⟨X, hX⟩ : ∃ X, X = linA es os (rsC os) := ⟨_, rfl⟩
  have HX : Hid (X = linA es os (rsC os)) := hX
  rw [← hX]
  clear hX
  by_cases h1 : 4096 < es.length
  · have h1i : (4096 : Int) < (es.length : Int) := by omega
    have HX9 : Hid (X = (9, 0)) := by show _ = _; rw [HX.out]; exact lin_big _ (.inl h1)
    go_enter Try.func11, Try.ntmps11
    go_wp2
    refine bodyPost_ret (v := .agg #[.int .i64 9, .int .i64 0]) (by simp [results, Try.results11, go_sem]) rfl ⟨by rw [HX9.out], ?_⟩
    exact (Below.refl _ _).alloc (Nat.le_refl _) _
  have h1i : ¬ (4096 : Int) < (es.length : Int) := by omega
  by_cases h2 : 4096 < os.length
  · have h2i : (4096 : Int) < (os.length : Int) := by omega
    have HX9 : Hid (X = (9, 0)) := by show _ = _; rw [HX.out]; exact lin_big _ (.inr h2)
    go_enter Try.func11, Try.ntmps11
    go_wp2
    refine bodyPost_ret (v := .agg #[.int .i64 9, .int .i64 0]) (by simp [results, Try.results11, go_sem]) rfl ⟨by rw [HX9.out], ?_⟩
    exact (Below.refl _ _).alloc (Nat.le_refl _) _
  have h2i : ¬ (4096 : Int) < (os.length : Int) := by omega
  have HNB : Hid (¬ (4096 < es.length ∨ 4096 < os.length)) := fun x => by omega
  go_enter Try.func11, Try.ntmps11
  go_upto_region 5 with fail
  obtain ⟨W6, hW6⟩ : ∃ W6, W6 = (((((((w.alloc (.cells #[.int .i64 0, .int .i64 0] 27)).alloc (.map #[] 0)).alloc (.map #[] 0)).alloc (.map #[] 0)).alloc (.map #[] 0)).alloc (.cells #[.slice ea es.length ec, .slice oa os.length oc, .map (some (w.heap.size + 1)), .map (some (w.heap.size + 1 + 1)), .map (some (w.heap.size + 1 + 1 + 1)), .map (some (w.heap.size + 1 + 1 + 1 + 1))] 84)).alloc (.cells #[.func (.func 40) #[.pointer (some ⟨(w.heap.size + 1 + 1 + 1 + 1 + 1), 0, none⟩)] #[], .func (.func 41) #[.pointer (some ⟨(w.heap.size + 1 + 1 + 1 + 1 + 1), 0, none⟩)] #[], .func (.func 42) #[.pointer (some ⟨(w.heap.size + 1 + 1 + 1 + 1 + 1), 0, none⟩)] #[], .func (.func 43) #[.pointer (some ⟨(w.heap.size + 1 + 1 + 1 + 1 + 1), 0, none⟩)] #[], .func (.func 44) #[.pointer (some ⟨(w.heap.size + 1 + 1 + 1 + 1 + 1), 0, none⟩)] #[]] 85)) := ⟨_, rfl⟩
  have HLS : Hid (LS w W6 ea ec oa oc es os 0) := by
    show LS _ _ _ _ _ _ _ _ _
    rw [hW6]
    have hz : ∀ j, j < w.heap.size + 7 → True := fun _ _ => trivial
    refine ⟨?_, ?_, ?_, fun _ => ⟨⟨?_, by omega, by omega, by omega, by omega, by omega, by omega, by omega, by omega, by omega, by omega, by simp⟩, ?_, ?_, ?_⟩, fun h => absurd h (by omega), fun _ => ⟨fun _ => none, ?_, fun c => rfl⟩, fun h => absurd h (by omega), fun h => absurd h (by omega), fun h => absurd h (by omega), fun h => absurd h (by omega), fun h => absurd h (by omega), fun h => absurd h (by omega)⟩
    · exact (((((((Below.refl _ _).alloc (Nat.le_refl _) _).alloc (by simp) _).alloc (by simp; omega) _).alloc (by simp; omega) _).alloc (by simp; omega) _).alloc (by simp; omega) _).alloc (by simp; omega) _
    · exact ((((((Blk.new _ _ _).alloc _).alloc _).alloc _).alloc _).alloc _).alloc _
    · exact Blk.new' _ _ _ (by simp)
    · exact (Blk.new' _ _ _ (by simp)).alloc _
    · show MO _ _ _ (fun _ => none)
      refine FM.alloc (FM.alloc ?_ _) _
      have h := FM.made (k := 3) (kv := fun x : Int => Value.int .i64 x) (good := okI) (vl := cmV) ((((w.alloc (.cells #[.int .i64 0, .int .i64 0] 27)).alloc (.map #[] 0)).alloc (.map #[] 0)).alloc (.map #[] 0)) (fun c hc => keyIn hc)
      simpa using h
    · refine FM.alloc (FM.alloc (FM.alloc ?_ _) _) _
      have h := FM.made (k := 3) (kv := fun x : Int => Value.int .i64 x) (good := okI) (vl := fun y : Int => Value.int .i64 y) (((w.alloc (.cells #[.int .i64 0, .int .i64 0] 27)).alloc (.map #[] 0)).alloc (.map #[] 0)) (fun c hc => keyIn hc)
      rw [laF_nil]
      simpa using h
    · refine FM.alloc (FM.alloc (FM.alloc (FM.alloc (FM.alloc ?_ _) _) _) _) _
      have h := FM.made (k := 63) (kv := cmV) (good := Cm.fits) (vl := tnV) (w.alloc (.cells #[.int .i64 0, .int .i64 0] 27)) (fun c hc => keyC hc)
      rw [tn_nil]
      simpa using h
    · refine FM.alloc (FM.alloc (FM.alloc (FM.alloc ?_ _) _) _) _
      have h := FM.made (k := 63) (kv := cmV) (good := Cm.fits) (vl := fun i : Nat => Value.int .i64 i) ((w.alloc (.cells #[.int .i64 0, .int .i64 0] 27)).alloc (.map #[] 0)) (fun c hc => keyC hc)
      simpa using h
  rw [← hW6]
  clear hW6 hmm
  go_wp2
  go_loopw [40] (fun i wr => ∃ k : Nat, k ≤ 5 ∧ i = .int .i64 k ∧ LS w wr ea ec oa oc es os k) (fun i _ => 5 - (RowKit.intOf i).toNat)
  case atStart => exact ⟨0, Nat.zero_le _, rfl, HLS.out⟩
  case round =>
    obtain ⟨k, hk, rfl, hL⟩ := hrel
    have HL : Hid (LS w wr ea ec oa oc es os k) := hL
    have hEw := HE.out.below hL.below
    have hOw := HO.out.below hL.below
    have hzw := hL.below.size
    have f0 : wr.cell? ⟨(w.heap.size + 1 + 1 + 1 + 1 + 1 + 1), 0, none⟩ = some (.func (.func 40) #[.pointer (some ⟨(w.heap.size + 1 + 1 + 1 + 1 + 1), 0, none⟩)] #[]) := hL.fns.cell 0
    have f1 : wr.cell? ⟨(w.heap.size + 1 + 1 + 1 + 1 + 1 + 1), 1, none⟩ = some (.func (.func 41) #[.pointer (some ⟨(w.heap.size + 1 + 1 + 1 + 1 + 1), 0, none⟩)] #[]) := hL.fns.cell 1
    have f2 : wr.cell? ⟨(w.heap.size + 1 + 1 + 1 + 1 + 1 + 1), 2, none⟩ = some (.func (.func 42) #[.pointer (some ⟨(w.heap.size + 1 + 1 + 1 + 1 + 1), 0, none⟩)] #[]) := hL.fns.cell 2
    have f3 : wr.cell? ⟨(w.heap.size + 1 + 1 + 1 + 1 + 1 + 1), 3, none⟩ = some (.func (.func 43) #[.pointer (some ⟨(w.heap.size + 1 + 1 + 1 + 1 + 1), 0, none⟩)] #[]) := hL.fns.cell 3
    have f4 : wr.cell? ⟨(w.heap.size + 1 + 1 + 1 + 1 + 1 + 1), 4, none⟩ = some (.func (.func 44) #[.pointer (some ⟨(w.heap.size + 1 + 1 + 1 + 1 + 1), 0, none⟩)] #[]) := hL.fns.cell 4
    rcases (show k = 0 ∨ k = 1 ∨ k = 2 ∨ k = 3 ∨ k = 4 ∨ k = 5 by omega) with rfl | rfl | rfl | rfl | rfl | rfl
    · have HC : Hid (Calls Try.prog 40 #[.pointer (some ⟨(w.heap.size + 1 + 1 + 1 + 1 + 1), 0, none⟩)] wr fun e w' => e = .returned (.int .i64 (fstOf (q1 es) es.length)) ∧ TchT (fun j => w.heap.size < j ∧ j < w.heap.size + 6) wr w' ∧ (fstOf (q1 es) es.length < 0 → LS w w' ea ec oa oc es os 1)) := by
        show Calls _ _ _ _ _
        refine (outOfTurn_any (w.heap.size + 1 + 1 + 1 + 1 + 1) (w.heap.size + 1) (w.heap.size + 1 + 1) (w.heap.size + 1 + 1 + 1) (w.heap.size + 1 + 1 + 1 + 1) ea ec oa os.length oc es wr (hL.js rfl) hEw (by omega)).mono fun e w' ⟨c1, c2, c3⟩ => ⟨c1, c3.sub (fun j hj => by rcases hj with e | e | e <;> omega), fun hn => ?_⟩
        have hJ := c2 hn
        exact ⟨hL.below.trans ⟨c3.os, c3.tape, c3.output, c3.size, fun j hj => c3.block j (by omega) (by rintro (e | e | e) <;> omega)⟩, hL.ans.keep (c3.block _ hL.ans.lt (by rintro (e | e | e) <;> omega)), hL.fns.keep (c3.block _ hL.fns.lt (by rintro (e | e | e) <;> omega)), fun h => absurd h (by omega), fun _ => hJ, fun _ => (hL.pl (by omega)).keep (c3.block _ (hL.pl (by omega)).lt (by rintro (e | e | e) <;> omega)), fun h => absurd h (by omega), fun _ => hn, fun h => absurd h (by omega), fun h => absurd h (by omega), fun h => absurd h (by omega), fun h => absurd h (by omega)⟩
      obtain ⟨R, hR⟩ : ∃ R, R = fstOf (q1 es) es.length := ⟨_, rfl⟩
      rw [← hR] at HC
      by_cases hneg : R < 0
      · have hng : ¬ (0 : Int) ≤ R := by omega
        clear hL hEw hOw
        go_wp2_with (go_at_call 40; refine HC.out.mono ?_; rintro e w1 ⟨rfl, ht, hn⟩; have HN : Hid (LS w w1 ea ec oa oc es os 1) := hn (by omega); clear ht hn)
        go_roundw
        case rel => exact ⟨1, by omega, by go_num, HN.out⟩
        case measure => simp [RowKit.intOf]
      · have hng : (0 : Int) ≤ R := by omega
        have HXk : Hid (X = (1, R)) := by show _ = _; rw [HX.out, hR]; exact lin_1 _ HNB.out  (by rw [← hR]; exact hng)
        clear hR hL hEw hOw
        go_wp2_with (go_at_call 40; refine HC.out.mono ?_; rintro e w1 ⟨rfl, ht, hn⟩; have BA : Hid (Blk w1 w.heap.size #[.int .i64 0, .int .i64 0] 27) := HL.out.ans.keep (ht.block _ HL.out.ans.lt (by omega)); have HB1 : Hid (Below w.heap.size w w1) := HL.out.below.trans ⟨ht.os, ht.tape, ht.output, ht.size, fun j hj => ht.block j (by omega) (by omega)⟩; have r0 : w1.cell? ⟨w.heap.size, 0, none⟩ = some (.int .i64 0) := BA.out.cell 0; have r1 : w1.cell? ⟨w.heap.size, 1, none⟩ = some (.int .i64 0) := BA.out.cell 1; have fr := BA.out.free; clear ht hn)
        refine bodyPost_ret (v := .agg #[.int .i64 1, .int .i64 R]) (by simp [results, Try.results11, go_sem, *]) rfl ⟨by rw [HXk.out], ?_⟩
        exact (HB1.out.setCell (Nat.le_refl _) _).setCell (Nat.le_refl _) _
    · have HC : Hid (Calls Try.prog 41 #[.pointer (some ⟨(w.heap.size + 1 + 1 + 1 + 1 + 1), 0, none⟩)] wr fun e w' => e = .returned (.int .i64 (fstOf (q2 es os) os.length)) ∧ TchT (fun j => w.heap.size < j ∧ j < w.heap.size + 6) wr w' ∧ (fstOf (q2 es os) os.length < 0 → LS w w' ea ec oa oc es os 2)) := by
        show Calls _ _ _ _ _
        refine (outOfPlace_any (w.heap.size + 1 + 1 + 1 + 1 + 1) (w.heap.size + 1) (w.heap.size + 1 + 1) (w.heap.size + 1 + 1 + 1) (w.heap.size + 1 + 1 + 1 + 1) ea es.length ec oa oc es os (tRun es) es.length wr (hL.js1 (by omega)) (hL.pl (by omega)) hOw (by omega)).mono fun e w' ⟨c1, c2, c3⟩ => ⟨c1, c3.sub (fun j hj => by omega), fun hn => ?_⟩
        exact ⟨hL.below.trans ⟨c3.os, c3.tape, c3.output, c3.size, fun j hj => c3.block j (by omega) (by omega)⟩, hL.ans.keep (c3.block _ hL.ans.lt (by omega)), hL.fns.keep (c3.block _ hL.fns.lt (by omega)), fun h => absurd h (by omega), fun _ => (hL.js1 (by omega)).keepP c3, fun h => absurd h (by omega), fun _ => c2 hn, fun _ => hL.f1 (by omega), fun _ => hn, fun h => absurd h (by omega), fun h => absurd h (by omega), fun h => absurd h (by omega)⟩
      obtain ⟨R, hR⟩ : ∃ R, R = fstOf (q2 es os) os.length := ⟨_, rfl⟩
      rw [← hR] at HC
      by_cases hneg : R < 0
      · have hng : ¬ (0 : Int) ≤ R := by omega
        clear hL hEw hOw
        go_wp2_with (go_at_call 41; refine HC.out.mono ?_; rintro e w1 ⟨rfl, ht, hn⟩; have HN : Hid (LS w w1 ea ec oa oc es os 2) := hn (by omega); clear ht hn)
        go_roundw
        case rel => exact ⟨2, by omega, by go_num, HN.out⟩
        case measure => simp [RowKit.intOf]
      · have hng : (0 : Int) ≤ R := by omega
        have HXk : Hid (X = (2, R)) := by show _ = _; rw [HX.out, hR]; exact lin_2 _ HNB.out (hL.f1 (by omega)) (by rw [← hR]; exact hng)
        clear hR hL hEw hOw
        go_wp2_with (go_at_call 41; refine HC.out.mono ?_; rintro e w1 ⟨rfl, ht, hn⟩; have BA : Hid (Blk w1 w.heap.size #[.int .i64 0, .int .i64 0] 27) := HL.out.ans.keep (ht.block _ HL.out.ans.lt (by omega)); have HB1 : Hid (Below w.heap.size w w1) := HL.out.below.trans ⟨ht.os, ht.tape, ht.output, ht.size, fun j hj => ht.block j (by omega) (by omega)⟩; have r0 : w1.cell? ⟨w.heap.size, 0, none⟩ = some (.int .i64 0) := BA.out.cell 0; have r1 : w1.cell? ⟨w.heap.size, 1, none⟩ = some (.int .i64 0) := BA.out.cell 1; have fr := BA.out.free; clear ht hn)
        refine bodyPost_ret (v := .agg #[.int .i64 2, .int .i64 R]) (by simp [results, Try.results11, go_sem, *]) rfl ⟨by rw [HXk.out], ?_⟩
        exact (HB1.out.setCell (Nat.le_refl _) _).setCell (Nat.le_refl _) _
    · have HC : Hid (Calls Try.prog 42 #[.pointer (some ⟨(w.heap.size + 1 + 1 + 1 + 1 + 1), 0, none⟩)] wr fun e w' => e = .returned (.int .i64 (fstOf (q3 es os) es.length)) ∧ TchT (fun j => w.heap.size < j ∧ j < w.heap.size + 6) wr w' ∧ (fstOf (q3 es os) es.length < 0 → LS w w' ea ec oa oc es os 3)) := by
        show Calls _ _ _ _ _
        refine (missing_any (w.heap.size + 1 + 1 + 1 + 1 + 1) (w.heap.size + 1) (w.heap.size + 1 + 1) (w.heap.size + 1 + 1 + 1) (w.heap.size + 1 + 1 + 1 + 1) ea ec oa os.length oc es os os.length wr (hL.js1 (by omega)).j (hL.pl2 (by omega)) hEw (by omega)).mono fun e w' ⟨c1, c3⟩ => ⟨c1, .below c3, fun hn => ?_⟩
        exact ⟨hL.below.trans (c3.mono hzw), hL.ans.below c3 hL.ans.lt, hL.fns.below c3 hL.fns.lt, fun h => absurd h (by omega), fun _ => (hL.js1 (by omega)).below c3, fun h => absurd h (by omega), fun _ => (hL.pl2 (by omega)).keep (c3.block _ (hL.pl2 (by omega)).lt), fun _ => hL.f1 (by omega), fun _ => hL.f2 (by omega), fun _ => hn, fun h => absurd h (by omega), fun h => absurd h (by omega)⟩
      obtain ⟨R, hR⟩ : ∃ R, R = fstOf (q3 es os) es.length := ⟨_, rfl⟩
      rw [← hR] at HC
      by_cases hneg : R < 0
      · have hng : ¬ (0 : Int) ≤ R := by omega
        clear hL hEw hOw
        go_wp2_with (go_at_call 42; refine HC.out.mono ?_; rintro e w1 ⟨rfl, ht, hn⟩; have HN : Hid (LS w w1 ea ec oa oc es os 3) := hn (by omega); clear ht hn)
        go_roundw
        case rel => exact ⟨3, by omega, by go_num, HN.out⟩
        case measure => simp [RowKit.intOf]
      · have hng : (0 : Int) ≤ R := by omega
        have HXk : Hid (X = (3, R)) := by show _ = _; rw [HX.out, hR]; exact lin_3 _ HNB.out (hL.f1 (by omega)) (hL.f2 (by omega)) (by rw [← hR]; exact hng)
        clear hR hL hEw hOw
        go_wp2_with (go_at_call 42; refine HC.out.mono ?_; rintro e w1 ⟨rfl, ht, hn⟩; have BA : Hid (Blk w1 w.heap.size #[.int .i64 0, .int .i64 0] 27) := HL.out.ans.keep (ht.block _ HL.out.ans.lt (by omega)); have HB1 : Hid (Below w.heap.size w w1) := HL.out.below.trans ⟨ht.os, ht.tape, ht.output, ht.size, fun j hj => ht.block j (by omega) (by omega)⟩; have r0 : w1.cell? ⟨w.heap.size, 0, none⟩ = some (.int .i64 0) := BA.out.cell 0; have r1 : w1.cell? ⟨w.heap.size, 1, none⟩ = some (.int .i64 0) := BA.out.cell 1; have fr := BA.out.free; clear ht hn)
        refine bodyPost_ret (v := .agg #[.int .i64 3, .int .i64 R]) (by simp [results, Try.results11, go_sem, *]) rfl ⟨by rw [HXk.out], ?_⟩
        exact (HB1.out.setCell (Nat.le_refl _) _).setCell (Nat.le_refl _) _
    · have HC : Hid (Calls Try.prog 43 #[.pointer (some ⟨(w.heap.size + 1 + 1 + 1 + 1 + 1), 0, none⟩)] wr fun e w' => e = .returned (.int .i64 (fstOf (q4 es os (rsC os)) os.length)) ∧ TchT (fun j => w.heap.size < j ∧ j < w.heap.size + 6) wr w' ∧ (fstOf (q4 es os (rsC os)) os.length < 0 → LS w w' ea ec oa oc es os 4)) := by
        show Calls _ _ _ _ _
        refine (unlike_any (w.heap.size + 1 + 1 + 1 + 1 + 1) (w.heap.size + 1) (w.heap.size + 1 + 1) (w.heap.size + 1 + 1 + 1) (w.heap.size + 1 + 1 + 1 + 1) ea ec oa oc es os es.length wr (hL.js1 (by omega)).j (hL.js1 (by omega)).t hEw hOw (by omega) (by omega) (asked_all (hL.f2 (by omega))) (cms_good (hL.f1 (by omega)) (hL.f2 (by omega)))).mono fun e w' ⟨c1, c3⟩ => ⟨c1, .below c3, fun hn => ?_⟩
        exact ⟨hL.below.trans (c3.mono hzw), hL.ans.below c3 hL.ans.lt, hL.fns.below c3 hL.fns.lt, fun h => absurd h (by omega), fun _ => (hL.js1 (by omega)).below c3, fun h => absurd h (by omega), fun _ => (hL.pl2 (by omega)).keep (c3.block _ (hL.pl2 (by omega)).lt), fun _ => hL.f1 (by omega), fun _ => hL.f2 (by omega), fun _ => hL.f3 (by omega), fun _ => hn, fun h => absurd h (by omega)⟩
      obtain ⟨R, hR⟩ : ∃ R, R = fstOf (q4 es os (rsC os)) os.length := ⟨_, rfl⟩
      rw [← hR] at HC
      by_cases hneg : R < 0
      · have hng : ¬ (0 : Int) ≤ R := by omega
        clear hL hEw hOw
        go_wp2_with (go_at_call 43; refine HC.out.mono ?_; rintro e w1 ⟨rfl, ht, hn⟩; have HN : Hid (LS w w1 ea ec oa oc es os 4) := hn (by omega); clear ht hn)
        go_roundw
        case rel => exact ⟨4, by omega, by go_num, HN.out⟩
        case measure => simp [RowKit.intOf]
      · have hng : (0 : Int) ≤ R := by omega
        have HXk : Hid (X = (4, R)) := by show _ = _; rw [HX.out, hR]; exact lin_4 _ HNB.out (hL.f1 (by omega)) (hL.f2 (by omega)) (hL.f3 (by omega)) (by rw [← hR]; exact hng)
        clear hR hL hEw hOw
        go_wp2_with (go_at_call 43; refine HC.out.mono ?_; rintro e w1 ⟨rfl, ht, hn⟩; have BA : Hid (Blk w1 w.heap.size #[.int .i64 0, .int .i64 0] 27) := HL.out.ans.keep (ht.block _ HL.out.ans.lt (by omega)); have HB1 : Hid (Below w.heap.size w w1) := HL.out.below.trans ⟨ht.os, ht.tape, ht.output, ht.size, fun j hj => ht.block j (by omega) (by omega)⟩; have r0 : w1.cell? ⟨w.heap.size, 0, none⟩ = some (.int .i64 0) := BA.out.cell 0; have r1 : w1.cell? ⟨w.heap.size, 1, none⟩ = some (.int .i64 0) := BA.out.cell 1; have fr := BA.out.free; clear ht hn)
        refine bodyPost_ret (v := .agg #[.int .i64 4, .int .i64 R]) (by simp [results, Try.results11, go_sem, *]) rfl ⟨by rw [HXk.out], ?_⟩
        exact (HB1.out.setCell (Nat.le_refl _) _).setCell (Nat.le_refl _) _
    · have HC : Hid (Calls Try.prog 44 #[.pointer (some ⟨(w.heap.size + 1 + 1 + 1 + 1 + 1), 0, none⟩)] wr fun e w' => e = .returned (.int .i64 (fstOf (q5 es os) os.length)) ∧ TchT (fun j => w.heap.size < j ∧ j < w.heap.size + 6) wr w' ∧ (fstOf (q5 es os) os.length < 0 → LS w w' ea ec oa oc es os 5)) := by
        show Calls _ _ _ _ _
        have hfd : (stE (tn es.length es) es.length (bkL os hOw.fits os.length)).1 = fstOf (q5 es os) os.length := by
          rw [stE_back hOw.fits (asked_all (hL.f2 (by omega))) os.length (Nat.le_refl _)]
          exact fdR_all (ask_lt (hL.f2 (by omega)))
        rw [← hfd]
        refine (tooEarly_any (w.heap.size + 1 + 1 + 1 + 1 + 1) (w.heap.size + 1) (w.heap.size + 1 + 1) (w.heap.size + 1 + 1 + 1) (w.heap.size + 1 + 1 + 1 + 1) ea es.length ec oa oc (tn es.length es) os es.length wr (hL.js1 (by omega)).j (hL.js1 (by omega)).t hOw hOw.fits (by omega) (by omega)).mono fun e w' ⟨c1, c3⟩ => ⟨c1, .below c3, fun hn => ?_⟩
        exact ⟨hL.below.trans (c3.mono hzw), hL.ans.below c3 hL.ans.lt, hL.fns.below c3 hL.fns.lt, fun h => absurd h (by omega), fun _ => (hL.js1 (by omega)).below c3, fun h => absurd h (by omega), fun _ => (hL.pl2 (by omega)).keep (c3.block _ (hL.pl2 (by omega)).lt), fun _ => hL.f1 (by omega), fun _ => hL.f2 (by omega), fun _ => hL.f3 (by omega), fun _ => hL.f4 (by omega), fun _ => by rw [← hfd]; exact hn⟩
      obtain ⟨R, hR⟩ : ∃ R, R = fstOf (q5 es os) os.length := ⟨_, rfl⟩
      rw [← hR] at HC
      by_cases hneg : R < 0
      · have hng : ¬ (0 : Int) ≤ R := by omega
        clear hL hEw hOw
        go_wp2_with (go_at_call 44; refine HC.out.mono ?_; rintro e w1 ⟨rfl, ht, hn⟩; have HN : Hid (LS w w1 ea ec oa oc es os 5) := hn (by omega); clear ht hn)
        go_roundw
        case rel => exact ⟨5, by omega, by go_num, HN.out⟩
        case measure => simp [RowKit.intOf]
      · have hng : (0 : Int) ≤ R := by omega
        have HXk : Hid (X = (5, R)) := by show _ = _; rw [HX.out, hR]; exact lin_5 _ HNB.out (hL.f1 (by omega)) (hL.f2 (by omega)) (hL.f3 (by omega)) (hL.f4 (by omega)) (by rw [← hR]; exact hng)
        clear hR hL hEw hOw
        go_wp2_with (go_at_call 44; refine HC.out.mono ?_; rintro e w1 ⟨rfl, ht, hn⟩; have BA : Hid (Blk w1 w.heap.size #[.int .i64 0, .int .i64 0] 27) := HL.out.ans.keep (ht.block _ HL.out.ans.lt (by omega)); have HB1 : Hid (Below w.heap.size w w1) := HL.out.below.trans ⟨ht.os, ht.tape, ht.output, ht.size, fun j hj => ht.block j (by omega) (by omega)⟩; have r0 : w1.cell? ⟨w.heap.size, 0, none⟩ = some (.int .i64 0) := BA.out.cell 0; have r1 : w1.cell? ⟨w.heap.size, 1, none⟩ = some (.int .i64 0) := BA.out.cell 1; have fr := BA.out.free; clear ht hn)
        refine bodyPost_ret (v := .agg #[.int .i64 5, .int .i64 R]) (by simp [results, Try.results11, go_sem, *]) rfl ⟨by rw [HXk.out], ?_⟩
        exact (HB1.out.setCell (Nat.le_refl _) _).setCell (Nat.le_refl _) _
    · have HX0 : Hid (X = (0, 0)) := by show _ = _; rw [HX.out]; exact lin_0 _ HNB.out (hL.f1 (by omega)) (hL.f2 (by omega)) (hL.f3 (by omega)) (hL.f4 (by omega)) (hL.f5 (by omega))
      have r0 : wr.cell? ⟨w.heap.size, 0, none⟩ = some (.int .i64 0) := hL.ans.cell 0
      have r1 : wr.cell? ⟨w.heap.size, 1, none⟩ = some (.int .i64 0) := hL.ans.cell 1
      have fr := hL.ans.free
      clear hL hEw hOw
      go_wp2
      refine bodyPost_ret (v := .agg #[.int .i64 0, .int .i64 0]) (by simp [results, Try.results11, go_sem, *]) rfl ⟨by rw [HX0.out], ?_⟩
      exact (HL.out.below.setCell (Nat.le_refl _) _).setCell (Nat.le_refl _) _
end Go.Proofs.Ytnoihfincifphaa
