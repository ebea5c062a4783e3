/-
  spec.l7split: a line in words.
-/
import Derived.Test.YtanpindbhdeomaaGreatDoorGround
import Derived.Test.YtanpindbhdeomaaGreatDoorSkTx
import Derived.Test.YtanpindbhdeomaaGreatDoorSOf
import Derived.Test.YtanpindbhdeomaaGreatDoorBlk
namespace Go.Proofs.YtanpindbhdeomaaGreatDoor
open Go.RowKit
set_option linter.unusedVariables false
set_option linter.unusedSimpArgs false

theorem splA_head (c : UInt8) : ∀ (l acc : List UInt8), ∃ t r, splA c acc l = (acc ++ t) :: r
  | [], acc => ⟨[], [], by simp [splA]⟩
  | x :: l, acc => by
    rw [splA]
    split
    · exact ⟨[], splA c [] l, by simp⟩
    · obtain ⟨t, r, h⟩ := splA_head c l (acc ++ [x])
      exact ⟨x :: t, r, by rw [h]; simp⟩
theorem splA_bad (c : UInt8) (l acc : List UInt8) (h : acc.all okB = false) : (splA c acc l).all wordB = false := by
  obtain ⟨t, r, e⟩ := splA_head c l acc
  rw [e, List.all_cons, wordB_def, List.all_append, h]
  simp
theorem splA_nil (c : UInt8) (r : List UInt8) : (splA c [] (c :: r)).all wordB = false := by
  rw [splA, if_pos rfl, List.all_cons]
  rfl
theorem word_of {acc : List UInt8} (h : acc.all okB = true) (hn : acc ≠ []) : wordB acc = true := by
  rw [wordB_def, h]
  cases acc
  · exact absurd rfl hn
  · rfl
/-- a line on the way into words: up tq i, the piece from f on is open -/
structure SpI (l : List UInt8) (ws : List (List UInt8)) (f i : Nat) : Prop where
  fi : f ≤ i
  il : i ≤ l.length
  eq : spl 32 l = ws ++ splA 32 ((l.take i).drop f) (l.drop i)
  ok : ws.all wordB = true
  ac : ((l.take i).drop f).all okB = true
theorem SpI.start (l : List UInt8) : SpI l [] 0 0 := ⟨by omega, by omega, by simp [spl], rfl, by simp⟩
section
variable {l : List UInt8} {ws : List (List UInt8)} {f i : Nat}
theorem SpI.take_succ (h : SpI l ws f i) (hi : i < l.length) : (l.take (i + 1)).drop f = (l.take i).drop f ++ [l[i]] := by
  rw [List.take_succ_eq_append_getElem hi, List.drop_append_of_le_length (by rw [List.length_take_of_le h.il]; exact h.fi)]
theorem SpI.more (h : SpI l ws f i) (hi : i < l.length) (h1 : l[i] ≠ 32) (h2 : okB l[i] = true) : SpI l ws f (i + 1) := by
  have e := h.take_succ hi
  refine ⟨by have := h.fi; omega, by omega, ?_, h.ok, ?_⟩
  · rw [h.eq, e, List.drop_eq_getElem_cons hi, splA, if_neg h1]
  · rw [e, List.all_append, h.ac]; simp [h2]
theorem SpI.bad (h : SpI l ws f i) (hi : i < l.length) (h1 : l[i] ≠ 32) (h2 : okB l[i] = false) : (spl 32 l).all wordB = false := by
  rw [h.eq, List.all_append, List.drop_eq_getElem_cons hi, splA, if_neg h1, splA_bad 32 _ _ (by rw [List.all_append]; simp [h2])]
  simp
theorem SpI.acc_nil (h : SpI l ws f i) : (l.take i).drop f = [] ↔ i = f := by
  rw [List.drop_eq_nil_iff, List.length_take_of_le h.il]
  have := h.fi
  omega
theorem SpI.cut (h : SpI l ws f i) (hi : i < l.length) (h1 : l[i] = 32) (h2 : i ≠ f) : SpI l (ws ++ [(l.take i).drop f]) (i + 1) (i + 1) := by
  refine ⟨by omega, by omega, ?_, ?_, by rw [List.drop_of_length_le (by rw [List.length_take]; omega)]; rfl⟩
  · rw [h.eq, List.drop_eq_getElem_cons hi, splA, if_pos h1, List.append_assoc]
    congr 1
    rw [List.drop_of_length_le (l := l.take (i + 1)) (by rw [List.length_take]; omega)]
    rfl
  · rw [List.all_append, h.ok]
    simp [word_of h.ac (fun e => h2 (h.acc_nil.1 e))]
theorem SpI.cutBad (h : SpI l ws f i) (hi : i < l.length) (h1 : l[i] = 32) (h2 : i = f) : (spl 32 l).all wordB = false := by
  rw [h.eq, List.all_append, h.acc_nil.2 h2, List.drop_eq_getElem_cons hi, h1, splA_nil]
  simp
theorem SpI.last (h : SpI l ws f i) (hi : i = l.length) (h2 : i ≠ f) : spl 32 l = ws ++ [(l.take i).drop f] ∧ (spl 32 l).all wordB = true := by
  have e : spl 32 l = ws ++ [(l.take i).drop f] := by rw [h.eq, List.drop_of_length_le (l := l) (by omega), splA]
  refine ⟨e, ?_⟩
  rw [e, List.all_append, h.ok]
  simp [word_of h.ac (fun e => h2 (h.acc_nil.1 e))]
theorem SpI.lastBad (h : SpI l ws f i) (hi : i = l.length) (h2 : i = f) : (spl 32 l).all wordB = false := by
  rw [h.eq, List.drop_of_length_le (l := l) (by omega), splA, h.acc_nil.2 h2, List.all_append]
  simp [wordB]
theorem SpI.count (h : SpI l ws f i) (hl : (spl 32 l).length ≤ l.length + 1) : ws.length ≤ l.length + 1 := by
  have e := congrArg List.length h.eq
  rw [List.length_append] at e
  omega
end
theorem splA_len (c : UInt8) : ∀ (l acc : List UInt8), (splA c acc l).length ≤ l.length + 1
  | [], acc => by simp [splA]
  | x :: r, acc => by
    rw [splA]
    split
    · have := splA_len c r []
      simp; omega
    · have := splA_len c r (acc ++ [x])
      simp; omega
theorem ext_sOf (l : List UInt8) (f i : Nat) : (sOf l).extract f i = sOf ((l.take i).drop f) := by
  have h : ((sOf l).extract f i).data.toList = (l.take i).drop f := by
    simp [sOf, ByteArray.data_extract, List.extract_eq_take_drop, List.drop_take]
  rw [← sOf_list ((sOf l).extract f i), h]

set_option maxHeartbeats 4000000 in
set_option maxRecDepth 100000 in
theorem l7split_any (l : List UInt8) (hl : l.length ≤ 65536) (w : World) :
    Calls Tryz.prog 16 #[.string (sOf l)] w fun e w' => ∃ v, e = .returned (.tuple #[v, .bool ((spl 32 l).all wordB)]) ∧ ((spl 32 l).all wordB = true → OwnG txC 1 9 w' w.heap.size v ((spl 32 l).map sOf)) ∧ Below w.heap.size w w' := by
  have hcnt : (spl 32 l).length ≤ l.length + 1 := splA_len 32 l []
  obtain ⟨S, hS⟩ : ∃ S, S = sOf l := ⟨_, rfl⟩
  have hss : S.size = l.length := by rw [hS, sOf_size]
  have HI : Hid (∀ k, (h : k < l.length) → ∀ u : World, (Instr.index 9 (.string S) (.int .i64 (k : Int))).run Tryz.prog u = .ok (.int .u8 (l[k].toNat : Int)) u) := fun k h u => by
    have h1 : (sOf l).data.toList = l := list_sOf l
    have h2 := idx_run S (k := k) (by rw [hS, h1]; exact h) u
    simpa [hS, h1] using h2
  have HX : Hid (∀ f i, S.extract f i = sOf ((l.take i).drop f)) := fun f i => by rw [hS]; exact ext_sOf l f i
  rw [← hS]
  clear hS
  obtain ⟨R, hR⟩ : ∃ R, R = (spl 32 l).all wordB := ⟨_, rfl⟩
  have HR : Hid (R = (spl 32 l).all wordB) := hR
  rw [← hR]
  clear hR
  have HN : Hid (OwnG txC 1 9 (w.alloc (.cells #[] 9)) w.heap.size (.slice (some ⟨w.heap.size, 0, none⟩) 0 0) ([] : List ByteArray)) := OwnG.made _ _ _ _ _ (Nat.le_refl _)
  go_enter Tryz.func16, Tryz.ntmps16
  go_wp2
  go_loopw [4, 5, 6] (fun v fv iv wr => ∃ (f i : Nat) (ws : List (List UInt8)), fv = .int .i64 f ∧ iv = .int .i64 i ∧ OwnG txC 1 9 wr w.heap.size v (ws.map sOf) ∧ Below w.heap.size w wr ∧ w.heap.size ≤ wr.heap.size ∧ (SpI l ws f i ∨ (i = l.length + 1 ∧ spl 32 l = ws ∧ (spl 32 l).all wordB = true))) (fun _ _ i _ => l.length + 1 - (intOf i).toNat)
  case atStart => exact ⟨0, 0, [], rfl, rfl, HN.out, (Below.refl _ _).alloc (Nat.le_refl _) _, by simp, .inl (SpI.start l)⟩
  case round =>
    obtain ⟨f, i, ws, rfl, rfl, hO, hB, hz, hI⟩ := hrel
    have HO : Hid (OwnG txC 1 9 wr w.heap.size _ (ws.map sOf)) := hO
    have HB : Hid (Below w.heap.size w wr) := hB
    clear hO hB HN
    rcases hI with hI | ⟨rfl, hE, hA⟩
    · have hil := hI.il
      have hfi := hI.fi
      have hwl : (ws.map sOf).length ≤ 70000 := by rw [List.length_map]; have := hI.count hcnt; omega
      have HII : Hid (SpI l ws f i) := hI
      have hx := HX.out f i
      clear hI
      have HA : Hid (ws.map sOf ++ [sOf ((l.take i).drop f)] = (ws ++ [(l.take i).drop f]).map sOf) := by unfold Hid; simp
      have hil' : (i : Int) ≤ (l.length : Int) := by omega
      by_cases hlt : i < l.length
      · have hix := HI.out i hlt
        have hne : ((i : Int) == (l.length : Int)) = false := by rw [beq_eq_false_iff_ne]; omega
        have hnl : ¬ (i : Int) = (l.length : Int) := by omega
        by_cases h32 : l[i] = 32
        · have e32 : (l[i].toNat : Int) = 32 := by rw [h32]; rfl
          rw [e32] at hix
          by_cases hf : i = f
          · have hbad := HII.out.cutBad hlt h32 hf
            subst hf
            go_wp2
            go_ret2
            exact ⟨_, by rw [HR.out, hbad]; rfl, fun h => absurd (h.symm.trans (HR.out.trans hbad)) (by decide), HB.out⟩
          · have HC := HII.out.cut hlt h32 hf
            have HCh : Hid (SpI l (ws ++ [(l.take i).drop f]) (i + 1) (i + 1)) := HC
            clear HC
            have hf' : ¬ (i : Int) = (f : Int) := by omega
            generalize sOf ((l.take i).drop f) = A1 at *
            go_wp2_with (at_builtin; refine wpl_appendG txLaw rfl (.tmp 28) (.tmp 33) rfl A1 (HO.out.below ((Below.refl _ _).alloc (Nat.le_refl _) _)) rfl (wr.heap.size) 1 (Blk.new _ _ _).range rfl (by omega) (by simp; omega) ?_; intro v2 w2 ho2 hg2; have HB2 : Hid (Below w.heap.size w w2) := (HB.out.alloc hz _).trans (growG hg2 (HO.out.below ((Below.refl _ _).alloc (Nat.le_refl _) _)) (by simp; omega)); have hz2 : w.heap.size ≤ w2.heap.size := (by have := hg2.g.size; simp at this; omega))
            go_roundw
            case rel => exact ⟨i + 1, i + 1, _, by go_num, by go_num, by rw [← HA.out]; exact ho2, HB2.out, hz2, .inl HCh.out⟩
            case measure => simp [intOf]; omega
        · have e32 : ((l[i].toNat : Int) == 32) = false := by
            rw [beq_eq_false_iff_ne]
            intro e
            apply h32
            have : l[i].toNat = 32 := by omega
            exact UInt8.toNat.inj this
          have e32' : ¬ (l[i].toNat : Int) = 32 := by simpa using e32
          cases hok : okB l[i]
          · have hbad := HII.out.bad hlt h32 hok
            have hrg : (l[i].toNat : Int) < 33 ∨ 126 < (l[i].toNat : Int) := by
              unfold okB at hok
              simp at hok
              omega
            generalize (l[i].toNat : Int) = x at *
            rcases hrg with hr | hr
            · go_wp2
              go_ret2
              exact ⟨_, by rw [HR.out, hbad]; rfl, fun h => absurd (h.symm.trans (HR.out.trans hbad)) (by decide), HB.out⟩
            · have hr2 : ¬ x < 33 := by omega
              go_wp2
              go_ret2
              exact ⟨_, by rw [HR.out, hbad]; rfl, fun h => absurd (h.symm.trans (HR.out.trans hbad)) (by decide), HB.out⟩
          · have HM : Hid (SpI l ws f (i + 1)) := HII.out.more hlt h32 hok
            have hrg : ¬ (l[i].toNat : Int) < 33 ∧ ¬ 126 < (l[i].toNat : Int) := by
              unfold okB at hok
              simp at hok
              omega
            obtain ⟨hr1, hr2⟩ := hrg
            generalize (l[i].toNat : Int) = x at *
            go_wp2
            go_roundw
            case rel => exact ⟨f, i + 1, ws, by go_num, by go_num, HO.out, HB.out, hz, .inl HM.out⟩
            case measure => simp [intOf]; omega
      · obtain rfl : i = l.length := by omega
        by_cases hf : l.length = f
        · have hbad := HII.out.lastBad rfl hf
          have hf' : (l.length : Int) = (f : Int) := by omega
          go_wp2
          go_ret2
          exact ⟨_, by rw [HR.out, hbad]; rfl, fun h => absurd (h.symm.trans (HR.out.trans hbad)) (by decide), HB.out⟩
        · have HC : Hid (spl 32 l = ws ++ [(l.take l.length).drop f] ∧ (spl 32 l).all wordB = true) := HII.out.last rfl hf
          have hf' : ¬ (l.length : Int) = (f : Int) := by omega
          generalize sOf ((l.take l.length).drop f) = A1 at *
          go_wp2_with (at_builtin; refine wpl_appendG txLaw rfl (.tmp 28) (.tmp 33) rfl A1 (HO.out.below ((Below.refl _ _).alloc (Nat.le_refl _) _)) rfl (wr.heap.size) 1 (Blk.new _ _ _).range rfl (by omega) (by simp; omega) ?_; intro v2 w2 ho2 hg2; have HB2 : Hid (Below w.heap.size w w2) := (HB.out.alloc hz _).trans (growG hg2 (HO.out.below ((Below.refl _ _).alloc (Nat.le_refl _) _)) (by simp; omega)); have hz2 : w.heap.size ≤ w2.heap.size := (by have := hg2.g.size; simp at this; omega))
          go_roundw
          case rel => exact ⟨l.length + 1, l.length + 1, _, by go_num, by go_num, by rw [← HA.out]; exact ho2, HB2.out, hz2, .inr ⟨rfl, HC.out.1, HC.out.2⟩⟩
          case measure => simp [intOf]
    · have HE : Hid (spl 32 l = ws ∧ (spl 32 l).all wordB = true) := ⟨hE, hA⟩
      clear hE hA
      have hgt : ¬ ((l.length : Int) + 1 ≤ (l.length : Int)) := by omega
      go_wp2
      go_ret2
      exact ⟨_, by rw [HR.out, HE.out.2]; rfl, fun _ => by rw [HE.out.1]; exact HO.out, HB.out⟩
end Go.Proofs.YtanpindbhdeomaaGreatDoor
