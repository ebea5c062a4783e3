/-
  impl.planFrom.
-/
import Derived.Test.YtjoflnnomebkpaaDoorGround
import Derived.Test.YtjoflnnomebkpaaDoorBlk
namespace Go.Proofs.YtjoflnnomebkpaaDoor
open Go.RowKit
set_option linter.unusedVariables false
set_option linter.unusedSimpArgs false

def cutK (k : Nat) (l : List Ent) : List Rec := if k < l.length then [⟨3, 0, 0, (k : Nat), zeroE⟩] else []
theorem cutK_len (k : Nat) (l : List Ent) : (cutK k l).length ≤ 1 := by unfold cutK; split <;> simp
/-- the records from one state to another whose logs are one up to k -/
def planK (t v : Int) (l : List Ent) (t' v' : Int) (l' : List Ent) (k : Nat) : List Rec := hardL t v t' v' ++ cutK k l ++ addsL k (l'.drop k)
theorem planK_com (t v : Int) (l : List Ent) (t' v' : Int) (l' : List Ent) : planK t v l t' v' l' (comK l l') = planAll t v l t' v' l' := rfl
theorem planK_len (t v : Int) (l : List Ent) (t' v' : Int) (l' : List Ent) (k : Nat) : (planK t v l t' v' l' k).length ≤ l'.length + 2 := by
  have h1 := hardL_len t v t' v'
  have h2 := cutK_len k l
  unfold planK
  simp only [List.length_append, addsL_len, List.length_drop]
  omega

set_option maxHeartbeats 16000000 in
set_option maxRecDepth 100000 in
theorem planFrom_any (t v : Int) (a : Option Addr) (cap : Nat) (l : List Ent) (t' v' : Int) (a' : Option Addr) (cap' : Nat) (l' : List Ent) (k : Nat) (w : World)
    (hv : Hid (Es w (.slice a l.length cap) l)) (hu : Hid (Es w (.slice a' l'.length cap') l')) (hll : l.length ≤ 1048576) (hll' : l'.length ≤ 4096) (hk : k ≤ l'.length) :
    Calls Tryd.prog 60 #[.agg #[.int .i64 t, .int .i64 v, .slice a l.length cap], .agg #[.int .i64 t', .int .i64 v', .slice a' l'.length cap'], .int .i64 k] w fun x w' => ∃ b c, x = .returned (.slice b (planK t v l t' v' l' k).length c) ∧ OwnR w' w.heap.size (.slice b (planK t v l t' v' l' k).length c) (planK t v l t' v' l' k) ∧ Below w.heap.size w w' := by
  go_enter Tryd.func60, Tryd.ntmps60
  go_upto_region 2 with fail
  go_cut [20] (fun s20 wx => s20 = .bool (difB t v t' v') ∧ wx = (w.alloc (.cells #[.int .i64 t, .int .i64 v, .slice a l.length cap] 39)).alloc (.cells #[.int .i64 t', .int .i64 v', .slice a' l'.length cap'] 39))
  case first =>
    by_cases ht : t' = t
    · subst ht
      by_cases hv0 : v' = v
      · subst hv0
        go_wp2_with fail
        go_meet
        exact ⟨by simp [difB], rfl⟩
      · go_wp2_with fail
        go_meet
        exact ⟨by simp [difB, hv0], rfl⟩
    · go_wp2_with fail
      go_meet
      exact ⟨by simp [difB, ht], rfl⟩
  case rest =>
    obtain ⟨rfl, hwc⟩ := hcut
    obtain ⟨w3, hw3⟩ : ∃ x, x = wc := ⟨_, rfl⟩
    subst hw3
    have BA : Blk w3 w.heap.size #[.int .i64 t, .int .i64 v, .slice a l.length cap] 39 := by rw [hwc]; exact (Blk.new _ _ _).alloc _
    have BU : Blk w3 (w.heap.size + 1) #[.int .i64 t', .int .i64 v', .slice a' l'.length cap'] 39 := by rw [hwc]; exact Blk.new' _ _ _ (by simp)
    have HB : Hid (Below w.heap.size w w3) := by unfold Hid; rw [hwc]; exact ((Below.refl _ _).alloc (Nat.le_refl _) _).alloc (by simp) _
    have z3 : w.heap.size + 1 < w3.heap.size := BU.lt
    have cA := BA.cell
    have cU := BU.cell
    clear hwc
    go_upto_if 20 with fail
    go_cut [7] (fun s7 wx => OwnR wx w3.heap.size s7 (hardL t v t' v') ∧ Below w3.heap.size w3 wx)
    case first =>
      cases hd : difB t v t' v'
      · have e : hardL t v t' v' = [] := by simp [hardL, hd]
        go_wp2_with fail
        go_meet
        exact ⟨by rw [e]; exact OwnR.nil _ _, Below.refl _ _⟩
      · have e : hardL t v t' v' = [] ++ [⟨1, t', v', 0, zeroE⟩] := by simp [hardL, hd]
        have HE : Hid (hardL t v t' v' = [] ++ [⟨1, t', v', 0, zeroE⟩]) := e
        clear e
        go_wp2_with (first
          | (go_at_call 92; refine (hardRecord_any t' v' _).mono ?_; rintro e w4 ⟨rfl, hb⟩; have z4 : w3.heap.size ≤ w4.heap.size := hb.size; have ho4 : OwnR (w4.alloc (.cells #[.int .i64 1, .int .i64 t', .int .i64 v', .int .i64 0, .int .i64 0, .int .i64 0, .int .i64 0, .int .i64 0, .string ⟨#[]⟩, .string ⟨#[]⟩, .string ⟨#[]⟩] 94)) w3.heap.size (.slice none 0 0) [] := OwnR.nil _ _; have hB4 := hb.alloc z4 (.cells #[.int .i64 1, .int .i64 t', .int .i64 v', .int .i64 0, .int .i64 0, .int .i64 0, .int .i64 0, .int .i64 0, .string ⟨#[]⟩, .string ⟨#[]⟩, .string ⟨#[]⟩] 94))
          | (at_builtin; refine wpl_appendR rfl (.tmp 21) (.tmp 28) rfl ⟨1, t', v', 0, zeroE⟩ ho4 rfl w4.heap.size 1 (range_new' _ _ _) rfl (by simp) (by simp; omega) ?_; intro v5 w5 ho5 hg5; have hB5 := hB4.trans (growR hg5 ho4 (by simp; omega))))
        go_meet
        exact ⟨by rw [HE.out]; exact ho5, hB5⟩
    case rest =>
      obtain ⟨ho6, hb6⟩ := hcut
      obtain ⟨w3b, hw3b⟩ : ∃ x, x = wc := ⟨_, rfl⟩
      subst hw3b
      have zc : w3.heap.size ≤ w3b.heap.size := hb6.size
      replace BA := BA.below hb6 (by omega)
      replace BU := BU.below hb6 (by omega)
      clear cA cU
      have cA := BA.cell
      have cU := BU.cell
      replace HB : Hid (Below w.heap.size w w3b) := HB.out.trans (hb6.mono (by omega))
      obtain ⟨a6, cap6, rfl⟩ := ho6.shape
      have HO : Hid (OwnR w3b w3.heap.size (.slice a6 (hardL t v t' v').length cap6) (hardL t v t' v')) := ho6
      clear ho6 hb6
      go_upto_if 34 with fail
      have hh1 := hardL_len t v t' v'
      go_cut [7] (fun s7 wx => OwnR wx w3.heap.size s7 (hardL t v t' v' ++ cutK k l) ∧ Below w3.heap.size w3b wx)
      case first =>
        by_cases hkl : k < l.length
        · have HE : Hid (hardL t v t' v' ++ cutK k l = hardL t v t' v' ++ [⟨3, 0, 0, (k : Nat), zeroE⟩]) := by unfold Hid; rw [cutK, if_pos hkl]
          go_wp2_with (first
            | (go_at_call 93; refine (cutRecord_any (k : Nat) _).mono ?_; rintro e w7 ⟨rfl, hb⟩; have z7 : w3b.heap.size ≤ w7.heap.size := hb.size; have hB7 : Below w3b.heap.size w3b (w7.alloc (.cells #[.int .i64 3, .int .i64 0, .int .i64 0, .int .i64 (k : Nat), .int .i64 0, .int .i64 0, .int .i64 0, .int .i64 0, .string ⟨#[]⟩, .string ⟨#[]⟩, .string ⟨#[]⟩] 94)) := hb.alloc z7 _; have ho7 := HO.out.below hB7)
            | (at_builtin; refine wpl_appendR rfl (.tmp 35) (.tmp 39) rfl ⟨3, 0, 0, (k : Nat), zeroE⟩ ho7 rfl w7.heap.size 1 (range_new' _ _ _) rfl (by omega) (by simp; omega) ?_; intro v8 w8 ho8 hg8; have hB8 := (hB7.mono (show w3.heap.size ≤ w3b.heap.size by omega)).trans (growR hg8 ho7 (by simp; omega))))
          go_meet
          exact ⟨by rw [HE.out]; exact ho8, hB8⟩
        · have HE : Hid (hardL t v t' v' ++ cutK k l = hardL t v t' v') := by unfold Hid; rw [cutK, if_neg hkl, List.append_nil]
          go_wp2_with fail
          go_meet
          exact ⟨by rw [HE.out]; exact HO.out, Below.refl _ _⟩
      case rest =>
        obtain ⟨ho8, hb8⟩ := hcut
        have hh2 := cutK_len k l
        have zc8 : w3b.heap.size ≤ wc.heap.size := hb8.size
        replace BA := BA.below hb8 (by omega)
        replace BU := BU.below hb8 (by omega)
        clear cA cU
        replace HB : Hid (Below w.heap.size w wc) := HB.out.trans (hb8.mono (by omega))
        have HS8 : Hid (OwnR wc w3.heap.size _ (hardL t v t' v' ++ cutK k l)) := ho8
        clear ho8 hb8 HO
        go_wp2
        go_loopw [7, 8] (fun s6 s8 wr => ∃ (i : Nat) (acc : List Rec), k ≤ i ∧ i ≤ l'.length ∧ s8 = .int .i64 i ∧ OwnR wr w3.heap.size s6 acc ∧ acc ++ addsL i (l'.drop i) = planK t v l t' v' l' k ∧ acc.length ≤ i + 2 ∧ Below w3.heap.size wc wr) (fun _ i _ => l'.length - (intOf i).toNat)
        case atStart => exact ⟨k, _, Nat.le_refl _, hk, rfl, HS8.out, rfl, by rw [List.length_append]; omega, Below.refl _ _⟩
        case round =>
          obtain ⟨i, acc, h4, h5, rfl, hoR, hacc, hal, hBr⟩ := hrel
          have HA : Hid (acc ++ addsL i (l'.drop i) = planK t v l t' v' l' k) := hacc
          have zr := hBr.size
          clear hacc
          have BUr := BU.below hBr (by omega)
          have cU := BUr.cell
          have HBr : Hid (Below w.heap.size w wr) := HB.out.trans (hBr.mono (by omega))
          clear BUr
          by_cases hlt : i < l'.length
          · have hE := hu.out.below HBr.out
            obtain ⟨_, hf', a'', cap'', he, hc'⟩ := hE
            injection he with e1 e2 e3
            subst e1
            subst e3
            obtain ⟨b, off, rfl, hj⟩ := hc' i hlt
            obtain ⟨d0, d1, d2, d3, d4, d5, d6⟩ := hj i hlt
            have HD : Hid (addsL i (l'.drop i) = ⟨2, 0, 0, (i : Int) + 1, l'[i]⟩ :: addsL (i + 1) (l'.drop (i + 1))) := by unfold Hid; rw [List.drop_eq_getElem_cons hlt]; simp [addsL]
            clear hc' hj hf' e2
            generalize l'[i] = e at *
            go_wp2_with (first
              | (go_at_call 94; refine (addRecord_any ((i : Int) + 1) e _).mono ?_; rintro x w7 ⟨rfl, hb⟩; have z7 : wr.heap.size ≤ w7.heap.size := hb.size; have hB7 : Below wr.heap.size wr (w7.alloc (.cells #[.int .i64 2, .int .i64 0, .int .i64 0, .int .i64 ((i : Int) + 1), .int .i64 e.t, .int .i64 e.cl, .int .i64 e.sq, .int .i64 e.op, .string e.k, .string e.v, .string e.o] 94)) := hb.alloc z7 _; have ho7 := hoR.below hB7)
              | (at_builtin; refine wpl_appendR rfl (.tmp 49) (.tmp 59) rfl ⟨2, 0, 0, (i : Int) + 1, e⟩ ho7 rfl w7.heap.size 1 (range_new' _ _ _) rfl (by omega) (by simp; omega) ?_; intro v8 w8 ho8 hg8; have hB8 := (hB7.mono (show w3.heap.size ≤ wr.heap.size by omega)).trans (growR hg8 ho7 (by simp; omega))))
            go_roundw
            case rel => exact ⟨i + 1, _, by omega, by omega, by go_num, ho8, by rw [List.append_assoc, ← HA.out, HD.out]; rfl, by rw [List.length_append]; simp; omega, hBr.trans hB8⟩
            case measure => simp [intOf]; omega
          · have hd : l'.drop i = [] := List.drop_of_length_le (by omega)
            have hfin : Hid (acc = planK t v l t' v' l' k) := by unfold Hid; rw [← HA.out, hd]; simp [addsL]
            obtain ⟨a9, cap9, rfl⟩ := hoR.shape
            clear hd HA
            go_wp2
            go_ret
            rw [← hfin.out]
            exact ⟨a9, cap9, rfl, hoR.le (by omega), HBr.out⟩
end Go.Proofs.YtjoflnnomebkpaaDoor
