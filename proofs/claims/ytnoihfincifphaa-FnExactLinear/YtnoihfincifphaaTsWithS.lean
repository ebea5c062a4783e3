/-
  spec.l5withSession.
-/
import Derived.Test.YtnoihfincifphaaTbCmdP
namespace Go.Proofs.Ytnoihfincifphaa
open Go.RowKit Go.Maps
set_option linter.unusedVariables false
set_option linter.unusedSimpArgs false

theorem rise_upto (k : Int) : ∀ M : List Se, KRise seK M → (M.filter fun s => decide (s.cl ≤ k + 1)) = (M.filter fun s => decide (s.cl ≤ k)) ++ M.filter fun s => s.cl == k + 1
  | [], _ => rfl
  | a :: r, h => by
    have ih := rise_upto k r (List.Pairwise.of_cons h)
    have hr : ∀ s ∈ r, a.cl < s.cl := fun s hs => seK_lt.1 (List.rel_of_pairwise_cons h hs)
    rw [List.filter_cons, List.filter_cons, List.filter_cons]
    by_cases h1 : a.cl ≤ k
    · have h2 : a.cl ≤ k + 1 := by omega
      have h3 : ¬ a.cl = k + 1 := by omega
      simp [h1, h2, h3, ih]
    · have e1 : (r.filter fun s => decide (s.cl ≤ k)) = [] := List.filter_eq_nil_iff.2 fun s hs => by have := hr s hs; simp; omega
      by_cases h2 : a.cl = k + 1
      · have e2 : (r.filter fun s => decide (s.cl ≤ k + 1)) = [] := List.filter_eq_nil_iff.2 fun s hs => by have := hr s hs; simp; omega
        have e3 : (r.filter fun s => s.cl == k + 1) = [] := List.filter_eq_nil_iff.2 fun s hs => by have := hr s hs; simp; omega
        rw [e1, e2, e3]
        simp [h1, h2] <;> omega
      · have h3 : ¬ a.cl ≤ k + 1 := by omega
        simp [h1, h2, h3, ih]
theorem kPut_eq (x : Se) (ss : List Se) (c : Int) : ((kPut seK x ss).filter fun s => s.cl == c) = if c = x.cl then [x] else ss.filter fun s => s.cl == c := by
  have b1 : ∀ s : Se, (seK s).before (seK x) = decide (s.cl < x.cl) := fun s => rfl
  have b2 : ∀ s : Se, (seK x).before (seK s) = decide (x.cl < s.cl) := fun s => rfl
  unfold kPut
  simp only [b1, b2, List.filter_append, List.filter_cons, List.filter_filter]
  by_cases hc : c = x.cl
  · subst hc
    have e1 : (ss.filter fun s => (s.cl == x.cl) && decide (s.cl < x.cl)) = [] := List.filter_eq_nil_iff.2 fun s _ => by simp; omega
    have e2 : (ss.filter fun s => (s.cl == x.cl) && decide (x.cl < s.cl)) = [] := List.filter_eq_nil_iff.2 fun s _ => by simp; omega
    rw [e1, e2]; simp
  · have hx : (x.cl == c) = false := by simp; omega
    rw [hx, if_neg hc]
    rcases Int.lt_or_gt_of_ne hc with hl | hl
    · have e1 : (ss.filter fun s => (s.cl == c) && decide (s.cl < x.cl)) = ss.filter fun s => s.cl == c := List.filter_congr fun s _ => by by_cases h : s.cl = c <;> simp [h] <;> omega
      have e2 : (ss.filter fun s => (s.cl == c) && decide (x.cl < s.cl)) = [] := List.filter_eq_nil_iff.2 fun s _ => by simp; omega
      rw [e1, e2]; simp
    · have e1 : (ss.filter fun s => (s.cl == c) && decide (s.cl < x.cl)) = [] := List.filter_eq_nil_iff.2 fun s _ => by simp; omega
      have e2 : (ss.filter fun s => (s.cl == c) && decide (x.cl < s.cl)) = ss.filter fun s => s.cl == c := List.filter_congr fun s _ => by by_cases h : s.cl = c <;> simp [h] <;> omega
      rw [e1, e2]; simp
theorem filt_snocS (f : Se → Bool) (l : List Se) (k : Nat) (h : k < l.length) : (l.take (k + 1)).filter f = (l.take k).filter f ++ (if f l[k] then [l[k]] else []) := by
  rw [List.take_succ_eq_append_getElem h, List.filter_append, List.filter_cons, List.filter_nil]
theorem upto_step {ss : List Se} (hs : SsOk ss) (x : Se) (k : Int) : ((kPut seK x ss).filter fun s => decide (s.cl ≤ k + 1)) = ((kPut seK x ss).filter fun s => decide (s.cl ≤ k)) ++ (if k + 1 = x.cl then [x] else ss.filter fun s => s.cl == k + 1) := by
  rw [rise_upto k _ (rise_put seOrd hs.rise x), kPut_eq]
theorem upto_zero {ss : List Se} (hs : SsOk ss) {x : Se} (hx : 1 ≤ x.cl) : ((kPut seK x ss).filter fun s => decide (s.cl ≤ 0)) = [] := List.filter_eq_nil_iff.2 fun s h => by
  rcases mem_kPut h with rfl | h
  · simp; omega
  · have := (hs.all s h).1; simp; omega
theorem upto_all {ss : List Se} (hs : SsOk ss) {x : Se} (hx : x.cl ≤ 8) : ((kPut seK x ss).filter fun s => decide (s.cl ≤ 8)) = kPut seK x ss := List.filter_eq_self.2 fun s h => by
  rcases mem_kPut h with rfl | h
  · simpa using hx
  · have := (hs.all s h).1; simp; omega
theorem upto_len {ss : List Se} (hs : SsOk ss) (x : Se) (k : Int) : ((kPut seK x ss).filter fun s => decide (s.cl ≤ k)).length ≤ 9 := by
  refine Nat.le_trans (List.length_filter_le _ _) ?_
  unfold kPut
  have h0 := hs.len
  have h3 : ∀ l : List Se, (l.filter fun a => (seK a).before (seK x)).length + (l.filter fun a => (seK x).before (seK a)).length ≤ l.length := by
    intro l
    induction l with
    | nil => simp
    | cons a r ih =>
      rw [List.filter_cons, List.filter_cons, List.length_cons]
      cases h1 : (seK a).before (seK x)
      · cases h2 : (seK x).before (seK a) <;> simp <;> omega
      · rw [seOrd.asym _ _ h1]; simp; omega
  have := h3 ss
  simp only [List.length_append, List.length_cons]
  omega

set_option maxHeartbeats 8000000 in
set_option maxRecDepth 100000 in
theorem l5withSession_any (u : Value) (ss : List Se) (x : Se) (w : World) (hu : Ss w u ss) (hs : SsOk ss) (hx : 1 ≤ x.cl ∧ x.cl ≤ 8) :
    Calls Try.prog 74 #[u, .agg #[.int .i64 x.cl, .int .i64 x.sq, .int .i64 x.cd, .string x.v]] w fun e w' => ∃ ua uc, e = .returned (.slice ua (kPut seK x ss).length uc) ∧ OwnSe w' w.heap.size (.slice ua (kPut seK x ss).length uc) (kPut seK x ss) ∧ Below w.heap.size w w' := by
  obtain ⟨a, cap, rfl⟩ : ∃ a cap, u = .slice a ss.length cap := by obtain ⟨_, a, cap, e, _⟩ := hu; exact ⟨a, cap, e⟩
  have HU : Hid (Ss w (.slice a ss.length cap) ss) := hu
  have HS : Hid (SsOk ss) := hs
  have h8 := hs.len
  clear hu hs
  obtain ⟨W, hW⟩ : ∃ W, W = w.alloc (.cells #[.int .i64 x.cl, .int .i64 x.sq, .int .i64 x.cd, .string x.v] 120) := ⟨_, rfl⟩
  have hWz : W.heap.size = w.heap.size + 1 := by rw [hW]; simp
  have BX : Hid (Blk W w.heap.size #[.int .i64 x.cl, .int .i64 x.sq, .int .i64 x.cd, .string x.v] 120) := by rw [hW]; exact Blk.new _ _ _
  have HW : Hid (Below w.heap.size w W) := by rw [hW]; exact (Below.refl _ _).alloc (Nat.le_refl _) _
  go_enter Try.func74, Try.ntmps74
  go_wp2
  rw [← hW]
  clear hW
  go_loopw [5, 6] (fun o c wr => ∃ (k : Nat) (va : Option Addr) (vc : Nat) (L : List Se), k ≤ 8 ∧ c = .int .i64 ((k : Int) + 1) ∧ o = .slice va L.length vc ∧ L = (kPut seK x ss).filter (fun s => decide (s.cl ≤ (k : Int))) ∧ OwnSe wr W.heap.size (.slice va L.length vc) L ∧ Below W.heap.size W wr) (fun _ c _ => 9 - (RowKit.intOf c).toNat)
  case atStart =>
    refine ⟨0, some ⟨w.heap.size + 1, 0, none⟩, 0, [], Nat.zero_le _, rfl, rfl, (upto_zero HS.out hx.1).symm, ?_, (Below.refl _ _).alloc (Nat.le_refl _) _⟩
    have h := OwnG.made seC 4 120 W W.heap.size (Nat.le_refl _)
    rw [hWz] at h ⊢
    exact h
  case round =>
    obtain ⟨k, va, vc, L, hk, rfl, rfl, hL, hO, hB⟩ := hrel
    have hLl : L.length ≤ 9 := by rw [hL]; exact upto_len HS.out x k
    have HO : Hid (OwnSe wr W.heap.size (.slice va L.length vc) L) := hO
    have HB : Hid (Below W.heap.size W wr) := hB
    have HL : Hid (L = (kPut seK x ss).filter (fun s => decide (s.cl ≤ (k : Int)))) := hL
    have hsz := hB.size
    have bX : Blk wr w.heap.size #[.int .i64 x.cl, .int .i64 x.sq, .int .i64 x.cd, .string x.v] 120 := BX.out.below hB (by omega)
    have x0 : wr.cell? ⟨w.heap.size, 0, none⟩ = some (.int .i64 x.cl) := bX.cell 0
    have x1 : wr.cell? ⟨w.heap.size, 1, none⟩ = some (.int .i64 x.sq) := bX.cell 1
    have x2 : wr.cell? ⟨w.heap.size, 2, none⟩ = some (.int .i64 x.cd) := bX.cell 2
    have x3 : wr.cell? ⟨w.heap.size, 3, none⟩ = some (.string x.v) := bX.cell 3
    have HST : Hid (_ = _) := upto_step HS.out x k
    clear hO hB hL bX
    by_cases hlt : k < 8
    · by_cases he : (k : Int) + 1 = x.cl
      · have HF : Hid ((kPut seK x ss).filter (fun s => decide (s.cl ≤ ((k + 1 : Nat) : Int))) = L ++ [x]) := by
          have h := HST.out
          rw [if_pos he, ← HL.out] at h
          exact h
        have hd : ((k : Int) + 1 == x.cl) = true := by simpa using he
        clear HST
        go_wp2_with (at_builtin; refine wpl_appendG seLaw rfl (.tmp 17) (.tmp 19) rfl x (HO.out.below ((Below.refl _ _).alloc (Nat.le_refl _) _)) rfl wr.heap.size 1 (range_new' wr (seC x) 120) rfl (by omega) (by simp; omega) ?_; intro v3 w3 ho3 hg3; obtain ⟨a3, cap3, rfl⟩ := ho3.shape; have HO3 : Hid (OwnSe w3 W.heap.size (.slice a3 (L ++ [x]).length cap3) (L ++ [x])) := ho3; have HB3 : Hid (Below W.heap.size W w3) := (HB.out.alloc hsz _).trans (growG hg3 (HO.out.below ((Below.refl _ _).alloc (Nat.le_refl _) _)) (by simp; omega)); clear ho3 hg3)
        go_roundw
        case rel => exact ⟨k + 1, a3, cap3, L ++ [x], by omega, by go_num, by simp, HF.out.symm, HO3.out, HB3.out⟩
        case measure => simp [RowKit.intOf]; omega
      · have HF : Hid ((kPut seK x ss).filter (fun s => decide (s.cl ≤ ((k + 1 : Nat) : Int))) = L ++ ss.filter fun s => s.cl == (k : Int) + 1) := by
          have h := HST.out
          rw [if_neg he, ← HL.out] at h
          exact h
        have hd : ((k : Int) + 1 == x.cl) = false := by simpa using he
        have hd8 : decide ((k : Int) + 1 ≤ 8) = true := by simp; omega
        clear HST
        obtain ⟨W1, hW1⟩ : ∃ W1, W1 = wr := ⟨_, rfl⟩
        subst hW1
        go_wp2
        go_loopw [5, 7] (fun o i wr => ∃ (j : Nat) (va : Option Addr) (vc : Nat) (M : List Se), j ≤ ss.length ∧ i = .int .i64 j ∧ o = .slice va M.length vc ∧ M = L ++ (ss.take j).filter (fun s => s.cl == (k : Int) + 1) ∧ OwnSe wr W.heap.size (.slice va M.length vc) M ∧ Below W.heap.size W wr) (fun _ i _ => ss.length - (RowKit.intOf i).toNat)
        case atStart => exact ⟨0, va, vc, L, Nat.zero_le _, rfl, rfl, by simp, HO.out, HB.out⟩
        case round =>
          obtain ⟨j, va5, vc5, M, hj, rfl, rfl, hM, hO, hB⟩ := hrel
          have hMl : M.length ≤ 17 := by
            have h1 : ((ss.take j).filter (fun s => s.cl == (k : Int) + 1)).length ≤ 8 := Nat.le_trans (List.length_filter_le _ _) (by rw [List.length_take]; omega)
            rw [hM, List.length_append]; omega
          have HO5 : Hid (OwnSe wr W.heap.size (.slice va5 M.length vc5) M) := hO
          have HB5 : Hid (Below W.heap.size W wr) := hB
          have HM : Hid (M = L ++ (ss.take j).filter (fun s => s.cl == (k : Int) + 1)) := hM
          have hsz5 := hB.size
          clear hO hB hM
          by_cases hlt2 : j < ss.length
          · obtain ⟨b, off, e, hjj⟩ := Ss.at_ (HU.out.below (HW.out.trans (HB5.out.mono (by omega)))) hlt2
            subst e
            obtain ⟨c0, c1, c2, c3⟩ := hjj j hlt2
            have HFS : Hid ((ss.take (j + 1)).filter (fun s => s.cl == (k : Int) + 1) = (ss.take j).filter (fun s => s.cl == (k : Int) + 1) ++ (if ss[j].cl == (k : Int) + 1 then [ss[j]] else [])) := filt_snocS (fun s : Se => s.cl == (k : Int) + 1) ss j hlt2
            clear hjj
            generalize ss[j] = p at *
            cases hc : (p.cl == (k : Int) + 1)
            · go_wp2
              go_roundw
              case rel => exact ⟨j + 1, va5, vc5, M, by omega, by go_num, rfl, by rw [HFS.out, hc, HM.out]; simp, HO5.out, HB5.out⟩
              case measure => simp [RowKit.intOf]; omega
            · have HF2 : Hid (L ++ (ss.take (j + 1)).filter (fun s => s.cl == (k : Int) + 1) = M ++ [p]) := by
                show _ = _
                rw [HFS.out, hc, HM.out, List.append_assoc]; rfl
              clear HFS
              go_wp2_with (at_builtin; refine wpl_appendG seLaw rfl (.tmp 34) (.tmp 39) rfl p (HO5.out.below ((Below.refl _ _).alloc (Nat.le_refl _) _)) rfl wr.heap.size 1 (range_new' wr (seC p) 120) rfl (by omega) (by simp; omega) ?_; intro v3 w3 ho3 hg3; obtain ⟨a3, cap3, rfl⟩ := ho3.shape; have HO3 : Hid (OwnSe w3 W.heap.size (.slice a3 (M ++ [p]).length cap3) (M ++ [p])) := ho3; have HB3 : Hid (Below W.heap.size W w3) := (HB5.out.alloc hsz5 _).trans (growG hg3 (HO5.out.below ((Below.refl _ _).alloc (Nat.le_refl _) _)) (by simp; omega)); clear ho3 hg3)
              go_roundw
              case rel => exact ⟨j + 1, a3, cap3, M ++ [p], by omega, by go_num, by simp, HF2.out.symm, HO3.out, HB3.out⟩
              case measure => simp [RowKit.intOf]; omega
          · obtain rfl : j = ss.length := by omega
            have HME : Hid (M = (kPut seK x ss).filter (fun s => decide (s.cl ≤ ((k + 1 : Nat) : Int)))) := by
              have h := HM.out
              rw [List.take_length, ← HF.out] at h
              exact h
            go_wp2
            go_roundw
            case rel => exact ⟨k + 1, va5, vc5, M, by omega, by go_num, rfl, HME.out, HO5.out, HB5.out⟩
            case measure => simp [RowKit.intOf]; omega
    · obtain rfl : k = 8 := by omega
      have HE : Hid (kPut seK x ss = L) := by
        show _ = _
        rw [HL.out]; exact (upto_all HS.out hx.2).symm
      go_wp2
      go_ret
      rw [HE.out]
      exact ⟨va, vc, rfl, HO.out.le (by omega), HW.out.trans (HB.out.mono (by omega))⟩
end Go.Proofs.Ytnoihfincifphaa
