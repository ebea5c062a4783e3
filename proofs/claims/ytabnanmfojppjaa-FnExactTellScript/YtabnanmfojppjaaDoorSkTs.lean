/-
  spec.TellScript.
-/
import Derived.Test.YtabnanmfojppjaaDoorSkTp
import Derived.Test.YtabnanmfojppjaaDoorMidBase
import Derived.Deep.MidRow
import Derived.Deep.RegionWith
import Derived.Deep.DeepCutAuto
namespace Go.Proofs.YtabnanmfojppjaaDoor
open Go.RowKit
set_option linter.unusedVariables false
set_option linter.unusedSimpArgs false

theorem sizeScS : (Tryd.prog.info? 33).map (·.size) = some 8 := by kernel_rfl
theorem sizeSuS : (Tryd.prog.info? 30).map (·.size) = some 6 := by kernel_rfl
theorem sizeStS : (Tryd.prog.info? 47).map (·.size) = some 10 := by kernel_rfl
theorem bL_snoc (a : List UInt8) (c : UInt8) : bL (a ++ [c]) = bL a ++ [(c.toNat : Int)] := by rw [bL_app]; rfl
set_option maxHeartbeats 16000000 in
set_option maxRecDepth 100000 in
theorem sTellScript_any (u : Sup) (vd vs : Value) (ds : List Int) (ss : List Stp) (w : World) (hd : Ix w vd ds) (hs : Sl stC 10 w vs ss) (hf : ∀ x ∈ ss, x.fits) :
    Calls Tryd.prog 5 #[.agg #[.int .i64 u.s, .int .i64 u.c, .int .i64 u.el, .int .i64 u.b, .int .i64 u.r, .int .i64 u.d, vd, vs]] w fun e w' => e = .returned (.string (tellA u ds ss)) ∧ Below w.heap.size w w' := by
  have HOK : Hid (∀ x, Ix x vd ds → Sl stC 10 x vs ss → Calls Tryd.prog 11 #[.agg #[.int .i64 u.s, .int .i64 u.c, .int .i64 u.el, .int .i64 u.b, .int .i64 u.r, .int .i64 u.d, vd, vs]] x fun e w' => e = .returned (.bool (scOk u ds ss)) ∧ Below x.heap.size x w') := fun x h1 h2 => l7scriptOk_any u vd vs ds ss x h1 h2 hf
  have HD : Hid (Ix w vd ds) := hd
  have HS : Hid (Sl stC 10 w vs ss) := hs
  obtain ⟨hdl, da, dc, rfl, _⟩ := hd
  obtain ⟨hsl, sa, sc, rfl, _⟩ := hs
  have HF : Hid (∀ x ∈ ss, x.fits) := hf
  clear hf
  unfold maxLen at hdl hsl
  have HP : Hid (scOk u ds ss = true → ScP u ds ss) := scOk_parts
  have HA : Hid (tellA u ds ss = if (scOk u ds ss && ss.all tOkS && decide ((tellL u ds ss).length ≤ 65536)) = true then sOf (tellL u ds ss) else ⟨#[]⟩) := rfl
  generalize tellA u ds ss = A at HA ⊢
  cases hok : scOk u ds ss
  case false =>
    rw [hok] at HA HOK
    have HAe : Hid (A = ⟨#[]⟩) := by unfold Hid; rw [HA.out]; simp
    clear HA HP hok
    generalize u.s = us at *; generalize u.c = uc at *; generalize u.el = ue at *; generalize u.b = ub at *; generalize u.r = ur at *; generalize u.d = ud at *
    go_enter Tryd.func5, Tryd.ntmps5
    go_wp2_with (go_at_call 11; refine (HOK.out _ (HD.out.below ((Below.refl _ _).alloc (Nat.le_refl _) _)) (HS.out.below ((Below.refl _ _).alloc (Nat.le_refl _) _))).mono ?_; rintro e w1 ⟨rfl, hb⟩)
    go_ret
    exact ⟨by rw [HAe.out]; rfl, ((Below.refl _ _).alloc (Nat.le_refl _) _).trans (hb.mono (by simp))⟩
  rw [hok] at HA HOK
  have hp := HP.out hok
  clear HP hok
  replace HA : Hid (A = if (ss.all tOkS && decide ((tellL u ds ss).length ≤ 65536)) = true then sOf (tellL u ds ss) else ⟨#[]⟩) := by unfold Hid; rw [HA.out]; simp
  have hdl4 := hp.dl
  have hsl4 := hp.sl
  have HDs : Hid (∀ n ∈ ds, 0 ≤ n ∧ n < 10000000000) := hp.ds
  have HSs : Hid (∀ x ∈ ss, StP x) := fun x hx => stOk_parts hp.s7 hp.c8 (hp.ss x hx)
  have hn6 := numsL_len (sup6 u) hp.six
  have hnd := numsL_len ds hp.ds
  obtain ⟨T1, hT1⟩ : ∃ T, T = clusterW ++ numsL (sup6 u) := ⟨_, rfl⟩
  have e6 : (sup6 u).length = 6 := rfl
  rw [e6] at hn6
  have hT1l : T1.length ≤ 100 := by rw [hT1]; simp [clusterW]; omega
  have HTe : Hid (∀ (x : World) (q : Nat), Ix x (.slice (some ⟨q, 0, none⟩) 6 6) (sup6 u) → Calls Tryd.prog 13 #[.string ⟨#[99, 108, 117, 115, 116, 101, 114]⟩, .slice (some ⟨q, 0, none⟩) 6 6] x fun e w' => e = .returned (.string (sOf T1)) ∧ Below x.heap.size x w') := fun x q h => by
    rw [hT1]
    exact l7tell_any clusterW _ (sup6 u) x h hp.six (by simp [clusterW]) (by simp [sup6])
  have HSx : Hid (sup6 u = [u.s, u.c, u.el, u.b, u.r, u.d]) := rfl
  have HIx : Hid (∀ (x : World) (o1 o2 : Obj), Ix (((x.alloc o1).alloc o2).alloc (.cells #[.int .i64 u.s, .int .i64 u.c, .int .i64 u.el, .int .i64 u.b, .int .i64 u.r, .int .i64 u.d] 3)) (.slice (some ⟨x.heap.size + 1 + 1, 0, none⟩) 6 6) (sup6 u)) := fun x o1 o2 => by
    have h := ix_lit ((x.alloc o1).alloc o2) (sup6 u) #[.int .i64 u.s, .int .i64 u.c, .int .i64 u.el, .int .i64 u.b, .int .i64 u.r, .int .i64 u.d] rfl (by simp [sup6]) 3 6 rfl
    simpa using h
  have HO0 : Hid (∀ (x : World) (o1 o2 : Obj), Own (((x.alloc o1).alloc (.cells #[] 5)).alloc o2) (x.heap.size + 1) (.slice (some ⟨x.heap.size + 1, 0, none⟩) 0 0) []) := fun x o1 o2 => by
    have h := (Own.lit0 (x.alloc o1)).below ((Below.refl _ _).alloc (Nat.le_refl _) o2)
    simpa using h
  have HTL : Hid (tellL u ds ss = T1 ++ [10] ++ drawsW ++ numsL ds ++ [10] ++ stepsL ss) := by unfold Hid tellL headL; rw [hT1]
  generalize tellL u ds ss = TL at HA HTL
  generalize sup6 u = SX at HTe HIx
  clear hT1 hp hn6 HSx e6
  generalize u.s = us at *; generalize u.c = uc at *; generalize u.el = ue at *; generalize u.b = ub at *; generalize u.r = ur at *; generalize u.d = ud at *
  have kc : ∀ x : World, (convert 40 40 (.slice (some ⟨x.heap.size, 0, none⟩) 5 5)).run Tryd.prog (x.alloc (.cells #[.int .u8 100, .int .u8 114, .int .u8 97, .int .u8 119, .int .u8 115] 5)) = .ok (.slice (some ⟨x.heap.size, 0, none⟩) 5 5) (x.alloc (.cells #[.int .u8 100, .int .u8 114, .int .u8 97, .int .u8 119, .int .u8 115] 5 (5, 6))) := fun x => Lib.run_convert_bytes_const x 40 5 _ 5 5 Tryd.underlying40 Tryd.underlying5
  have G : Hid True := trivial
  have G2 : Hid True := trivial
  go_enter Tryd.func5, Tryd.ntmps5
  go_wp2_with (first
    | (go_at_call 11; refine (HOK.out _ (HD.out.below ((Below.refl _ _).alloc (Nat.le_refl _) _)) (HS.out.below ((Below.refl _ _).alloc (Nat.le_refl _) _))).mono ?_; rintro e w1 ⟨rfl, hb⟩; have HB1 : Hid (Below w.heap.size w w1) := ((Below.refl _ _).alloc (Nat.le_refl _) _).trans (hb.mono (by simp)); have HK1 : Hid (Blk w1 w.heap.size #[.int .i64 us, .int .i64 uc, .int .i64 ue, .int .i64 ub, .int .i64 ur, .int .i64 ud, .slice da ds.length dc, .slice sa ss.length sc] 33) := (Blk.new _ _ _).below hb (by simp); have hz1 : w.heap.size < w1.heap.size := HK1.out.lt; clear hb; have c0 := HK1.out.cell 0; have c1 := HK1.out.cell 1; have c2 := HK1.out.cell 2; have c3 := HK1.out.cell 3; have c4 := HK1.out.cell 4; have c5 := HK1.out.cell 5; simp at c0 c1 c2 c3 c4 c5)
    | (have hBA := G; refine gate_st 30 (.tmp 3) _ rfl ?_; clear hBA; refine wpl_store_last rfl 30 (.tmp 3) _ rfl (w1.heap.size) rfl rfl rfl sizeSuS rfl rfl (by simp [Value.oneCell']) ?_; clear G)
    | (go_at_call 13; refine (HTe.out _ _ (HIx.out _ _ _)).mono ?_; rintro e w2 ⟨rfl, hb2⟩; have HB2 : Hid (Below w1.heap.size w1 w2) := ((((Below.refl _ _).alloc (Nat.le_refl _) _).alloc (by simp) _).alloc (by simp <;> omega) _).trans (hb2.mono (by simp <;> omega)); have ho2 := (HO0.out _ _ _).below hb2; have hz2 : w1.heap.size + 3 ≤ w2.heap.size := (by have := hb2.size; simp at this; omega))
    | (go_at_call 12; refine (l7bytes_any _ [] (w1.heap.size + 1) T1 _ ho2 (by omega) (by omega) (by simp)).mono ?_; rintro e w3 ⟨v3, rfl, ho3, hg3⟩; have HB3 : Hid (Below w1.heap.size w1 w3) := HB2.out.trans ((hg3.below ho2 (by omega)).mono (by omega)); have hz3 := hg3.g.size)
    | (at_builtin; refine wpl_append rfl (.tmp 33) (.tmp 35) rfl (ho3.below ((Below.refl _ _).alloc (Nat.le_refl _) _)) rfl (bs_mark _ [100, 114, 97, 119, 115] _ rfl (by simp) (by simp [maxLen]) _ _ rfl) rfl (by simp <;> omega) (by simp [bL_len] <;> omega) (by simp [bL_len] <;> omega) ?_; intro v4 w4 ho4 hg4; have HB4 : Hid (Below w1.heap.size w1 w4) := (HB3.out.alloc (by omega) _).trans ((hg4.below (ho3.below ((Below.refl _ _).alloc (Nat.le_refl _) _)) (by simp <;> omega)).mono (by omega)); have hg4z : w1.heap.size + 1 ≤ w4.heap.size := (by have := hg4.g.size; simp at this; omega)))
  have e4 : [] ++ bL (T1 ++ [10]) ++ [100, 114, 97, 119, 115] = bL (T1 ++ [10] ++ drawsW) := by rw [bL_app (T1 ++ [10])]; simp [bL, drawsW]
  rw [e4] at ho4
  have HDC : Hid (∀ wr, Below w1.heap.size w1 wr → ∀ b off k, da = some ⟨b, off, none⟩ → (h : k < ds.length) → wr.cell? ⟨b, off + k, none⟩ = some (.int .i64 ds[k])) := fun wr hb b off k he h => by
    obtain ⟨_, a', c', e', hc⟩ := HD.out.below (HB1.out)
    injection e' with e1
    subst e1
    obtain ⟨b', off', e2, hj⟩ := hc k h
    rw [he] at e2
    cases e2
    have h2 := hj k h
    exact (hb.cell (p := ⟨b, off + k, none⟩) (cell_lt h2)).trans h2
  have HSC : Hid (∀ wr, Below w1.heap.size w1 wr → ∀ b off k, sa = some ⟨b, off, none⟩ → (h : k < ss.length) → wr.rangeAt b (off + k * 10) (stC ss[k])) := fun wr hb b off k he h => by
    obtain ⟨_, a', c', e', hc⟩ := HS.out.below (HB1.out)
    injection e' with e1
    subst e1
    obtain ⟨b', off', e2, hj⟩ := hc k h
    rw [he] at e2
    cases e2
    exact range_below (hj k h) hb
  have HDE : Hid (∀ k, k < ds.length → ∃ b off, da = some ⟨b, off, none⟩) := fun k h => by
    obtain ⟨_, a', c', e', hc⟩ := HD.out
    injection e' with e1
    subst e1
    obtain ⟨b', off', e2, _⟩ := hc k h
    exact ⟨b', off', e2⟩
  have HSE : Hid (∀ k, k < ss.length → ∃ b off, sa = some ⟨b, off, none⟩) := fun k h => by
    obtain ⟨_, a', c', e', hc⟩ := HS.out
    injection e' with e1
    subst e1
    obtain ⟨b', off', e2, _⟩ := hc k h
    exact ⟨b', off', e2⟩
  clear HD HS c0 c1 c2 c3 c4 c5 ho3 hg3 ho2 HB2 HB3 e4 hg4 HIx HO0 HTe HOK
  obtain ⟨T2, hT2⟩ : ∃ T, T = T1 ++ [10] ++ drawsW := ⟨_, rfl⟩
  rw [← hT2] at ho4
  have hT2l : T2.length ≤ 200 := by rw [hT2]; simp [drawsW]; omega
  have hNl : Hid (∀ k, k ≤ ds.length → (numsL (ds.take k)).length ≤ 46000) := fun k h => by
    have h1 := numsL_len (ds.take k) fun n hn => HDs.out n (List.mem_of_mem_take hn)
    rw [List.length_take_of_le h] at h1
    omega
  go_loopw [4, 5] (fun vo i wr => ∃ k : Nat, k ≤ ds.length ∧ i = .int .i64 k ∧ Own wr (w1.heap.size + 1) vo (bL (T2 ++ numsL (ds.take k))) ∧ Below w1.heap.size w1 wr ∧ w1.heap.size + 1 ≤ wr.heap.size) (fun _ i _ => ds.length - (intOf i).toNat)
  case atStart => exact ⟨0, Nat.zero_le _, rfl, by simpa [numsL] using ho4, HB4.out, by have := hg4z; omega⟩
  case round =>
    clear ho4 HB4
    obtain ⟨k, hk, rfl, hO, hB, hzr⟩ := hrel
    have HO : Hid (Own wr (w1.heap.size + 1) _ (bL (T2 ++ numsL (ds.take k)))) := hO
    have HB : Hid (Below w1.heap.size w1 wr) := hB
    have b6 := (HK1.out.below hB hz1).cell 6
    simp at b6
    have hlk := hNl.out k hk
    clear hO hB
    by_cases hlt : k < ds.length
    · obtain ⟨b, off, rfl⟩ := HDE.out k hlt
      obtain ⟨n0, n1⟩ := HDs.out _ (List.getElem_mem hlt)
      have ht := numsL_take hlt
      have hil := itoa_len n0 n1
      have hip := itoa_pos n0
      have HLN : Hid (bL (T2 ++ numsL (ds.take k)) ++ [32] ++ bL (Lib.itoa ds[k]) = bL (T2 ++ numsL (ds.take (k + 1)))) := by
        unfold Hid
        rw [ht, ← List.append_assoc, bL_app, bL_app (T2 ++ numsL (ds.take k))]
        simp [bL]
      have HI : Hid (∀ x : World, Calls Tryd.prog 14 #[.int .i64 ds[k]] x fun e w' => e = .returned (.string (sOf (Lib.itoa ds[k]))) ∧ Below x.heap.size x w') := fun x => l7dec_it ds[k] n0 n1 x
      have HCl : Hid (∀ wx, Below w1.heap.size w1 wx → wx.cell? ⟨b, off + k, none⟩ = some (.int .i64 ds[k])) := fun wx h => HDC.out wx h b off k rfl hlt
      have hcv : ∀ x : World, (convert 9 40 (.string (sOf (Lib.itoa ds[k])))).run Tryd.prog x = .ok (.slice (some ⟨x.heap.size, 0, none⟩) (Lib.itoa ds[k]).length (grownCap x (Lib.itoa ds[k]).length 0 5)) (Lib.bytesWorld x 5 (sOf (Lib.itoa ds[k]))) := fun x => convS x _
      have HbW : Hid (∀ x : World, Below x.heap.size x (Lib.bytesWorld x 5 (sOf (Lib.itoa ds[k]))) ∧ ∀ cp, Bs (Lib.bytesWorld x 5 (sOf (Lib.itoa ds[k]))) (.slice (some ⟨x.heap.size, 0, none⟩) (Lib.itoa ds[k]).length cp) (bL (Lib.itoa ds[k]))) := fun x => ⟨below_bytesS x _, fun cp => bs_bytesS x _ (by omega) cp⟩
      have hkl : (k : Int) < (ds.length : Int) := by omega
      have hll : (bL (T2 ++ numsL (ds.take k))).length ≤ 50000 := by rw [bL_len]; simp; omega
      have hl2 : (bL (Lib.itoa ds[k])).length = (Lib.itoa ds[k]).length := bL_len _
      clear ht hlk
      generalize Lib.itoa ds[k] = it at *
      generalize ds[k] = n at *
      generalize bL (T2 ++ numsL (ds.take k)) = LK at *
      generalize bL it = LI at *
      generalize sOf it = D at *
      generalize it.length = il at *
      go_wp2_with (first
        | (at_builtin; refine wpl_append rfl (.tmp 44) (.tmp 45) rfl (HO.out.below ((Below.refl _ _).alloc (Nat.le_refl _) _)) rfl (Bs.one _ 32 (by omega)) rfl (by simp <;> omega) (by simp <;> omega) (by simp <;> omega) ?_; intro v5 w5 ho5 hg5; have HB5 : Hid (Below w1.heap.size w1 w5) := (HB.out.alloc (by omega) _).trans ((hg5.below (HO.out.below ((Below.refl _ _).alloc (Nat.le_refl _) _)) (by simp <;> omega)).mono (by omega)); have b6' := (HK1.out.below HB5.out hz1).cell 6; simp at b6'; have hc5 := HCl.out w5 HB5.out; have hz5 : w1.heap.size + 1 ≤ w5.heap.size := (by have := hg5.g.size; simp at this; omega))
        | (go_at_call 14; refine (HI.out _).mono ?_; rintro e w6 ⟨rfl, hb6⟩; have ho6 := ho5.below hb6; have HB6 : Hid (Below w1.heap.size w1 w6) := HB5.out.trans (hb6.mono (by omega)); have hz6 := hb6.size)
        | (at_builtin; refine wpl_append rfl (.tmp 47) (.tmp 54) rfl (ho6.below (HbW.out w6).1) rfl ((HbW.out w6).2 _) rfl (by omega) (by simp <;> omega) (by have := (HbW.out w6).1.size; omega) ?_; intro v7 w7 ho7 hg7; have HB7 : Hid (Below w1.heap.size w1 w7) := (HB6.out.trans ((HbW.out w6).1.mono (by omega))).trans ((hg7.below (ho6.below (HbW.out w6).1) (by have := (HbW.out w6).1.size; omega)).mono (by omega)); have hz7 : w1.heap.size + 1 ≤ w7.heap.size := (by have h1 := (HbW.out w6).1.size; have h2 := hg7.g.size; omega)))
      go_roundw
      case rel => exact ⟨k + 1, by omega, by go_num, by rw [← HLN.out]; exact ho7, HB7.out, hz7⟩
      case measure => simp [intOf]; omega
    · obtain rfl : k = ds.length := by omega
      rw [List.take_length] at HO hlk
      go_wp2_with (first
        | (at_builtin; refine wpl_append rfl (.tmp 56) (.tmp 57) rfl (HO.out.below ((Below.refl _ _).alloc (Nat.le_refl _) _)) rfl (Bs.one _ 10 (by omega)) rfl (by simp <;> omega) (by simp [bL_len] <;> omega) (by simp <;> omega) ?_; intro v5 w5 ho5 hg5; have HB5 : Hid (Below w1.heap.size w1 w5) := (HB.out.alloc (by omega) _).trans ((hg5.below (HO.out.below ((Below.refl _ _).alloc (Nat.le_refl _) _)) (by simp <;> omega)).mono (by omega)); have hz5 : w1.heap.size + 1 ≤ w5.heap.size := (by have := hg5.g.size; simp at this; omega)))
      have e5 : bL (T2 ++ numsL ds) ++ [10] = bL (T2 ++ numsL ds ++ [10]) := by rw [bL_app (T2 ++ numsL ds)]; rfl
      rw [e5] at ho5
      obtain ⟨T3, hT3⟩ : ∃ T, T = T2 ++ numsL ds ++ [10] := ⟨_, rfl⟩
      rw [← hT3] at ho5
      have hT3l : T3.length ≤ 47000 := by rw [hT3]; simp; omega
      have hT3p : 0 < T3.length := by rw [hT3, List.length_append]; exact Nat.succ_pos _
      have HTL3 : Hid (TL = T3 ++ stepsL ss) := by unfold Hid; rw [HTL.out, hT3, hT2]
      have HO5 : Hid (Own w5 (w1.heap.size + 1) v5 (bL T3)) := ho5
      have hSl : Hid (∀ k, k ≤ ss.length → (stepsL (ss.take k)).length ≤ 4200000) := fun k h => by
        have h1 := stepsL_len (l := ss.take k) fun x hx => HSs.out x (List.mem_of_mem_take hx)
        rw [List.length_take_of_le h] at h1
        omega
      clear hg5 HO HB b6 hlk hnd hNl HDC HDE HDs e5 ho5 hT3 HTL hT2 hT2l hT1l
      go_loopw [4, 6] (fun vo i wr => ∃ k : Nat, k ≤ ss.length ∧ i = .int .i64 k ∧ Own wr (w1.heap.size + 1) vo (bL (T3 ++ stepsL (ss.take k))) ∧ (ss.take k).all tOkS = true ∧ Below w1.heap.size w1 wr ∧ w1.heap.size + 1 ≤ wr.heap.size) (fun _ i _ => ss.length - (intOf i).toNat)
      case atStart => exact ⟨0, Nat.zero_le _, rfl, by simpa [stepsL] using HO5.out, rfl, HB5.out, hz5⟩
      case round =>
        clear HO5 HB5 hz5 hzr
        obtain ⟨k, hk, rfl, hO, hA, hB, hzr⟩ := hrel
        have HO : Hid (Own wr (w1.heap.size + 1) _ (bL (T3 ++ stepsL (ss.take k)))) := hO
        have HB : Hid (Below w1.heap.size w1 wr) := hB
        have HAl : Hid ((ss.take k).all tOkS = true) := hA
        have b7 := (HK1.out.below hB hz1).cell 7
        simp at b7
        have hlk := hSl.out k hk
        clear hO hB hA
        by_cases hlt : k < ss.length
        · obtain ⟨b, off, rfl⟩ := HSE.out k hlt
          have HR : Hid (wr.rangeAt b (off + k * 10) (stC ss[k])) := HSC.out wr HB.out b off k rfl hlt
          have hx := HSs.out _ (List.getElem_mem hlt)
          have hxf := HF.out _ (List.getElem_mem hlt)
          have ht := stepsL_take hlt
          have hsl := stepL_len hx
          have HLN : Hid (bL (T3 ++ stepsL (ss.take k)) ++ bL (stepL ss[k] ++ [10]) = bL (T3 ++ stepsL (ss.take (k + 1)))) := by
            unfold Hid
            rw [ht, ← List.append_assoc, ← bL_app]
          have HN : Hid (tOkS ss[k] = true → (ss.take (k + 1)).all tOkS = true) := fun h => all_takeT hlt _ HAl.out h
          have HNo : Hid (tOkS ss[k] = false → ss.all tOkS = false) := fun h => all_noT hlt _ h
          have hkl : (k : Int) < (ss.length : Int) := by omega
          have hll : (bL (T3 ++ stepsL (ss.take k))).length ≤ 5000000 := by rw [bL_len]; simp; omega
          have HBy : Hid (∀ (z : World) (vo : Value), Own z (w1.heap.size + 1) vo (bL (T3 ++ stepsL (ss.take k))) → w1.heap.size + 1 ≤ z.heap.size → Calls Tryd.prog 12 #[vo, .string (sOf (stepL ss[k]))] z fun e w' => ∃ v', e = .returned v' ∧ Own w' (w1.heap.size + 1) v' (bL (T3 ++ stepsL (ss.take k)) ++ bL (stepL ss[k] ++ [10])) ∧ Grew z vo w' v') := fun z vo h1 h2 => l7bytes_any vo _ _ (stepL ss[k]) z h1 h2 (by omega) (by omega)
          have hStp : Hid (stepL ss[k] = if ss[k].kd = 11 then askH ss[k] ++ txsL (askT ss[k]) else wordK ss[k].kd ++ numsL ([ss[k].a, ss[k].b, ss[k].c].take (cntK ss[k].kd))) := rfl
          have hTok : Hid (tOkS ss[k] = if ss[k].kd = 11 then askOk ss[k] else true) := rfl
          clear ht hlk
          generalize bL (T3 ++ stepsL (ss.take k)) = LK at *
          generalize ss[k] = x at *
          obtain ⟨SL, hSL⟩ : ∃ S, S = stepL x := ⟨_, rfl⟩
          rw [← hSL] at HLN hsl HBy hStp
          clear hSL
          generalize bL (SL ++ [10]) = LS at *
          have HRc : Hid (wr.rangeAt b (off + k * 10) [.int .i64 x.kd, .int .i64 x.a, .int .i64 x.b, .int .i64 x.c, .int .i64 x.cl, .int .i64 x.sq, .int .i64 x.op, .string x.k, .string x.v, .string x.o]) := HR.out
          clear HR
          by_cases h11 : x.kd = 11
          · have hop := hx.op h11
            have HAT : Hid (∀ z, Calls Tryd.prog 15 #[.agg #[.int .i64 x.kd, .int .i64 x.a, .int .i64 x.b, .int .i64 x.c, .int .i64 x.cl, .int .i64 x.sq, .int .i64 x.op, .string x.k, .string x.v, .string x.o]] z fun e w' => e = .returned (.tuple #[.string (if askOk x = true then sOf (askH x ++ txsL (askT x)) else ⟨#[]⟩), .bool (askOk x)]) ∧ Below z.heap.size z w') := fun z => l7askText_any x hxf hop.1 hop.2.1 hx.a.1 hx.a.2 z
            rw [if_pos h11] at hStp hTok
            have HSL : Hid (SL = askH x ++ txsL (askT x)) := hStp.out
            rw [← HSL.out] at HAT
            rw [hTok.out] at HN HNo
            clear hStp hTok hx hxf
            generalize askOk x = AK at *
            obtain ⟨kd, xa, xb, xc, cl, sq, op, kk, vv, oo⟩ := x
            dsimp only at *
            subst h11
            have G1 : Hid True := trivial
            have G2 : Hid True := trivial
            have G3 : Hid True := trivial
            cases AK
            · simp only [if_neg (show ¬ (false = true) by decide)] at HAT
              go_wp2_with (first
                | (have hBA := G1; refine gate_ld 47 (.tmp 69) rfl ?_; clear hBA; refine wpList_load_mid rfl 47 (.tmp 69) rfl b (off + k * 10) rfl _ _ HRc.out Tryd.underlying47 rfl sizeStS ?_; clear G1)
                | (have hBA := G2; refine gate_st 47 (.tmp 7) _ rfl ?_; clear hBA; refine wpl_store_last rfl 47 (.tmp 7) _ rfl (wr.heap.size) rfl rfl rfl sizeStS rfl rfl (by simp [Value.oneCell']) ?_; clear G2)
                | (have hBA := G3; refine gate_ld 47 (.tmp 7) rfl ?_; clear hBA; refine wpl_load_blk rfl 47 (.tmp 7) rfl (wr.heap.size) rfl (Blk.new _ _ _) Tryd.underlying47 rfl sizeStS rfl ?_; clear G3)
                | (go_at_call 15; refine (HAT.out _).mono ?_; rintro e w8 ⟨rfl, hb8⟩))
              go_ret
              exact ⟨by rw [HA.out, HNo.out (by trivial)]; rfl, HB1.out.trans ((HB.out.trans ((((Below.refl _ _).alloc (Nat.le_refl _) _).trans (hb8.mono (by simp))).mono (by omega))).mono (by omega))⟩
            · simp only [if_pos] at HAT
              go_wp2_with (first
                | (have hBA := G1; refine gate_ld 47 (.tmp 69) rfl ?_; clear hBA; refine wpList_load_mid rfl 47 (.tmp 69) rfl b (off + k * 10) rfl _ _ HRc.out Tryd.underlying47 rfl sizeStS ?_; clear G1)
                | (have hBA := G2; refine gate_st 47 (.tmp 7) _ rfl ?_; clear hBA; refine wpl_store_last rfl 47 (.tmp 7) _ rfl (wr.heap.size) rfl rfl rfl sizeStS rfl rfl (by simp [Value.oneCell']) ?_; clear G2)
                | (have hBA := G3; refine gate_ld 47 (.tmp 7) rfl ?_; clear hBA; refine wpl_load_blk rfl 47 (.tmp 7) rfl (wr.heap.size) rfl (Blk.new _ _ _) Tryd.underlying47 rfl sizeStS rfl ?_; clear G3)
                | (go_at_call 15; refine (HAT.out _).mono ?_; rintro e w8 ⟨rfl, hb8⟩; have hbb : Below wr.heap.size wr w8 := ((Below.refl _ _).alloc (Nat.le_refl _) _).trans (hb8.mono (by simp)); have ho8 := HO.out.below hbb; have hz8 := hbb.size)
                | (go_at_call 12; refine (HBy.out _ _ ho8 (by omega)).mono ?_; rintro e w9 ⟨v9, rfl, ho9, hg9⟩; have HB9 : Hid (Below w1.heap.size w1 w9) := (HB.out.trans (hbb.mono (by omega))).trans ((hg9.below ho8 (by omega)).mono (by omega)); have hz9 := hg9.g.size))
              go_roundw
              case rel => exact ⟨k + 1, by omega, by go_num, by rw [← HLN.out]; exact ho9, HN.out (by trivial), HB9.out, by omega⟩
              case measure => simp [intOf]; omega
          · rw [if_neg h11] at hStp hTok
            rw [hTok.out] at HN
            have HSL : Hid (SL = wordK x.kd ++ numsL ([x.a, x.b, x.c].take (cntK x.kd))) := hStp.out
            have hc3 : cntK x.kd ≤ 3 := by unfold cntK; (repeat' split) <;> omega
            have HWd : Hid (∀ z, Calls Tryd.prog 16 #[.int .i64 x.kd] z fun e w' => e = .returned (.string (sOf (wordK x.kd))) ∧ Below z.heap.size z w') := fun z => l7word_any x.kd hx.k1 hx.k2 z
            have HCt : Hid (∀ z, Calls Tryd.prog 17 #[.int .i64 x.kd] z fun e w' => e = .returned (.int .i64 (cntK x.kd : Int)) ∧ w' = z) := fun z => l7count_any x.kd hx.k1 hx.k2 z
            have HTl : Hid (∀ (z : World) (q : Nat), z.cell? ⟨q, 0, none⟩ = some (.int .i64 x.a) → z.cell? ⟨q, 1, none⟩ = some (.int .i64 x.b) → z.cell? ⟨q, 2, none⟩ = some (.int .i64 x.c) → Calls Tryd.prog 13 #[.string (sOf (wordK x.kd)), .slice (some ⟨q, 0, none⟩) (cntK x.kd) 3] z fun e w' => e = .returned (.string (sOf SL)) ∧ Below z.heap.size z w') := fun z q g0 g1 g2 => by
              have hnl : ([x.a, x.b, x.c].take (cntK x.kd)).length = cntK x.kd := by rw [List.length_take]; simp; omega
              rw [HSL.out]
              refine l7tell_any (wordK x.kd) _ ([x.a, x.b, x.c].take (cntK x.kd)) z (ix_cells z q _ (by omega) (fun j hj => ?_) _ _ hnl.symm) (fun n hn => ?_) (by have := wordK_len x.kd; omega) (by omega)
              · rw [hnl] at hj
                rw [List.getElem_take]
                rcases (show j = 0 ∨ j = 1 ∨ j = 2 by omega) with rfl | rfl | rfl
                · exact g0
                · exact g1
                · exact g2
              · have := List.mem_of_mem_take hn
                simp only [List.mem_cons, List.not_mem_nil, or_false] at this
                rcases this with rfl | rfl | rfl
                · exact hx.a
                · exact hx.b
                · exact hx.c
            have h11' : (x.kd == 11) = false := by simpa using h11
            clear hStp hTok hx hxf h11 HSL
            generalize sOf (wordK x.kd) = WD at *
            generalize cntK x.kd = cn at *
            obtain ⟨kd, xa, xb, xc, cl, sq, op, kk, vv, oo⟩ := x
            dsimp only at *
            have G1 : Hid True := trivial
            have G2 : Hid True := trivial
            go_wp2_with (first
                | (have hBA := G1; refine gate_ld 47 (.tmp 69) rfl ?_; clear hBA; refine wpList_load_mid rfl 47 (.tmp 69) rfl b (off + k * 10) rfl _ _ HRc.out Tryd.underlying47 rfl sizeStS ?_; clear G1)
                | (have hBA := G2; refine gate_st 47 (.tmp 7) _ rfl ?_; clear hBA; refine wpl_store_last rfl 47 (.tmp 7) _ rfl (wr.heap.size) rfl rfl rfl sizeStS rfl rfl (by simp [Value.oneCell']) ?_; clear G2))
            have d0 : ((wr.alloc (.cells #[.int .i64 kd, .int .i64 xa, .int .i64 xb, .int .i64 xc, .int .i64 cl, .int .i64 sq, .int .i64 op, .string kk, .string vv, .string oo] 47)).alloc (.cells #[.int .i64 xa, .int .i64 xb, .int .i64 xc] 3)).cell? ⟨wr.heap.size, 0, none⟩ = some (.int .i64 kd) := by simp [go_sem]
            have t0 : ((wr.alloc (.cells #[.int .i64 kd, .int .i64 xa, .int .i64 xb, .int .i64 xc, .int .i64 cl, .int .i64 sq, .int .i64 op, .string kk, .string vv, .string oo] 47)).alloc (.cells #[.int .i64 xa, .int .i64 xb, .int .i64 xc] 3)).cell? ⟨wr.heap.size + 1, 0, none⟩ = some (.int .i64 xa) := by simp [go_sem]
            have t1 : ((wr.alloc (.cells #[.int .i64 kd, .int .i64 xa, .int .i64 xb, .int .i64 xc, .int .i64 cl, .int .i64 sq, .int .i64 op, .string kk, .string vv, .string oo] 47)).alloc (.cells #[.int .i64 xa, .int .i64 xb, .int .i64 xc] 3)).cell? ⟨wr.heap.size + 1, 1, none⟩ = some (.int .i64 xb) := by simp [go_sem]
            have t2 : ((wr.alloc (.cells #[.int .i64 kd, .int .i64 xa, .int .i64 xb, .int .i64 xc, .int .i64 cl, .int .i64 sq, .int .i64 op, .string kk, .string vv, .string oo] 47)).alloc (.cells #[.int .i64 xa, .int .i64 xb, .int .i64 xc] 3)).cell? ⟨wr.heap.size + 1, 2, none⟩ = some (.int .i64 xc) := by simp [go_sem]
            have hbt : Below wr.heap.size wr ((wr.alloc (.cells #[.int .i64 kd, .int .i64 xa, .int .i64 xb, .int .i64 xc, .int .i64 cl, .int .i64 sq, .int .i64 op, .string kk, .string vv, .string oo] 47)).alloc (.cells #[.int .i64 xa, .int .i64 xb, .int .i64 xc] 3)) := ((Below.refl _ _).alloc (Nat.le_refl _) _).alloc (by simp) _
            have hzt : ((wr.alloc (.cells #[.int .i64 kd, .int .i64 xa, .int .i64 xb, .int .i64 xc, .int .i64 cl, .int .i64 sq, .int .i64 op, .string kk, .string vv, .string oo] 47)).alloc (.cells #[.int .i64 xa, .int .i64 xb, .int .i64 xc] 3)).heap.size = wr.heap.size + 2 := by simp
            generalize ((wr.alloc (.cells #[.int .i64 kd, .int .i64 xa, .int .i64 xb, .int .i64 xc, .int .i64 cl, .int .i64 sq, .int .i64 op, .string kk, .string vv, .string oo] 47)).alloc (.cells #[.int .i64 xa, .int .i64 xb, .int .i64 xc] 3)) = w10 at *
            have HO10 : Hid (Own w10 (w1.heap.size + 1) _ LK) := HO.out.below hbt
            have HB10 : Hid (Below w1.heap.size w1 w10) := HB.out.trans (hbt.mono (by omega))
            clear hbt HO HB b7 HRc
            have hl1 : wr.heap.size < w10.heap.size := by omega
            have hl2 : wr.heap.size + 1 < w10.heap.size := by omega
            have hcn : (cn : Int) ≤ 3 := by omega
            go_cut [8] from 89 to 97 (fun s8 wx => s8 = .string (sOf SL) ∧ Below w10.heap.size w10 wx)
            case first =>
              go_region_with (first
                | (go_at_call 16; refine (HWd.out _).mono ?_; rintro e w11 ⟨rfl, hb11⟩; have r0 : w11.cell? ⟨wr.heap.size, 0, none⟩ = some (.int .i64 kd) := (hb11.cell (p := ⟨wr.heap.size, 0, none⟩) hl1).trans d0; have r1 : w11.cell? ⟨wr.heap.size + 1, 0, none⟩ = some (.int .i64 xa) := (hb11.cell (p := ⟨wr.heap.size + 1, 0, none⟩) hl2).trans t0; have r2 : w11.cell? ⟨wr.heap.size + 1, 1, none⟩ = some (.int .i64 xb) := (hb11.cell (p := ⟨wr.heap.size + 1, 1, none⟩) hl2).trans t1; have r3 : w11.cell? ⟨wr.heap.size + 1, 2, none⟩ = some (.int .i64 xc) := (hb11.cell (p := ⟨wr.heap.size + 1, 2, none⟩) hl2).trans t2)
                | (go_at_call 17; refine (HCt.out _).mono ?_; rintro e w' ⟨rfl, rfl⟩)
                | (go_at_call 13; refine (HTl.out _ _ r1 r2 r3).mono ?_; rintro e w12 ⟨rfl, hb12⟩))
              all_goals go_wp2_with fail
              all_goals (try go_simp)
              all_goals go_meet
              all_goals refine ⟨(by first | rfl | simp [Act.put]), ?_⟩
              all_goals exact ((Below.refl _ _).drew.trans hb11).trans (hb12.mono (by have := hb11.size; simpa using this))
            case rest =>
              obtain ⟨h8, hbx⟩ := hcut
              rw [h8]
              have ho8 := HO10.out.below hbx
              have hz8 := hbx.size
              have HB8 : Hid (Below w1.heap.size w1 wc) := HB10.out.trans (hbx.mono (by omega))
              clear h8 hbx HO10 HB10 d0 t0 t1 t2
              go_wp2_with (go_at_call 12; refine (HBy.out _ _ ho8 (by omega)).mono ?_; rintro e w9 ⟨v9, rfl, ho9, hg9⟩; have HB9 : Hid (Below w1.heap.size w1 w9) := HB8.out.trans ((hg9.below ho8 (by omega)).mono (by omega)); have hz9 := hg9.g.size)
              go_roundw
              case rel => exact ⟨k + 1, by omega, by go_num, by rw [← HLN.out]; exact ho9, HN.out trivial, HB9.out, by omega⟩
              case measure => simp [intOf]; omega
        · obtain rfl : k = ss.length := by omega
          rw [List.take_length] at HO HAl hlk
          have hLen : (bL (T3 ++ stepsL ss)).length = TL.length := by rw [bL_len, HTL3.out]
          have hTLl : TL.length ≤ 5000000 := by rw [HTL3.out]; simp; omega
          obtain ⟨av, cv, hv4⟩ := HO.out.shape
          rw [hLen] at hv4
          have hbs := HO.out.bs (by rw [hLen]; simp [maxLen]; omega)
          rw [hv4] at hbs
          have hpos : 0 < (bL (T3 ++ stepsL ss)).length := by rw [hLen, HTL3.out, List.length_append]; omega
          have hcv := conv_bsS hbs hpos
          rw [nums_bL, ← HTL3.out] at hcv
          subst hv4
          by_cases hbig : TL.length ≤ 65536
          · have hbig' : ¬ (65536 : Int) < (TL.length : Int) := by omega
            go_wp2
            go_ret
            exact ⟨by rw [HA.out, HAl.out, decide_eq_true hbig]; rfl, HB1.out.trans (HB.out.mono (by omega))⟩
          · have hbig' : (65536 : Int) < (TL.length : Int) := by omega
            go_wp2
            go_ret
            exact ⟨by rw [HA.out, HAl.out, decide_eq_false hbig]; rfl, HB1.out.trans (HB.out.mono (by omega))⟩
end Go.Proofs.YtabnanmfojppjaaDoor
