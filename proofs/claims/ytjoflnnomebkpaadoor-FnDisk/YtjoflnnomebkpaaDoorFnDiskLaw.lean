/-
  The walk of the law FnDisk.
-/
import Derived.Test.YtjoflnnomebkpaaDoorDkPure
import Derived.Test.YtjoflnnomebkpaaDoorSameB
namespace Go.Proofs.YtjoflnnomebkpaaDoor
open Go.RowKit
set_option linter.unusedVariables false
set_option linter.unusedSimpArgs false

/-- a disk in a block of its own, its bytes behind it -/
def CurAt (w wr : World) (b : Nat) (c y : Int) (L : List Int) : Prop := ∃ ca cc, Blk wr b #[.int .i64 c, .int .i64 y, .slice ca L.length cc] 24 ∧ Own wr w.heap.size (.slice ca L.length cc) L ∧ w.heap.size ≤ b
theorem fld0 (x0 x1 x2 x3 : Value) (u : World) : Sem.run Tryd.prog (Instr.field 29 (.agg #[x0, x1, x2, x3]) 0) u = .ok x0 u := by
  simp [Instr.field, go_sem, asAgg]
theorem below_drewD (B : Nat) (w : World) (k : Nat) : Below B w (w.drewN k) := ⟨rfl, rfl, rfl, Nat.le_refl _, fun _ _ => rfl⟩

set_option maxHeartbeats 16000000 in
set_option maxRecDepth 100000 in
theorem lawDisk_walk (v1 : Value) (l1 : List Int) (v2 : Value) (l2 : List Int) (w : World) (h1 : Bs w v1 l1) (h2 : Bs w v2 l2) (A A2 : Addr) (hS : Sents2 w A A2) :
    Calls Tryd.prog 3 #[v1, v2] w fun e w' => e = .returned (.bool true) ∧ Below w.heap.size w w' := by
  have H1 : Hid (Bs w v1 l1) := h1
  have H2 : Hid (Bs w v2 l2) := h2
  have HS : Hid (Sents2 w A A2) := hS
  obtain ⟨m1, _, a1, cap1, rfl, _⟩ := h1
  obtain ⟨m2, _, a2, cap2, rfl, _⟩ := h2
  unfold maxLen at m1 m2
  clear hS
  by_cases hl1 : (1048576 : Int) < l1.length
  · go_enter Tryd.func3, Tryd.ntmps3
    go_wp2
    go_ret
    exact ⟨rfl, Below.refl _ _⟩
  by_cases hl2 : (1048576 : Int) < l2.length
  · go_enter Tryd.func3, Tryd.ntmps3
    go_wp2
    go_ret
    exact ⟨rfl, Below.refl _ _⟩
  have HDW : Hid (∀ u : World, Below w.heap.size w u → Calls Tryd.prog 8 #[.slice a1 l1.length cap1] u fun r w' => ∃ da dc ra rc, r = .returned (.tuple #[.agg #[.int .i64 (dwCap l1 (min l1.length 400)), .int .i64 (dkA l1 0 (min l1.length 400)).2.1, .slice da (dkL l1 0 (min l1.length 400)).length dc], .slice ra (dwR l1 (min l1.length 400)).1.length rc]) ∧ Own w' u.heap.size (.slice da (dkL l1 0 (min l1.length 400)).length dc) (dkL l1 0 (min l1.length 400)) ∧ OwnR w' u.heap.size (.slice ra (dwR l1 (min l1.length 400)).1.length rc) (dwR l1 (min l1.length 400)).1 ∧ Below u.heap.size u w') := fun u hu => drawDiskWrite_any a1 cap1 l1 u (H1.out.below hu) (by omega)
  have HDC : Hid (∀ u : World, Below w.heap.size w u → Calls Tryd.prog 10 #[.slice a2 l2.length cap2] u fun r w' => ∃ (c y kp : Int) (dv : Value), r = .returned (.tuple #[.agg #[.int .i64 c, .int .i64 y, dv], .int .i64 kp]) ∧ (∃ da n dc, dv = .slice da n dc) ∧ -4 ≤ kp ∧ kp ≤ 120 ∧ Below u.heap.size u w') := fun u hu => drawDiskCrash_any a2 cap2 l2 u (H2.out.below hu) (by omega)
  have hm : (min l1.length 400) ≤ 400 := Nat.min_le_right _ _
  have hld := dkL_len l1 0 (min l1.length 400) hm
  have hkd := dkA_k l1 0 (min l1.length 400) hm
  have hrs : (dwR l1 (min l1.length 400)).1.length ≤ 720 ∧ (∀ r ∈ (dwR l1 (min l1.length 400)).1, r.e.fits) ∧ (dwR l1 (min l1.length 400)).2 ≤ (dkA l1 0 (min l1.length 400)).2.2 + 1300 := recsD_ok l1 (dkA l1 0 (min l1.length 400)).2.2 (min l1.length 400) hm
  have hrl := hrs.1
  have HRF : Hid (∀ r ∈ (dwR l1 (min l1.length 400)).1, r.e.fits) := hrs.2.1
  clear hrs hkd hm
  generalize dwCap l1 (min l1.length 400) = C0 at *
  generalize (dkA l1 0 (min l1.length 400)).2.1 = Y0 at *
  generalize dkL l1 0 (min l1.length 400) = D0 at *
  generalize (dwR l1 (min l1.length 400)).1 = RS at *
  obtain ⟨n0, hn0⟩ : ∃ n0, n0 = D0.length := ⟨_, rfl⟩
  rw [← hn0] at HDW hld
  have HN0 : Hid (n0 = D0.length) := hn0
  clear hn0
  obtain ⟨rn, hrn⟩ : ∃ rn, rn = RS.length := ⟨_, rfl⟩
  rw [← hrn] at HDW hrl
  have HRN : Hid (rn = RS.length) := hrn
  clear hrn
  have hfine := fine_eq RS (by rw [← HRN.out]; exact hrl)
  have HFI : Hid ((dwCode 1048576 0 [] RS == 0) = recsB RS) := hfine
  clear hfine
  have HSW : Hid (∀ (u : World) (c y : Int) (a : Option Addr) (cap n B : Nat) (L : List Int) (v : Value), Own u B (.slice a n cap) L → n = L.length → n ≤ 1048576 → OwnR u w.heap.size v RS → Calls Tryd.prog 9 #[.agg #[.int .i64 c, .int .i64 y, .slice a n cap], v] u fun e w' => ∃ C Y a' N cap', e = .returned (.agg #[.int .i64 (dwCode c y L RS), .int .i64 C, .int .i64 Y, .slice a' N cap']) ∧ Below u.heap.size u w') := fun u c y a cap n B L v hb hn hL ho => by
    subst hn
    exact (sDiskWrite_any c y a cap L v RS u (hb.bs (by unfold maxLen; omega)) hL (ho.sl (by rw [← HRN.out]; unfold maxLen; omega)) HRF.out).mono fun e w' ⟨a', c', h1, _, h2⟩ => ⟨_, _, _, _, _, h1, h2⟩
  have HSW1 : Hid (∀ (u : World) (v : Value), OwnR u w.heap.size v RS → Calls Tryd.prog 9 #[.agg #[.int .i64 1048576, .int .i64 0, .slice none 0 0], v] u fun e w' => ∃ C Y a' N cap', e = .returned (.agg #[.int .i64 (dwCode 1048576 0 [] RS), .int .i64 C, .int .i64 Y, .slice a' N cap']) ∧ Below u.heap.size u w') := fun u v ho => HSW.out u 1048576 0 none 0 0 0 [] v (Own.nil _ _) rfl (by omega) ho
  have hfl := fld0
  have A0 : True := trivial
  have A3 : True := trivial
  go_enter Tryd.func3, Tryd.ntmps3
  go_upto_if 37 with (first
    | (go_at_call 8; clear A0; refine (HDW.out _ (Below.refl _ _)).mono ?_; rintro r w1 ⟨da1, dc1, ra1, rc1, rfl, ho1, hr1, hb1⟩; have HB1 : Hid (Below w.heap.size w (w1.alloc (.cells #[.int .i64 C0, .int .i64 Y0, .slice da1 n0 dc1] 24))) := hb1.alloc hb1.size _; have HO1 : Hid (Own (w1.alloc (.cells #[.int .i64 C0, .int .i64 Y0, .slice da1 n0 dc1] 24)) w.heap.size (.slice da1 n0 dc1) D0) := ho1.below ((Below.refl _ _).alloc (Nat.le_refl _) _); have HR1 : Hid (OwnR (w1.alloc (.cells #[.int .i64 C0, .int .i64 Y0, .slice da1 n0 dc1] 24)) w.heap.size (.slice ra1 rn rc1) RS) := hr1.below ((Below.refl _ _).alloc (Nat.le_refl _) _); clear ho1 hr1 hb1)
    | (go_at_call 9; refine (HSW.out _ C0 Y0 da1 dc1 n0 _ D0 _ HO1.out HN0.out (by omega) HR1.out).mono ?_; rintro r w2 ⟨xC, xY, xa, xn, xc, rfl, hb2⟩; have HB2 : Hid (Below w.heap.size w w2) := HB1.out.trans (hb2.mono HB1.out.size); have HR2 : Hid (OwnR w2 w.heap.size (.slice ra1 rn rc1) RS) := HR1.out.below hb2; clear hb2))
  cases hdk : diskB C0 Y0 D0.length
  · have hc1 : (dwCode C0 Y0 D0 RS == 1) = true := by simp [dwCode, hdk]
    go_wp2_with fail
    go_ret
    exact ⟨rfl, HB2.out⟩
  · have hc1 : (dwCode C0 Y0 D0 RS == 1) = false := by
      cases ht : takeB C0 D0 RS
      · rcases (dw_false hdk ht).1 with e | e <;> rw [e] <;> rfl
      · rw [(dw_true hdk ht).1]; rfl
    have HDK : Hid (diskB C0 Y0 D0.length = true) := hdk
    clear hdk
    generalize dwCode C0 Y0 D0 RS = cd0 at *
    obtain ⟨fi, hfi⟩ : ∃ fi, fi = recsB RS := ⟨_, rfl⟩
    rw [← hfi] at HFI
    have HFB : Hid (fi = recsB RS) := hfi
    clear hfi
    generalize dwCode 1048576 0 [] RS = cd1 at *
    have hff := HFI.out
    go_upto_region 7 with (go_at_call 10; refine (HDC.out _ HB2.out).mono ?_; rintro r w3 ⟨c3, y3, kp, dv3, rfl, ⟨da9, dn9, dc9, rfl⟩, hk1, hk2, hb3⟩; have HB3 : Hid (Below w.heap.size w (w3.alloc (.cells #[.int .i64 c3, .int .i64 y3, .slice da9 dn9 dc9] 24))) := (HB2.out.trans (hb3.mono HB2.out.size)).alloc (Nat.le_trans HB2.out.size hb3.size) _; have HR3 : Hid (OwnR (w3.alloc (.cells #[.int .i64 c3, .int .i64 y3, .slice da9 dn9 dc9] 24)) w.heap.size (.slice ra1 rn rc1) RS) := (HR2.out.below hb3).below ((Below.refl _ _).alloc (Nat.le_refl _) _); clear hb3)
    go_cut [9] (fun s9 wx => s9 = .bool fi ∧ Below w.heap.size w wx)
    case first =>
      go_wp2_with (go_at_call 9; refine (HSW1.out _ _ HR3.out).mono ?_; rintro r w4 ⟨xC2, xY2, xa2, xn2, xc2, rfl, hb4⟩; have HB4 : Hid (Below w.heap.size w w4) := HB3.out.trans (hb4.mono HB3.out.size); clear hb4)
      go_meet
      exact ⟨rfl, HB4.out⟩
    case rest =>
     obtain ⟨rfl, hb4⟩ := hcut
     have HB4 : Hid (Below w.heap.size w wc) := hb4
     clear hb4 hff HB3 HR3 HB2 HR2 HB1 HO1 HR1
     obtain ⟨fr, hfr⟩ : ∃ fr, fr = fi := ⟨_, rfl⟩
     rw [← hfr]
     have HFR : Hid (fr = recsB RS) := hfr.trans HFB.out
     clear hfr
     go_wp2_with (go_at_call 8; refine (HDW.out _ HB4.out).mono ?_; rintro r w5 ⟨da3, dc3, ra3, rc3, rfl, ho5, _, hb5⟩; have HB5 : Hid (Below w.heap.size w (w5.alloc (.cells #[.int .i64 C0, .int .i64 Y0, .slice da3 n0 dc3] 24))) := (HB4.out.trans (hb5.mono HB4.out.size)).alloc (Nat.le_trans HB4.out.size hb5.size) _; have HC5 : Hid (CurAt w (w5.alloc (.cells #[.int .i64 C0, .int .i64 Y0, .slice da3 n0 dc3] 24)) w5.heap.size C0 Y0 D0) := ⟨da3, dc3, by rw [← HN0.out]; exact Blk.new _ _ _, by rw [← HN0.out]; exact (ho5.le HB4.out.size).below ((Below.refl _ _).alloc (Nat.le_refl _) _), Nat.le_trans HB4.out.size hb5.size⟩; clear ho5 hb5)
     go_loopw [12] (fun iv wr => ∃ (i : Nat) (C Y : Int) (L : List Int), i ≤ 3 ∧ iv = .int .i64 i ∧ CurAt w wr w5.heap.size C Y L ∧ diskB C Y L.length = true ∧ Below w.heap.size w wr) (fun i _ => 3 - (intOf i).toNat)
     case atStart => exact ⟨0, C0, Y0, D0, by omega, rfl, HC5.out, HDK.out, HB5.out⟩
     case round =>
       obtain ⟨i, C, Y, L, hi, rfl, ⟨ca, cc, hbk, how, hbw⟩, hdk, hbl⟩ := hrel
       clear HB5 HC5 HDC HSW HSW1 HFI HDK
       by_cases hlt : i < 3
       · have hlt' : (i : Int) < 3 := by omega
         have hrg := diskB_rng hdk
         obtain ⟨hg1, hg2, hg3, hg4, hg5⟩ := hrg
         have haok := how.aok rfl
         obtain ⟨n, hn⟩ : ∃ n, n = L.length := ⟨_, rfl⟩
         rw [← hn] at hbk how hg3 hg5 haok
         have HN : Hid (n = L.length) := hn
         clear hn
         have HBK : Hid (Blk wr w5.heap.size #[.int .i64 C, .int .i64 Y, .slice ca n cc] 24) := hbk
         have HOW : Hid (Own wr w.heap.size (.slice ca n cc) L) := how
         have HBL : Hid (Below w.heap.size w wr) := hbl
         have HDKr : Hid (diskB C Y L.length = true) := hdk
         clear hbk how hbl hdk
         have hzb := HBK.out.lt
         obtain ⟨fn, hfn⟩ : ∃ fn, fn = (encRecs RS).length := ⟨_, rfl⟩
         have HFN : Hid (fn = (encRecs RS).length) := hfn
         have hfnl := encRecs_len7 RS (by rw [← HRN.out]; exact hrl)
         rw [← hfn] at hfnl
         clear hfn
         go_upto_region 14 with (first
           | (go_at_call 8; refine (HDW.out _ HBL.out).mono ?_; rintro r w6 ⟨da6, dc6, ra6, rc6, rfl, _, hr6, hb6⟩; have HB6 : Hid (Below wr.heap.size wr (w6.alloc (.cells #[.int .i64 C0, .int .i64 Y0, .slice da6 n0 dc6] 24))) := hb6.alloc hb6.size _; have HR6 : Hid (OwnR (w6.alloc (.cells #[.int .i64 C0, .int .i64 Y0, .slice da6 n0 dc6] 24)) w.heap.size (.slice ra6 rn rc6) RS) := (hr6.le HBL.out.size).below ((Below.refl _ _).alloc (Nat.le_refl _) _); clear hr6 hb6)
           | (go_at_call 11; refine (encodeRecords_any _ RS _ (HR6.out.sl (by rw [← HRN.out]; unfold maxLen; omega)) HRF.out A (((HS.out.below HBL.out).below HB6.out).g1)).mono ?_; rintro r w7 ⟨fv, rfl, ho7, hb7⟩; obtain ⟨fa, fc, hfv⟩ := ho7.shape; rw [← HFN.out] at hfv; subst hfv; have HB7 : Hid (Below wr.heap.size wr w7) := HB6.out.trans (hb7.mono HB6.out.size); have HO7 : Hid (Own w7 w.heap.size (.slice fa fn fc) (encRecs RS)) := ho7.le (Nat.le_trans HBL.out.size HB6.out.size); have HR7 : Hid (OwnR w7 w.heap.size (.slice ra6 rn rc6) RS) := HR6.out.below hb7; clear ho7 hb7))
         clear HR6 HB6
         have hfi0 : fr = false → fn = 0 := fun h => by rw [HFN.out, enc_false (HFR.out.symm.trans h)]; rfl
         have Hfi0 : Hid (fr = false → fn = 0) := hfi0
         clear hfi0
         have hdwd := dwL_disk (rs := RS) HDKr.out
         have HDWd : Hid (dwC C Y L = C ∧ dwY C Y L = Y ∧ diskB C Y (dwL C Y L RS).length = true) := hdwd
         have HDWi : Hid (∀ u : World, Below wr.heap.size wr u → OwnR u w.heap.size (.slice ra6 rn rc6) RS → Calls Tryd.prog 12 #[.agg #[.int .i64 C, .int .i64 Y, .slice ca n cc], .slice ra6 rn rc6] u fun e w' => ∃ a' cap', e = .returned (.agg #[.int .i64 (dwCode C Y L RS), .int .i64 C, .int .i64 Y, .slice a' (dwL C Y L RS).length cap']) ∧ Own w' u.heap.size (.slice a' (dwL C Y L RS).length cap') (dwL C Y L RS) ∧ Below u.heap.size u w') := fun u hu hr => by
           have hx := diskWrite_gen C Y ca cc L (.slice ra6 rn rc6) RS u (by rw [← HN.out]; exact (HOW.out.below hu).bs (by rw [← HN.out]; unfold maxLen; omega)) (by rw [← HN.out]; exact haok.2) (by rw [← HN.out]; omega) (hr.sl (by rw [← HRN.out]; unfold maxLen; omega)) HRF.out A A2 ((HS.out.below HBL.out).below hu) haok.1
           rw [← HN.out, HDWd.out.1, HDWd.out.2.1] at hx
           exact hx
         clear hdwd
         have HCd : Hid ((dwCode C Y L RS == 0) = (fr && decide ((n : Int) + (fn : Int) ≤ C)) ∧ (dwCode C Y L RS = 0 → dwL C Y L RS = L ++ encRecs RS) ∧ (dwCode C Y L RS ≠ 0 → dwL C Y L RS = L)) := by
           have htk : takeB C L RS = (fr && decide ((n : Int) + (fn : Int) ≤ C)) := by
             unfold takeB
             rw [HFR.out, HN.out, HFN.out]
             simp
           show _ ∧ _ ∧ _
           rw [← htk]
           cases ht : takeB C L RS
           · have hf := dw_false HDKr.out ht
             refine ⟨by rcases hf.1 with e | e <;> rw [e] <;> rfl, fun h => ?_, fun _ => hf.2⟩
             rcases hf.1 with e | e <;> rw [e] at h <;> cases h
           · have hf := dw_true HDKr.out ht
             exact ⟨by rw [hf.1]; rfl, fun _ => hf.2, fun h => absurd hf.1 h⟩
         generalize dwCode C Y L RS = cd at *
         obtain ⟨L', hL'⟩ : ∃ L', L' = dwL C Y L RS := ⟨_, rfl⟩
         rw [← hL'] at HDWi HCd HDWd
         clear hL'
         obtain ⟨n', hn'⟩ : ∃ n', n' = L'.length := ⟨_, rfl⟩
         rw [← hn'] at HDWi HDWd
         have HN' : Hid (n' = L'.length) := hn'
         clear hn'
         have hrg' := diskB_rng HDWd.out.2.2
         obtain ⟨hg1', hg2', hg3', hg4', hg5'⟩ := hrg'
         have hcd := HCd.out.1
         have Hcd : Hid ((cd == 0) = (fr && decide ((n : Int) + (fn : Int) ≤ C))) := hcd
         clear hcd
         go_cut [70] (fun s70 wx => s70 = .bool false ∧ wx = w7)
         case first =>
           rcases Bool.eq_false_or_eq_true fr with hfi | hfi
           · have hnf : (!fr) = false := by rw [hfi]; rfl
             clear hfi
             go_wp2_with fail
             go_meet
             exact ⟨rfl, rfl⟩
           · have hfn0 := Hfi0.out hfi
             have hfn1 : ((fn : Int) != 0) = false := by rw [hfn0]; rfl
             have hnf : (!fr) = true := by rw [hfi]; rfl
             clear hfn0 hfi
             go_wp2_with fail
             go_meet
             exact ⟨rfl, rfl⟩
         case rest =>
           obtain ⟨rfl, rfl⟩ := hcut
           have BC7 : Hid (Blk wc w5.heap.size #[.int .i64 C, .int .i64 Y, .slice ca n cc] 24) := HBK.out.below HB7.out hzb
           have ce7 := BC7.out.cell
           go_upto_region 18 with (go_at_call 12; refine (HDWi.out _ HB7.out HR7.out).mono ?_; rintro r w8 ⟨ya, yc, rfl, ho8, hb8⟩; have hz8 : w5.heap.size < w8.heap.size := (by have := BC7.out.lt; have := hb8.size; omega); have HB8 : Hid (Below wr.heap.size wr (w8.alloc (.cells #[.int .i64 cd, .int .i64 C, .int .i64 Y, .slice ya n' yc] 29))) := (HB7.out.trans (hb8.mono HB7.out.size)).alloc (Nat.le_trans HB7.out.size hb8.size) _; have HY8 : Hid (Own (w8.alloc (.cells #[.int .i64 cd, .int .i64 C, .int .i64 Y, .slice ya n' yc] 29)) w.heap.size (.slice ya n' yc) L') := (ho8.le (Nat.le_trans HBL.out.size HB7.out.size)).below ((Below.refl _ _).alloc (Nat.le_refl _) _); have HF8 : Hid (Own (w8.alloc (.cells #[.int .i64 cd, .int .i64 C, .int .i64 Y, .slice ya n' yc] 29)) w.heap.size (.slice fa fn fc) (encRecs RS)) := (HO7.out.below hb8).below ((Below.refl _ _).alloc (Nat.le_refl _) _); have ce8 : w8.cell? ⟨w5.heap.size, 2, none⟩ = some (.slice ca n cc) := (BC7.out.below hb8 BC7.out.lt).cell 2; have ce80 : w8.cell? ⟨w5.heap.size, 0, none⟩ = some (.int .i64 C) := (BC7.out.below hb8 BC7.out.lt).cell 0; clear ho8 hb8)
           obtain ⟨W8, hW8⟩ : ∃ W8, W8 = (w8.alloc (.cells #[.int .i64 cd, .int .i64 C, .int .i64 Y, .slice ya n' yc] 29)) := ⟨_, rfl⟩
           have BA8 : Hid (Blk W8 w8.heap.size #[.int .i64 cd, .int .i64 C, .int .i64 Y, .slice ya n' yc] 29) := by rw [hW8]; exact Blk.new _ _ _
           rw [← hW8] at HB8 HY8 HF8 ⊢
           clear hW8 ce7 ce8 ce80
           have BC8 : Hid (Blk W8 w5.heap.size #[.int .i64 C, .int .i64 Y, .slice ca n cc] 24) := HBK.out.below HB8.out hzb
           have HO8 : Hid (Own W8 w.heap.size (.slice ca n cc) L) := HOW.out.below HB8.out
           have HBW8 : Hid (Below w.heap.size w W8) := HBL.out.trans (HB8.out.mono HBL.out.size)
           clear HB8 HB7 BC7 HBK HOW HO7 HR7
           have ca8 := BA8.out.cell
           have cc8 := BC8.out.cell
           have hza := BA8.out.lt
           have hzc := BC8.out.lt
           go_cut [9, 17, 106] (fun s9 s17 s106 wx => s9 = .bool fr ∧ s106 = .bool false ∧ wx = W8)
           case first =>
             rcases Bool.eq_false_or_eq_true fr with hfi | hfi
             · cases hrm : decide ((n : Int) + (fn : Int) ≤ C)
               · have hcd0 : (cd == 0) = false := by rw [Hcd.out, hrm]; simp
                 go_wp2_with fail
                 go_meet
                 exact ⟨by rw [hfi], rfl, rfl⟩
               · have hcd0 : (cd == 0) = true := by rw [Hcd.out, hrm, hfi]; rfl
                 go_wp2_with fail
                 go_meet
                 exact ⟨by rw [hfi], rfl, rfl⟩
             · have hcd0 : (cd == 0) = false := by rw [Hcd.out, hfi]; rfl
               go_wp2_with fail
               go_meet
               exact ⟨by rw [hfi], rfl, rfl⟩
           case rest =>
             obtain ⟨rfl, rfl, rfl⟩ := hcut
             obtain ⟨W9, hW9⟩ : ∃ W9, W9 = wc := ⟨_, rfl⟩
             subst hW9
             go_upto_region 20 with fail
             go_cut [18] (fun s18 wx => Own wx W9.heap.size s18 L ∧ Below W9.heap.size W9 wx)
             case first =>
               have hlit : Own (W9.alloc (.cells #[] 5)) W9.heap.size (.slice (some ⟨W9.heap.size, 0, none⟩) 0 0) [] := Own.lit0 W9
               rcases haok.1 with ⟨rfl, rfl⟩ | ⟨b9, off9, rfl⟩
               · have hL0 : L = [] := List.eq_nil_of_length_eq_zero (by have := HN.out; have := haok.2; omega)
                 have hn0 : n = 0 := by have := haok.2; omega
                 subst hL0 hn0
                 go_wp2_with fail
                 go_meet
                 exact ⟨hlit, (Below.refl _ _).alloc (Nat.le_refl _) _⟩
               · have hbs : Bs (W9.alloc (.cells #[] 5)) (.slice (some ⟨b9, off9, none⟩) L.length cc) L := by rw [← HN.out]; exact (HO8.out.below ((Below.refl _ _).alloc (Nat.le_refl _) _)).bs (by rw [← HN.out]; unfold maxLen; omega)
                 have HBS : Hid (Bs (W9.alloc (.cells #[] 5)) (.slice (some ⟨b9, off9, none⟩) L.length cc) L) := hbs
                 have HLT : Hid (Own (W9.alloc (.cells #[] 5)) W9.heap.size (.slice (some ⟨W9.heap.size, 0, none⟩) 0 0) []) := hlit
                 clear hbs hlit
                 go_wp2_with (at_builtin; refine wpl_append_at rfl (.tmp 107) (.tmp 109) rfl HLT.out rfl HBS.out (by rw [← HN.out]; rfl) (by rw [← HN.out]; simp; omega) (by simp) ?_; intro v9 w9 ho9 hg9; have HO9 : Hid (Own w9 W9.heap.size v9 ([] ++ L)) := ho9; have HB9 : Hid (Below W9.heap.size W9 w9) := ((Below.refl _ _).alloc (Nat.le_refl _) _).trans (hg9.below HLT.out (by simp)); clear ho9 hg9)
                 go_meet
                 exact ⟨HO9.out, HB9.out⟩
             case rest =>
               obtain ⟨hwh, hbx⟩ := hcut
               have HWh : Hid (Own wc W9.heap.size u18 L) := hwh
               have HBx : Hid (Below W9.heap.size W9 wc) := hbx
               clear hwh hbx
               have ca9 := (BA8.out.below HBx.out hza).cell
               clear ca8 cc8
               go_upto_if 113 with fail
               go_cut [18] (fun s18 wx => Own wx W9.heap.size s18 L' ∧ Below W9.heap.size W9 wx)
               case first =>
                 by_cases hcd : cd = 0
                 · have hcd0 : (cd == 0) = true := by rw [hcd]; rfl
                   have hL' := HCd.out.2.1 hcd
                   have HL' : Hid (L' = L ++ encRecs RS) := hL'
                   clear hL' hcd
                   have HFc : Hid (Own wc w.heap.size (.slice fa fn fc) (encRecs RS)) := HF8.out.below HBx.out
                   obtain ⟨ha, hc, hv⟩ := HWh.out.shape
                   rw [← HN.out] at hv
                   subst hv
                   have hcap := (HWh.out.aok HN.out).2
                   rw [← HN.out] at hcap
                   have hzz := HBx.out.size
                   rcases (HFc.out.aok HFN.out).1 with ⟨hfa, hfc⟩ | ⟨b9, off9, hfa⟩
                   · have hfn0 : fn = 0 := by have := (HFc.out.aok HFN.out).2; have := HFN.out; omega
                     have hen : encRecs RS = [] := List.eq_nil_of_length_eq_zero (by rw [← HFN.out]; exact hfn0)
                     have HEN : Hid (encRecs RS = []) := hen
                     clear hen
                     subst hfa hfn0 hfc
                     cases ha with
                     | none =>
                       go_wp2_with fail
                       go_meet
                       exact ⟨by rw [HL'.out, HEN.out, List.append_nil]; exact HWh.out, HBx.out⟩
                     | some had =>
                       go_wp2_with fail
                       go_meet
                       exact ⟨by rw [HL'.out, HEN.out, List.append_nil]; exact HWh.out, HBx.out⟩
                   · subst hfa
                     have HFb : Hid (Bs wc (.slice (some ⟨b9, off9, none⟩) (encRecs RS).length fc) (encRecs RS)) := (by rw [← HFN.out]; exact HFc.out.bs (by rw [← HFN.out]; unfold maxLen; omega) : Bs wc (.slice (some ⟨b9, off9, none⟩) (encRecs RS).length fc) (encRecs RS))
                     go_wp2_with (at_builtin; refine wpl_append_at rfl (.tmp 114) (.tmp 115) rfl HWh.out rfl HFb.out (by rw [← HFN.out]; rfl) (by rw [← HFN.out, ← HN.out]; omega) hzz ?_; intro v9 w9 ho9 hg9; have HO9 : Hid (Own w9 W9.heap.size v9 (L ++ encRecs RS)) := ho9; have HB9 : Hid (Below W9.heap.size W9 w9) := HBx.out.trans (hg9.below HWh.out hzz); clear ho9 hg9)
                     go_meet
                     exact ⟨by rw [HL'.out]; exact HO9.out, HB9.out⟩
                 · have hcd0 : (cd == 0) = false := by simpa using hcd
                   have hL' := HCd.out.2.2 hcd
                   have HL' : Hid (L' = L) := hL'
                   clear hL' hcd
                   go_wp2_with fail
                   go_meet
                   exact ⟨by rw [HL'.out]; exact HWh.out, HBx.out⟩
               case rest =>
                 obtain ⟨hwh, hbx⟩ := hcut
                 have HWh2 : Hid (Own wc W9.heap.size u18 L') := hwh
                 have HBx2 : Hid (Below W9.heap.size W9 wc) := hbx
                 clear hwh hbx HWh HBx ca9 HCd Hcd Hfi0 HDWi
                 obtain ⟨W11, hW11⟩ : ∃ W11, W11 = wc := ⟨_, rfl⟩
                 subst hW11
                 obtain ⟨ha, hc, hv⟩ := HWh2.out.shape
                 rw [← HN'.out] at hv
                 subst hv
                 have hcap := (HWh2.out.aok HN'.out).2
                 rw [← HN'.out] at hcap
                 have BA11 : Hid (Blk W11 w8.heap.size #[.int .i64 cd, .int .i64 C, .int .i64 Y, .slice ya n' yc] 29) := BA8.out.below HBx2.out hza
                 have BC11 : Hid (Blk W11 w5.heap.size #[.int .i64 C, .int .i64 Y, .slice ca n cc] 24) := BC8.out.below HBx2.out hzc
                 have HY11 : Hid (Own W11 w.heap.size (.slice ya n' yc) L') := HY8.out.below HBx2.out
                 have HBW11 : Hid (Below w.heap.size w W11) := HBW8.out.trans (HBx2.out.mono HBW8.out.size)
                 have hyc := HY11.out.aok HN'.out
                 have hyc2 := hyc.2
                 rw [← HN'.out] at hyc2
                 have hzw : w.heap.size ≤ W9.heap.size := HBW8.out.size
                 have hbw5 : w.heap.size ≤ w5.heap.size := hbw
                 clear BA8 BC8 HY8 HF8 HO8 HBW8
                 have hcr := crash_ok (l := L') kp (by rw [← HN'.out]; exact HDWd.out.2.2)
                 obtain ⟨L3, hL3⟩ : ∃ L3, L3 = L'.take (crashN Y L'.length kp) := ⟨_, rfl⟩
                 have hl3 : L3.length = crashN Y L'.length kp := by rw [hL3, List.length_take]; omega
                 obtain ⟨n3, hn3⟩ : ∃ n3, n3 = L3.length := ⟨_, rfl⟩
                 have HN3 : Hid (n3 = L3.length) := hn3
                 have hn3a : n3 ≤ n' := by rw [hn3, hl3, HN'.out]; exact hcr.2.2.2.1
                 have hn3b : Y ≤ (n3 : Int) := by rw [hn3, hl3]; exact hcr.2.2.2.2.1
                 have HD3 : Hid (diskB C Y L3.length = true) := by rw [hL3]; exact hcr.2.2.2.2.2
                 have HT3 : Hid (L3 = L'.take n3) := (by rw [hn3, hl3]; exact hL3 : L3 = L'.take n3)
                 have HCr : Hid (∀ u : World, Own u w.heap.size (.slice ya n' yc) L' → Calls Tryd.prog 14 #[.agg #[.int .i64 C, .int .i64 Y, .slice ya n' yc], .int .i64 kp] u fun e w' => ∃ a2 c2, e = .returned (.agg #[.int .i64 C, .int .i64 Y, .slice a2 n3 c2]) ∧ Own w' u.heap.size (.slice a2 n3 c2) L3 ∧ Below u.heap.size u w') := fun u hu => by
                   have hx := diskCrash_gen C Y ya yc L' kp u (by rw [← HN'.out]; exact hu.bs (by rw [← HN'.out]; unfold maxLen; omega)) (by rw [← HN'.out]; exact hyc2) (by rw [← HN'.out]; omega) (by omega) (by omega) hyc.1
                   rw [hcr.1, hcr.2.1, hcr.2.2.1, ← hL3, ← HN'.out] at hx
                   unfold DiskAt at hx
                   rw [← hn3] at hx
                   exact hx
                 have hsy := sync_ok (l := L') (by rw [← HN'.out]; exact HDWd.out.2.2)
                 have HDS : Hid (diskB C (n' : Int) L'.length = true) := (by rw [HN'.out]; exact hsy.2.2.2 : diskB C (n' : Int) L'.length = true)
                 have HSy : Hid (∀ u : World, Own u w.heap.size (.slice ya n' yc) L' → Calls Tryd.prog 15 #[.agg #[.int .i64 C, .int .i64 Y, .slice ya n' yc]] u fun e w' => ∃ a2 c2, e = .returned (.agg #[.int .i64 C, .int .i64 n', .slice a2 n' c2]) ∧ Own w' u.heap.size (.slice a2 n' c2) L' ∧ Below u.heap.size u w') := fun u hu => by
                   have hx := diskSync_gen C Y ya yc L' u (by rw [← HN'.out]; exact hu.bs (by rw [← HN'.out]; unfold maxLen; omega)) (by rw [← HN'.out]; exact hyc2) (by rw [← HN'.out]; omega) hyc.1
                   unfold DiskAt at hx
                   rw [hsy.1, hsy.2.1, hsy.2.2.1, ← HN'.out] at hx
                   exact hx
                 clear hcr hL3 hl3 hn3 hsy
                 have hml : n' ≤ maxLen := by unfold maxLen; omega
                 have ce11 := BA11.out.cell
                 have hza11 := BA11.out.lt
                 have hzc11 := BC11.out.lt
                 go_upto_region 26 with (first
                   | (go_at_call 13; refine (sameBytes_same _ _ L' _ (HY11.out.bs (by rw [← HN'.out]; exact hml)) (HWh2.out.bs (by rw [← HN'.out]; exact hml))).mono ?_; rintro r wq ⟨rfl, mq, hwq⟩; subst hwq)
                   | (go_at_call 14; refine (HCr.out _ (HY11.out.below (below_drewD _ _ _))).mono ?_; rintro r w12 ⟨za, zc, rfl, ho12, hb12⟩; have hz12 : W11.heap.size ≤ w12.heap.size := hb12.size; have HB12 : Hid (Below W11.heap.size W11 (w12.alloc (.cells #[.int .i64 C, .int .i64 Y, .slice za n3 zc] 24))) := ((below_drewD _ _ mq).trans hb12).alloc (by have := hb12.size; exact this) _; have HO12 : Hid (Own (w12.alloc (.cells #[.int .i64 C, .int .i64 Y, .slice za n3 zc] 24)) w.heap.size (.slice za n3 zc) L3) := (ho12.le (Nat.le_trans hzw HBx2.out.size)).below ((Below.refl _ _).alloc (Nat.le_refl _) _); clear ho12 hb12))
                 obtain ⟨W13, hW13⟩ : ∃ W13, W13 = (w12.alloc (.cells #[.int .i64 C, .int .i64 Y, .slice za n3 zc] 24)) := ⟨_, rfl⟩
                 have BD13 : Hid (Blk W13 w12.heap.size #[.int .i64 C, .int .i64 Y, .slice za n3 zc] 24) := by rw [hW13]; exact Blk.new _ _ _
                 rw [← hW13] at HB12 HO12 ⊢
                 clear hW13
                 have BA13 : Hid (Blk W13 w8.heap.size #[.int .i64 cd, .int .i64 C, .int .i64 Y, .slice ya n' yc] 29) := BA11.out.below HB12.out hza11
                 have BC13 : Hid (Blk W13 w5.heap.size #[.int .i64 C, .int .i64 Y, .slice ca n cc] 24) := BC11.out.below HB12.out hzc11
                 have HY13 : Hid (Own W13 w.heap.size (.slice ya n' yc) L') := HY11.out.below HB12.out
                 have HWh13 : Hid (Own W13 W9.heap.size (.slice ha n' hc) L') := HWh2.out.below HB12.out
                 have HBW13 : Hid (Below w.heap.size w W13) := HBW11.out.trans (HB12.out.mono HBW11.out.size)
                 have hz11 : w12.heap.size < W13.heap.size := BD13.out.lt
                 have hne : w5.heap.size ≠ w12.heap.size := by omega
                 clear BA11 BC11 HY11 HWh2 HBW11 ce11 HBx2 HCr
                 have HSB : Hid (∀ m : Nat, Calls Tryd.prog 13 #[.slice za n3 zc, .slice ha n3 hc] (W13.drewN m) fun e w' => e = .returned (.bool true) ∧ ∃ k, w' = (W13.drewN m).drewN k) := fun m => by
                   have h1 : Bs (W13.drewN m) (.slice za n3 zc) L3 := (HO12.out.below (below_drewD _ _ _)).bs (by rw [← HN3.out]; omega)
                   have h2 : Bs (W13.drewN m) (.slice ha n3 hc) L3 := by
                     have h3 := ((HWh13.out.below (below_drewD _ _ m)).bs (by rw [← HN'.out]; exact hml))
                     rw [HN'.out] at h3
                     have h4 := h3.take n3 (by rw [← HN'.out]; exact hn3a)
                     rw [← HT3.out] at h4
                     exact h4
                   exact sameBytes_same _ _ L3 _ h1 h2
                 have cd13 := BD13.out.cell
                 have cc13 := BC13.out.cell
                 have hq1 : decide ((n3 : Int) < Y) = false := decide_eq_false (by omega)
                 have hq2 : ¬ (n3 : Int) < Y := by omega
                 have hq3 : n3 ≤ hc := by omega
                 have hq4 : (n3 : Int) ≤ (hc : Int) := by omega
                 go_cut [150] (fun s150 wx => s150 = .bool false ∧ ∃ k, wx = W13.drewN k)
                 case first =>
                   go_quiet ((go_at_call 13; exact Calls.quiet_of (HSB.out _)))
                   go_wp2
                   go_meet
                   exact ⟨rfl, _, rfl⟩
                 case rest =>
                   obtain ⟨rfl, kq, rfl⟩ := hcut
                   clear HSB hq1 hq2 hq3 hq4 cd13 cc13
                   have ca14 := BA13.out.cell
                   have cd14 := BD13.out.cell
                   have cc14 := BC13.out.cell
                   have fc14 := BC13.out.free
                   by_cases hi1 : i = 1
                   · have hi2 : ((i : Int) == 1) = true := by rw [hi1]; rfl
                     clear hi1
                     go_upto_region 30 with (go_at_call 15; refine (HSy.out _ (HY13.out.below (below_drewD _ _ _))).mono ?_; rintro r w14 ⟨sa, sc, rfl, ho14, hb14⟩; have hz14 : W13.heap.size ≤ w14.heap.size := hb14.size; have HB14 : Hid (Below W13.heap.size W13 w14) := (below_drewD _ _ kq).trans hb14; have HS14 : Hid (Own w14 w.heap.size (.slice sa n' sc) L') := ho14.le HBW13.out.size; have cq14 := (BC13.out.below HB14.out BC13.out.lt).cell; have fq14 := (BC13.out.below HB14.out BC13.out.lt).free; clear ho14 hb14)
                     have BC14 := BC13.out.below HB14.out BC13.out.lt
                     have e1 := BC14.set 0 (.int .i64 C)
                     have e2 := e1.set 1 (.int .i64 (n' : Int))
                     have e3 := e2.set 2 (.slice sa n' sc)
                     have o1 := own_blk HS14.out BC14 (by decide) (set_keep _ _ 0 (.int .i64 C))
                     have o2 := own_blk o1 e1 (by decide) (set_keep _ _ 1 (.int .i64 (n' : Int)))
                     have o3 := own_blk o2 e2 (by decide) (set_keep _ _ 2 (.slice sa n' sc))
                     have p0 : Own w14 W9.heap.size (.slice ha n' hc) L' := HWh13.out.below HB14.out
                     have p1 := own_blk p0 BC14 (by decide) (set_keep _ _ 0 (.int .i64 C))
                     have p2 := own_blk p1 e1 (by decide) (set_keep _ _ 1 (.int .i64 (n' : Int)))
                     have p3 := own_blk p2 e2 (by decide) (set_keep _ _ 2 (.slice sa n' sc))
                     have q3 := (((HBW13.out.trans (HB14.out.mono HBW13.out.size)).setCell (p := ⟨w5.heap.size, 0, none⟩) hbw5 (.int .i64 C)).setCell (p := ⟨w5.heap.size, 1, none⟩) hbw5 (.int .i64 (n' : Int))).setCell (p := ⟨w5.heap.size, 2, none⟩) hbw5 (.slice sa n' sc)
                     obtain ⟨U, hU⟩ : ∃ U, U = ((w14.setCell ⟨w5.heap.size, 0, none⟩ (.int .i64 C)).setCell ⟨w5.heap.size, 1, none⟩ (.int .i64 (n' : Int))).setCell ⟨w5.heap.size, 2, none⟩ (.slice sa n' sc) := ⟨_, rfl⟩
                     rw [← hU] at e3 o3 p3 q3 ⊢
                     have BU : Hid (Blk U w5.heap.size #[.int .i64 C, .int .i64 (n' : Int), .slice sa n' sc] 24) := e3
                     have OU : Hid (Own U w.heap.size (.slice sa n' sc) L') := o3
                     have PU : Hid (Own U W9.heap.size (.slice ha n' hc) L') := p3
                     have QU : Hid (Below w.heap.size w U) := q3
                     clear hU e1 e2 e3 o1 o2 o3 p0 p1 p2 p3 q3 BC14 cq14 fq14 ca14 cd14 cc14 fc14
                     have cU := BU.out.cell
                     go_wp2_with (go_at_call 13; refine (sameBytes_same _ _ L' _ (OU.out.bs (by rw [← HN'.out]; exact hml)) (PU.out.bs (by rw [← HN'.out]; exact hml))).mono ?_; rintro r wq ⟨rfl, mq2, hwq⟩; subst hwq)
                     go_roundw
                     case rel => exact ⟨i + 1, C, (n' : Int), L', by omega, by go_num, ⟨sa, sc, by rw [← HN'.out]; exact BU.out, by rw [← HN'.out]; exact OU.out.below (below_drewD _ _ _), hbw5⟩, HDS.out, QU.out.trans (below_drewD _ _ _)⟩
                     case measure => simp [intOf]; omega
                   · have hi2 : ((i : Int) == 1) = false := by rw [beq_eq_false_iff_ne]; omega
                     go_wp2_with fail
                     go_roundw
                     case rel =>
                       have BCk : Blk (W13.drewN kq) w5.heap.size #[.int .i64 C, .int .i64 Y, .slice ca n cc] 24 := BC13.out
                       have e1 := BCk.set 0 (.int .i64 C)
                       have e2 := e1.set 1 (.int .i64 Y)
                       have e3 := e2.set 2 (.slice za n3 zc)
                       have o0 : Own (W13.drewN kq) w.heap.size (.slice za n3 zc) L3 := HO12.out.below (below_drewD _ _ _)
                       have o1 := own_blk o0 BCk (by decide) (set_keep _ _ 0 (.int .i64 C))
                       have o2 := own_blk o1 e1 (by decide) (set_keep _ _ 1 (.int .i64 Y))
                       have o3 := own_blk o2 e2 (by decide) (set_keep _ _ 2 (.slice za n3 zc))
                       have q3 := (((HBW13.out.trans (below_drewD _ _ kq)).setCell (p := ⟨w5.heap.size, 0, none⟩) hbw5 (.int .i64 C)).setCell (p := ⟨w5.heap.size, 1, none⟩) hbw5 (.int .i64 Y)).setCell (p := ⟨w5.heap.size, 2, none⟩) hbw5 (.slice za n3 zc)
                       exact ⟨i + 1, C, Y, L3, by omega, by go_num, ⟨za, zc, by rw [← HN3.out]; exact e3, by rw [← HN3.out]; exact o3, hbw5⟩, HD3.out, q3⟩
                     case measure => simp [intOf]; omega
       · go_wp2
         go_ret
         exact ⟨rfl, hbl⟩
end Go.Proofs.YtjoflnnomebkpaaDoor
