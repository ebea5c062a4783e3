/-
  spec.DrawDiskWrite, spec.DrawDiskCrash.
-/
import Derived.Test.YtjoflnnomebkpaaDoorDrDk
namespace Go.Proofs.YtjoflnnomebkpaaDoor
open Go.RowKit
set_option linter.unusedVariables false
set_option linter.unusedSimpArgs false

theorem grown_below2 {w w' : World} {o1 o2 : Obj} (h : World.grownBy ((w.alloc o1).alloc o2) w' (some (w.heap.size + 1))) : Below w.heap.size w w' := by
  have hb : Below w.heap.size w ((w.alloc o1).alloc o2) := ((Below.refl _ _).alloc (Nat.le_refl _) _).alloc (by simp) _
  refine ⟨h.os.trans hb.os, h.tape.trans hb.tape, h.output.trans hb.output, Nat.le_trans hb.size h.size, fun k hk => (h.block k (by simp; omega) (by intro e; injection e with e; omega)).trans (hb.block k hk)⟩
/-- the drawn disk and records -/
def dwR (l : List Int) (m : Nat) : List Rec × Nat := recsD l (dkA l 0 m).2.2 m
def dwCap (l : List Int) (m : Nat) : Int := if pickV l (dwR l m).2 4 = 0 then ((dkL l 0 m).length : Int) + ((encRecs (dwR l m).1).length : Int) - ((pickV l ((dwR l m).2 + 1) 2 : Nat) : Int) else (dkA l 0 m).1
set_option maxHeartbeats 16000000 in
set_option maxRecDepth 100000 in
theorem drawDiskWrite_any (a : Option Addr) (cap : Nat) (l : List Int) (w : World) (hv : Bs w (.slice a l.length cap) l) (hL : l.length ≤ 1048576) :
    Calls Tryd.prog 8 #[.slice a l.length cap] w fun r w' => ∃ da dc ra rc, r = .returned (.tuple #[.agg #[.int .i64 (dwCap l (min l.length 400)), .int .i64 (dkA l 0 (min l.length 400)).2.1, .slice da (dkL l 0 (min l.length 400)).length dc], .slice ra (dwR l (min l.length 400)).1.length rc]) ∧ Own w' w.heap.size (.slice da (dkL l 0 (min l.length 400)).length dc) (dkL l 0 (min l.length 400)) ∧ OwnR w' w.heap.size (.slice ra (dwR l (min l.length 400)).1.length rc) (dwR l (min l.length 400)).1 ∧ Below w.heap.size w w' := by
  have hlm := hv.1
  have HSZ : Hid (∀ u, Calls Tryd.prog 42 #[.slice a l.length cap] u fun e w' => e = .returned (.int .i64 ((min l.length 400 : Nat) : Int)) ∧ w' = u) := fun u => l1size_any a l.length cap hlm u
  have hm : min l.length 400 ≤ 400 := Nat.min_le_right _ _
  generalize min l.length 400 = m at *
  have HS0 : Hid (Src ((w.alloc (.cells #[.int .i64 0, .int .i64 0, .slice none 0 0] 24)).alloc (.cells #[.slice a l.length cap, .int .i64 0] 70)) (w.heap.size + 1) (.slice a l.length cap) l 0) := by
    have hx := Src.start (w.alloc (.cells #[.int .i64 0, .int .i64 0, .slice none 0 0] 24)) (.slice a l.length cap) l (hv.below ((Below.refl _ _).alloc (Nat.le_refl _) _)) 70
    rw [show (w.alloc (.cells #[.int .i64 0, .int .i64 0, .slice none 0 0] 24)).heap.size = w.heap.size + 1 by simp] at hx
    exact hx
  have HDk : Hid (∀ u : World, Src u (w.heap.size + 1) (.slice a l.length cap) l 0 → Calls Tryd.prog 41 #[.pointer (some ⟨(w.heap.size + 1), 0, none⟩), .int .i64 m] u fun r w' => ∃ da dc, r = .returned (.agg #[.int .i64 (dkA l 0 m).1, .int .i64 (dkA l 0 m).2.1, .slice da (dkL l 0 m).length dc]) ∧ Own w' u.heap.size (.slice da (dkL l 0 m).length dc) (dkL l 0 m) ∧ Src w' (w.heap.size + 1) (.slice a l.length cap) l (dkA l 0 m).2.2 ∧ u.grownBy w' (some (w.heap.size + 1))) := fun u hu => l2drawDisk_any (w.heap.size + 1) u (.slice a l.length cap) l 0 m hL (by omega) hm hu
  have hkd := dkA_k l 0 m hm
  have hld := dkL_len l 0 m hm
  have HRs : Hid (∀ u : World, Src u (w.heap.size + 1) (.slice a l.length cap) l (dkA l 0 m).2.2 → Calls Tryd.prog 43 #[.pointer (some ⟨(w.heap.size + 1), 0, none⟩), .int .i64 m] u fun r w' => ∃ rv, r = .returned rv ∧ OwnR w' u.heap.size rv (dwR l m).1 ∧ Src w' (w.heap.size + 1) (.slice a l.length cap) l (dwR l m).2 ∧ u.grownBy w' (some (w.heap.size + 1))) := fun u hu => l2drawRecords_loop (w.heap.size + 1) u (.slice a l.length cap) l (dkA l 0 m).2.2 m hL (by omega) hm hu
  have hrs := recsD_ok l (dkA l 0 m).2.2 m hm
  have hrs' : (dwR l m).1.length ≤ 720 ∧ (∀ r ∈ (dwR l m).1, r.e.fits) ∧ (dwR l m).2 ≤ (dkA l 0 m).2.2 + 1300 := hrs
  clear hrs
  have hel := encRecs_len7 (dwR l m).1 hrs'.1
  have HC : Hid (dwCap l m = if pickV l (dwR l m).2 4 = 0 then ((dkL l 0 m).length : Int) + ((encRecs (dwR l m).1).length : Int) - ((pickV l ((dwR l m).2 + 1) 2 : Nat) : Int) else (dkA l 0 m).1) := (rfl : dwCap l m = _)
  generalize dwCap l m = CC at *
  generalize (dkA l 0 m).1 = CA at *
  generalize (dkA l 0 m).2.1 = YD at *
  generalize (dkA l 0 m).2.2 = K1 at *
  generalize dkL l 0 m = D at *
  generalize (dwR l m).2 = K2 at *
  generalize (dwR l m).1 = RS at *
  obtain ⟨n, hn⟩ : ∃ n, n = D.length := ⟨_, rfl⟩
  rw [← hn] at HDk HC hld ⊢
  clear hn
  obtain ⟨hr1, hr2, hr3⟩ := hrs'
  have HRF : Hid (∀ r ∈ RS, r.e.fits) := hr2
  have b4 := pickV_lt l K2 4 (by decide)
  obtain ⟨p4, hp4⟩ : ∃ p4, p4 = pickV l K2 4 := ⟨_, rfl⟩
  rw [← hp4] at b4 HC
  have HP4 : Hid (p4 = pickV l K2 4) := hp4
  obtain ⟨en, hen⟩ : ∃ en, en = (encRecs RS).length := ⟨_, rfl⟩
  rw [← hen] at hel HC
  have HEN : Hid (en = (encRecs RS).length) := hen
  have b2 := pickV_lt l (K2 + 1) 2 (by decide)
  obtain ⟨p2, hp2⟩ : ∃ p2, p2 = pickV l (K2 + 1) 2 := ⟨_, rfl⟩
  rw [← hp2] at b2 HC
  have HP2 : Hid (p2 = pickV l (K2 + 1) 2) := hp2
  clear hr2 hp4 hen hp2 hv
  have A1 : True := trivial
  go_enter Tryd.func8, Tryd.ntmps8
  go_upto_if 16 with (first
    | (go_at_call 42; refine (HSZ.out _).mono ?_; rintro r w2 ⟨rfl, hw2⟩; subst w2)
    | (go_at_call 41; refine (HDk.out _ HS0.out).mono ?_; rintro r w3 ⟨da, dc, rfl, ho3, hs3, hg3⟩; have HD3 : Hid (Dr ((w.alloc (.cells #[.int .i64 0, .int .i64 0, .slice none 0 0] 24)).alloc (.cells #[.slice a l.length cap, .int .i64 0] 70)) (w3.alloc (.cells #[.int .i64 CA, .int .i64 YD, .slice da n dc] 24)) (w.heap.size + 1) (.slice a l.length cap) l K1 [(w3.heap.size, #[.int .i64 CA, .int .i64 YD, .slice da n dc], 24)]) := ((Dr.start HS0.out).call hs3 hg3).new #[.int .i64 CA, .int .i64 YD, .slice da n dc] 24 (noU8_of rfl); have HO3 : Hid (Own (w3.alloc (.cells #[.int .i64 CA, .int .i64 YD, .slice da n dc] 24)) (w.heap.size + 2) (.slice da n dc) D) := (ho3.le (by simp)).below ((Below.refl _ _).alloc (Nat.le_refl _) _); have HB3 : Hid (Blk (w3.alloc (.cells #[.int .i64 CA, .int .i64 YD, .slice da n dc] 24)) w.heap.size #[.int .i64 0, .int .i64 0, .slice none 0 0] 24) := (((Blk.new w #[.int .i64 0, .int .i64 0, .slice none 0 0] 24).alloc _).grown hg3 (by omega)).alloc _; clear ho3 hs3 hg3)
    | (go_at_call 43; refine (HRs.out _ HD3.out.src).mono ?_; rintro r w4 ⟨rv, rfl, ho4, hs4, hg4⟩; have hz4 := HD3.out.size; (simp only [World.size_alloc] at hz4); have HD4 : Hid (Dr ((w.alloc (.cells #[.int .i64 0, .int .i64 0, .slice none 0 0] 24)).alloc (.cells #[.slice a l.length cap, .int .i64 0] 70)) w4 (w.heap.size + 1) (.slice a l.length cap) l K2 [(w3.heap.size, #[.int .i64 CA, .int .i64 YD, .slice da n dc], 24)]) := HD3.out.call hs4 hg4; have HO4 : Hid (Own w4 (w.heap.size + 2) (.slice da n dc) D) := own_grown HO3.out hg4 (by omega); have HR4 : Hid (OwnR w4 (w.heap.size + 2) rv RS) := ho4.le (by simp; omega); have HB4 : Hid (Blk w4 w.heap.size #[.int .i64 0, .int .i64 0, .slice none 0 0] 24) := HB3.out.grown hg4 (by omega); clear ho4 hs4 hg4)
    | (go_at_call 44; refine (HD4.out.pickG 4 hL (by omega) (by decide) (by decide)).mono ?_; rintro r w5 ⟨rfl, hd5, hg5⟩; rw [← HP4.out]; have HD5 : Hid (Dr ((w.alloc (.cells #[.int .i64 0, .int .i64 0, .slice none 0 0] 24)).alloc (.cells #[.slice a l.length cap, .int .i64 0] 70)) w5 (w.heap.size + 1) (.slice a l.length cap) l (K2 + 1) [(w3.heap.size, #[.int .i64 CA, .int .i64 YD, .slice da n dc], 24)]) := hd5; have HO5 : Hid (Own w5 (w.heap.size + 2) (.slice da n dc) D) := own_grown HO4.out hg5 (by omega); have HR5 : Hid (OwnR w5 (w.heap.size + 2) rv RS) := HR4.out.grown hg5 (by omega); have HB5 : Hid (Blk w5 w.heap.size #[.int .i64 0, .int .i64 0, .slice none 0 0] 24) := HB4.out.grown hg5 (by omega); clear hd5 hg5))
  have hz5 := HD5.out.lt 0 rfl
  have hz51 := HD5.out.ge 0 rfl
  simp only [World.size_alloc] at hz51
  go_cut [16] (fun s16 wx => (∃ K, Dr ((w.alloc (.cells #[.int .i64 0, .int .i64 0, .slice none 0 0] 24)).alloc (.cells #[.slice a l.length cap, .int .i64 0] 70)) wx (w.heap.size + 1) (.slice a l.length cap) l K [(w3.heap.size, #[.int .i64 CC, .int .i64 YD, .slice da n dc], 24)]) ∧ Own wx (w.heap.size + 2) (.slice da n dc) D ∧ OwnR wx (w.heap.size + 2) rv RS ∧ Blk wx w.heap.size #[.int .i64 0, .int .i64 0, .slice none 0 0] 24)
  case first =>
    by_cases c4 : p4 = 0
    · subst c4
      rw [if_pos rfl] at HC
      have ce5 := (HD5.out.blk 0 rfl).cell
      have HSl := (HR5.out.below (Below.refl _ _).drew).sl (by unfold maxLen; omega)
      have HSL : Hid (Sl Rec.cells 11 w5.drew rv RS) := HSl
      clear HSl
      have hw1 : IntKind.i64.wrap ((n : Int) + (en : Int)) = (n : Int) + (en : Int) := (by rw [IntKind.wrap_i64]; omega)
      have hw2 : IntKind.i64.wrap ((n : Int) + (en : Int) - (p2 : Int)) = (n : Int) + (en : Int) - (p2 : Int) := (by rw [IntKind.wrap_i64]; omega)
      go_upto_region 5 with fail
      go_region_with (first
        | (go_at_call 23; refine (sEncodeRecords_any _ RS _ HSL.out HRF.out).mono ?_; rintro e w6 ⟨dv, rfl, ho6, hb6⟩; obtain ⟨xa, xc, hxv⟩ := ho6.shape; rw [← HEN.out] at hxv; subst hxv; have HD6 : Hid (Dr ((w.alloc (.cells #[.int .i64 0, .int .i64 0, .slice none 0 0] 24)).alloc (.cells #[.slice a l.length cap, .int .i64 0] 70)) w6 (w.heap.size + 1) (.slice a l.length cap) l (K2 + 1) [(w3.heap.size, #[.int .i64 CA, .int .i64 YD, .slice da n dc], 24)]) := HD5.out.drew.below hb6; have HO6 : Hid (Own w6 (w.heap.size + 2) (.slice da n dc) D) := (HO5.out.below (Below.refl _ _).drew).below hb6; have HR6 : Hid (OwnR w6 (w.heap.size + 2) rv RS) := (HR5.out.below (Below.refl _ _).drew).below hb6; have HB6 : Hid (Blk w6 w.heap.size #[.int .i64 0, .int .i64 0, .slice none 0 0] 24) := HB5.out.drew.below hb6 HB5.out.lt; have ce6 := (HD6.out.blk 0 rfl).cell; clear ho6 hb6)
        | (go_at_call 44; refine (HD6.out.pickG 2 hL (by omega) (by decide) (by decide)).mono ?_; rintro e w7 ⟨rfl, hd7, hg7⟩; rw [← HP2.out]; have HD7 : Hid (Dr ((w.alloc (.cells #[.int .i64 0, .int .i64 0, .slice none 0 0] 24)).alloc (.cells #[.slice a l.length cap, .int .i64 0] 70)) w7 (w.heap.size + 1) (.slice a l.length cap) l (K2 + 1 + 1) [(w3.heap.size, #[.int .i64 CA, .int .i64 YD, .slice da n dc], 24)]) := hd7; have HO7 : Hid (Own w7 (w.heap.size + 2) (.slice da n dc) D) := own_grown HO6.out hg7 (by omega); have HR7 : Hid (OwnR w7 (w.heap.size + 2) rv RS) := HR6.out.grown hg7 (by omega); have HB7 : Hid (Blk w7 w.heap.size #[.int .i64 0, .int .i64 0, .slice none 0 0] 24) := HB6.out.grown hg7 (by omega); have ce7 := (hd7.blk 0 rfl).cell; have fe7 := (hd7.blk 0 rfl).free; clear hd7 hg7))
      all_goals go_wp2_with fail
      all_goals go_meet
      all_goals exact ⟨⟨_, by rw [HC.out]; exact HD7.out.set 0 rfl 0 (by simp) (.int .i64 ((n : Int) + (en : Int) - (p2 : Int))) rfl⟩, own_blk HO7.out (HD7.out.blk 0 rfl) (by decide) (set_keep _ _ _ _), ownR_blk HR7.out (HD7.out.blk 0 rfl) (by decide) (set_keep _ _ _ _), HB7.out.set_other _ (show w.heap.size ≠ w3.heap.size by omega)⟩
    · rw [if_neg c4] at HC
      have hCC := HC.out
      subst hCC
      have c5 : ((p4 : Int) == 0) = false := by rw [beq_eq_false_iff_ne]; omega
      go_wp2_with fail
      go_meet
      exact ⟨⟨_, HD5.out⟩, HO5.out, HR5.out, HB5.out⟩
  case rest =>
    obtain ⟨⟨K, hd⟩, ho, hr, hb⟩ := hcut
    have HDc : Hid (Dr ((w.alloc (.cells #[.int .i64 0, .int .i64 0, .slice none 0 0] 24)).alloc (.cells #[.slice a l.length cap, .int .i64 0] 70)) wc (w.heap.size + 1) (.slice a l.length cap) l K [(w3.heap.size, #[.int .i64 CC, .int .i64 YD, .slice da n dc], 24)]) := hd
    have HOc : Hid (Own wc (w.heap.size + 2) (.slice da n dc) D) := ho
    have HRc : Hid (OwnR wc (w.heap.size + 2) rv RS) := hr
    have HBc : Hid (Blk wc w.heap.size #[.int .i64 0, .int .i64 0, .slice none 0 0] 24) := hb
    have ce := (hd.blk 0 rfl).cell
    have cb := hb.cell
    have fb := hb.free
    obtain ⟨ra, rc, hrv⟩ := hr.shape
    subst hrv
    clear hd ho hr hb
    go_wp2_with fail
    have b1 := HBc.out.set 0 (.int .i64 CC)
    have b2 := b1.set 1 (.int .i64 YD)
    have b3 := b2.set 2 (.slice da n dc)
    have c0 := b3.cell 0
    have c1 := b3.cell 1
    have c2 := b3.cell 2
    refine bodyPost_ret (v := .tuple #[.agg #[.int .i64 CC, .int .i64 YD, .slice da n dc], .slice ra RS.length rc]) (by simp [results, Tryd.results8, go_sem, cb]) rfl ⟨da, dc, ra, rc, rfl, ?_, ?_, ?_⟩
    · exact ((((HOc.out.setLow (b := w.heap.size) (by omega) _).setLow (b := w.heap.size) (by omega) _).setLow (b := w.heap.size) (by omega) _)).le (by omega)
    · exact (((HRc.out.setLow (b := w.heap.size) (by omega) _).setLow (b := w.heap.size) (by omega) _).setLow (b := w.heap.size) (by omega) _).le (by omega)
    · exact (((grown_below2 HDc.out.grown).setCell (Nat.le_refl _) _).setCell (Nat.le_refl _) _).setCell (Nat.le_refl _) _
set_option maxHeartbeats 16000000 in
set_option maxRecDepth 100000 in
theorem drawDiskCrash_any (a : Option Addr) (cap : Nat) (l : List Int) (w : World) (hv : Bs w (.slice a l.length cap) l) (hL : l.length ≤ 1048576) :
    Calls Tryd.prog 10 #[.slice a l.length cap] w fun r w' => ∃ (c y kp : Int) (dv : Value), r = .returned (.tuple #[.agg #[.int .i64 c, .int .i64 y, dv], .int .i64 kp]) ∧ (∃ da n dc, dv = .slice da n dc) ∧ -4 ≤ kp ∧ kp ≤ 120 ∧ Below w.heap.size w w' := by
  have hlm := hv.1
  have HSZ : Hid (∀ u, Calls Tryd.prog 42 #[.slice a l.length cap] u fun e w' => e = .returned (.int .i64 ((min l.length 400 : Nat) : Int)) ∧ w' = u) := fun u => l1size_any a l.length cap hlm u
  have hm : min l.length 400 ≤ 400 := Nat.min_le_right _ _
  generalize min l.length 400 = m at *
  have HS0 : Hid (Src ((w.alloc (.cells #[.int .i64 0, .int .i64 0, .slice none 0 0] 24)).alloc (.cells #[.slice a l.length cap, .int .i64 0] 70)) (w.heap.size + 1) (.slice a l.length cap) l 0) := by
    have hx := Src.start (w.alloc (.cells #[.int .i64 0, .int .i64 0, .slice none 0 0] 24)) (.slice a l.length cap) l (hv.below ((Below.refl _ _).alloc (Nat.le_refl _) _)) 70
    rw [show (w.alloc (.cells #[.int .i64 0, .int .i64 0, .slice none 0 0] 24)).heap.size = w.heap.size + 1 by simp] at hx
    exact hx
  have HDk : Hid (∀ u : World, Src u (w.heap.size + 1) (.slice a l.length cap) l 0 → Calls Tryd.prog 41 #[.pointer (some ⟨(w.heap.size + 1), 0, none⟩), .int .i64 m] u fun r w' => ∃ da dc, r = .returned (.agg #[.int .i64 (dkA l 0 m).1, .int .i64 (dkA l 0 m).2.1, .slice da (dkL l 0 m).length dc]) ∧ Own w' u.heap.size (.slice da (dkL l 0 m).length dc) (dkL l 0 m) ∧ Src w' (w.heap.size + 1) (.slice a l.length cap) l (dkA l 0 m).2.2 ∧ u.grownBy w' (some (w.heap.size + 1))) := fun u hu => l2drawDisk_any (w.heap.size + 1) u (.slice a l.length cap) l 0 m hL (by omega) hm hu
  have hkd := dkA_k l 0 m hm
  generalize (dkA l 0 m).1 = CA at *
  generalize (dkA l 0 m).2.1 = YD at *
  generalize (dkA l 0 m).2.2 = K1 at *
  generalize (dkL l 0 m).length = n at *
  have b4 := pickV_lt l K1 120 (by decide)
  obtain ⟨p4, hp4⟩ : ∃ p4, p4 = pickV l K1 120 := ⟨_, rfl⟩
  rw [← hp4] at b4
  have HP4 : Hid (p4 = pickV l K1 120) := hp4
  clear hp4 hv
  go_enter Tryd.func10, Tryd.ntmps10
  go_wp2_with (first
    | (go_at_call 42; refine (HSZ.out _).mono ?_; rintro r w2 ⟨rfl, hw2⟩; subst w2)
    | (go_at_call 41; refine (HDk.out _ HS0.out).mono ?_; rintro r w3 ⟨da, dc, rfl, ho3, hs3, hg3⟩; have HD3 : Hid (Dr ((w.alloc (.cells #[.int .i64 0, .int .i64 0, .slice none 0 0] 24)).alloc (.cells #[.slice a l.length cap, .int .i64 0] 70)) (w3.alloc (.cells #[.int .i64 CA, .int .i64 YD, .slice da n dc] 24)) (w.heap.size + 1) (.slice a l.length cap) l K1 [(w3.heap.size, #[.int .i64 CA, .int .i64 YD, .slice da n dc], 24)]) := ((Dr.start HS0.out).call hs3 hg3).new #[.int .i64 CA, .int .i64 YD, .slice da n dc] 24 (noU8_of rfl); have HB3 : Hid (Blk (w3.alloc (.cells #[.int .i64 CA, .int .i64 YD, .slice da n dc] 24)) w.heap.size #[.int .i64 0, .int .i64 0, .slice none 0 0] 24) := (((Blk.new w #[.int .i64 0, .int .i64 0, .slice none 0 0] 24).alloc _).grown hg3 (by omega)).alloc _; clear ho3 hs3 hg3))
  have hwp : IntKind.i64.wrap ((p4 : Int) - 4) = (p4 : Int) - 4 := (by rw [IntKind.wrap_i64]; omega)
  obtain ⟨W4, hW4⟩ : ∃ W4, W4 = w3.alloc (.cells #[.int .i64 CA, .int .i64 YD, .slice da n dc] 24) := ⟨_, rfl⟩
  rw [← hW4] at HD3 HB3 ⊢
  clear hW4
  have ce := (HD3.out.blk 0 rfl).cell
  have ce0 := ce 0
  have ce1 := ce 1
  have ce2 := ce 2
  have hz := HD3.out.lt 0 rfl
  have hz3 := HD3.out.ge 0 rfl
  simp only [World.size_alloc] at hz3
  go_region_with (go_at_call 44; refine (HD3.out.drew.pickG 120 hL (by omega) (by decide) (by decide)).mono ?_; rintro e w6 ⟨rfl, hd6, hg6⟩; rw [← HP4.out]; have HD6 : Hid (Dr ((w.alloc (.cells #[.int .i64 0, .int .i64 0, .slice none 0 0] 24)).alloc (.cells #[.slice a l.length cap, .int .i64 0] 70)) w6 (w.heap.size + 1) (.slice a l.length cap) l (K1 + 1) [(w3.heap.size, #[.int .i64 CA, .int .i64 YD, .slice da n dc], 24)]) := hd6; have HB6 : Hid (Blk w6 w.heap.size #[.int .i64 0, .int .i64 0, .slice none 0 0] 24) := HB3.out.drew.grown hg6 (by omega); have cx := (hd6.blk 0 rfl).cell; have cx0 := cx 0; have cx1 := cx 1; have cx2 := cx 2; have cb := HB6.out.cell; have fb := HB6.out.free; clear hd6 hg6)
  all_goals go_wp2_with fail
  all_goals refine bodyPost_ret (v := .tuple #[.agg #[.int .i64 CA, .int .i64 YD, .slice da n dc], .int .i64 ((p4 : Int) - 4)]) (by simp [results, Tryd.results10, go_sem, cb]) rfl ⟨CA, YD, (p4 : Int) - 4, _, rfl, ⟨_, _, _, rfl⟩, by omega, by omega, ?_⟩
  all_goals exact (((grown_below2 HD6.out.grown).setCell (Nat.le_refl _) _).setCell (Nat.le_refl _) _).setCell (Nat.le_refl _) _
end Go.Proofs.YtjoflnnomebkpaaDoor
