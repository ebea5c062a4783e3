/-
  spec.l2drawDisk.
-/
import Derived.Test.YtjoflnnomebkpaaDoorDrDkP
import Derived.Test.YtjoflnnomebkpaaDoorDrRs
import Derived.Test.YtjoflnnomebkpaaDoorOwnInts
import Derived.Test.YtjoflnnomebkpaaDoorDiskNil
namespace Go.Proofs.YtjoflnnomebkpaaDoor
open Go.RowKit
set_option linter.unusedVariables false
set_option linter.unusedSimpArgs false

theorem infoDsk : (Tryd.prog.info? 24).map (·.size) = some 3 := by kernel_rfl
theorem own_grown {w w' : World} {B b : Nat} {v : Value} {l : List Int} (h : Own w B v l) (hg : w.grownBy w' (some b)) (hb : b < B) : Own w' B v l :=
  h.block fun k hk => hg.block k (h.2.lt k hk).2 (by intro e; injection e with e; have := (h.2.lt k hk).1; omega)
theorem own_blk {w w' : World} {B b : Nat} {v : Value} {l : List Int} {C : Array Value} {t : TypeId} (h : Own w B v l) (hb : Blk w b C t) (hne : 5 ≠ t) (hk : ∀ q, q ≠ b → w'.heap[q]? = w.heap[q]?) : Own w' B v l :=
  h.block fun q hq => hk q (fun e => ownsRow.neBlk h.2 hb hne (by rw [hq, e]))
theorem set_keep (w : World) (b j : Nat) (x : Value) : ∀ q, q ≠ b → (w.setCell ⟨b, j, none⟩ x).heap[q]? = w.heap[q]? := fun q hq => Below.heap_setCell _ _ _ _ hq

set_option maxHeartbeats 16000000 in
set_option maxRecDepth 100000 in
theorem l2drawDisk_any (g : Nat) (w : World) (v : Value) (l : List Int) (k size : Nat) (hL : l.length ≤ 1048576) (hk : k ≤ 300000000) (hs : size ≤ 400) (h : Src w g v l k) :
    Calls Tryd.prog 41 #[.pointer (some ⟨g, 0, none⟩), .int .i64 size] w fun r w' => ∃ da dc, r = .returned (.agg #[.int .i64 (dkA l k size).1, .int .i64 (dkA l k size).2.1, .slice da (dkL l k size).length dc]) ∧ Own w' w.heap.size (.slice da (dkL l k size).length dc) (dkL l k size) ∧ Src w' g v l (dkA l k size).2.2 ∧ w.grownBy w' (some g) := by
  have hg0 : g < w.heap.size := h.lt
  have HS0 : Hid (Src w g v l k) := h
  have hrs := recsD_ok l k size hs
  have hdl := dkL_len l k size hs
  have HRec : Hid (∀ u : World, Src u g v l k → Calls Tryd.prog 43 #[.pointer (some ⟨g, 0, none⟩), .int .i64 size] u fun r w' => ∃ rv, r = .returned rv ∧ OwnR w' u.heap.size rv (recsD l k size).1 ∧ Src w' g v l (recsD l k size).2 ∧ u.grownBy w' (some g)) := fun u hu => l2drawRecords_loop g u v l k size hL (by omega) hs hu
  unfold dkA
  have HdL : Hid (dkL l k size = encRecs (recsD l k size).1) := (rfl : dkL l k size = encRecs (recsD l k size).1)
  generalize dkL l k size = D at *
  have hk1 := hrs.2.2
  have hr1 := hrs.1
  have HRF : Hid (∀ r ∈ (recsD l k size).1, r.e.fits) := hrs.2.1
  generalize (recsD l k size).2 = K1 at *
  generalize (recsD l k size).1 = RS at *
  clear hrs h
  have bp3 := pickV_lt l K1 300 (by decide)
  obtain ⟨p3, hp3⟩ : ∃ p3, p3 = pickV l K1 300 := ⟨_, rfl⟩
  rw [← hp3] at bp3 ⊢
  have HP3 : Hid (p3 = pickV l K1 300) := hp3
  clear hp3
  have hel := endsD_len D
  obtain ⟨E, hE⟩ : ∃ E, E = endsD D := ⟨_, rfl⟩
  rw [← hE] at hel ⊢
  have HE : Hid (E = endsD D) := hE
  clear hE
  obtain ⟨n, hn⟩ : ∃ n, n = D.length := ⟨_, rfl⟩
  rw [← hn] at hdl hel ⊢
  have HN : Hid (n = D.length) := hn
  clear hn
  obtain ⟨Y, K4, hS⟩ : ∃ Y K4, dkS l E n (K1 + 2) = (Y, K4) := ⟨_, _, rfl⟩
  have hK4 := dkS_le l E n (K1 + 2)
  rw [hS] at hK4 ⊢
  have HS4 : Hid (dkS l E n (K1 + 2) = (Y, K4)) := hS
  clear hS
  dsimp only at hK4 ⊢
  obtain ⟨CF, YF, KF, hF⟩ : ∃ CF YF KF, dkP l ((n : Int) + (p3 : Int)) Y n K4 = (CF, YF, KF) := ⟨_, _, _, rfl⟩
  rw [hF]
  have HF : Hid (dkP l ((n : Int) + (p3 : Int)) Y n K4 = (CF, YF, KF)) := hF
  clear hF
  dsimp only
  go_enter Tryd.func41, Tryd.ntmps41
  go_wp2_with (first
    | (go_at_call 43; refine (HRec.out _ (HS0.out.alloc _)).mono ?_; rintro e w2 ⟨rv, rfl, ho2, hs2, hg2⟩; have HO2 : Hid (OwnR w2 w.heap.size rv RS) := ho2.le (by simp); have HD2 : Hid (Dr w w2 g v l K1 [(w.heap.size, #[.int .i64 0, .int .i64 0, .slice none 0 0], 24)]) := ((Dr.start HS0.out).new #[.int .i64 0, .int .i64 0, .slice none 0 0] 24 (noU8_of rfl)).call hs2 hg2; have HSl := HO2.out.sl (by unfold maxLen; omega); clear ho2 hs2 hg2)
    | (go_at_call 23; refine (sEncodeRecords_any _ _ _ HSl HRF.out).mono ?_; rintro e w3 ⟨dv, rfl, ho3, hb3⟩; rw [← HdL.out] at ho3; obtain ⟨da, dc, hdv⟩ := ho3.shape; rw [← HN.out] at hdv; subst hdv; have HO3 : Hid (Own w3 w.heap.size (.slice da n dc) D) := ho3.le HD2.out.size; have HD3 : Hid (Dr w w3 g v l K1 [(w.heap.size, #[.int .i64 0, .int .i64 0, .slice none 0 0], 24)]) := HD2.out.below hb3; clear ho3 hb3 HSl)
    | (go_at_call 44; refine (l1pick_any g _ v l K1 300 hL (by omega) (by decide) (by decide) HD3.out.src).mono ?_; rintro e w4 ⟨rfl, hs4, hg4⟩; rw [← HP3.out]; have HD4 : Hid (Dr w (w4.alloc (.cells #[.int .i64 ((n : Int) + (p3 : Int)), .int .i64 0, .slice da n dc] 24)) g v l (K1 + 2) [(w.heap.size, #[.int .i64 0, .int .i64 0, .slice none 0 0], 24), (w4.heap.size, #[.int .i64 ((n : Int) + (p3 : Int)), .int .i64 0, .slice da n dc], 24)]) := (HD3.out.call hs4 hg4).new #[.int .i64 ((n : Int) + (p3 : Int)), .int .i64 0, .slice da n dc] 24 (noU8_of rfl); have HO4 : Hid (Own (w4.alloc (.cells #[.int .i64 ((n : Int) + (p3 : Int)), .int .i64 0, .slice da n dc] 24)) w.heap.size (.slice da n dc) D) := (own_grown HO3.out hg4 hg0).below ((Below.refl _ _).alloc (Nat.le_refl _) _); clear hs4 hg4))
  go_loopw [7, 8] (fun ev av wr => ∃ i : Nat, av = .int .i64 ((enRun D i).2 : Nat) ∧ (∀ j, j < i → (cutP D (enRun D j).2).1 = 0) ∧ OwnI wr w.heap.size ev (enRun D i).1 ∧ Dr w wr g v l (K1 + 2) [(w.heap.size, #[.int .i64 0, .int .i64 0, .slice none 0 0], 24), (w4.heap.size, #[.int .i64 ((n : Int) + (p3 : Int)), .int .i64 0, .slice da n dc], 24)] ∧ Own wr w.heap.size (.slice da n dc) D ∧ w4.heap.size < wr.heap.size) (fun _ a _ => n - (intOf a).toNat)
  case atStart => exact ⟨0, rfl, fun j hj => by omega, by have hm := OwnI.made _ w.heap.size HD4.out.size; simpa [enRun] using hm, HD4.out.other _, HO4.out.below ((Below.refl _ _).alloc (Nat.le_refl _) _), by simp; omega⟩
  case round =>
    obtain ⟨i, rfl, hall, hoi, hd, ho, hz⟩ := hrel
    have hat := (enRun_ok D i).1
    have hel2 := (enRun_ok D i).2
    have HCut : Hid (Calls Tryd.prog 76 #[.slice da n dc, .int .i64 ((enRun D i).2 : Int)] wr fun e w' => e = .returned (.tuple #[.int .i64 (cutP D (enRun D i).2).1, .int .i64 ((cutP D (enRun D i).2).2 : Nat)]) ∧ w' = wr) := by
      have hx := l2cut_any da dc D (enRun D i).2 wr (by have hb := ho.bs (by rw [← HN.out]; unfold maxLen; omega); rw [HN.out] at hb; exact hb) hat (by rw [← HN.out]; omega)
      rw [← HN.out] at hx
      exact hx
    rw [← HN.out] at hat
    have HI : Hid (OwnI wr w.heap.size u7 (enRun D i).1) := hoi
    have HDr : Hid (Dr w wr g v l (K1 + 2) [(w.heap.size, #[.int .i64 0, .int .i64 0, .slice none 0 0], 24), (w4.heap.size, #[.int .i64 ((n : Int) + (p3 : Int)), .int .i64 0, .slice da n dc], 24)]) := hd
    have HOr : Hid (Own wr w.heap.size (.slice da n dc) D) := ho
    have HAL : Hid (∀ j, j < i → (cutP D (enRun D j).2).1 = 0) := hall
    clear hoi hd ho hall HD4 HO4
    by_cases hc : (cutP D (enRun D i).2).1 = 0
    · have hR := cutP_zero (by rw [← HN.out]; exact hat) hc
      rw [← HN.out] at hR
      have HNX : Hid (enRun D (i + 1) = ((enRun D i).1 ++ [((cutP D (enRun D i).2).2 : Int)], (cutP D (enRun D i).2).2)) := (by rw [enRun, if_pos hc] : enRun D (i + 1) = ((enRun D i).1 ++ [((cutP D (enRun D i).2).2 : Int)], (cutP D (enRun D i).2).2))
      have HAL2 : Hid (∀ j, j < i + 1 → (cutP D (enRun D j).2).1 = 0) := fun j hj => by
        rcases Nat.lt_or_ge j i with h' | h'
        · exact HAL.out j h'
        · rw [show j = i by omega]; exact hc
      rw [hc] at HCut
      have hlI : (enRun D i).1.length ≤ 1000000 := by
        have h1 := enRun_rise D i HAL.out
        omega
      have HlI : Hid ((enRun D i).1.length ≤ 1000000) := hlI
      clear hc hel2 hlI
      obtain ⟨E1, hE1⟩ : ∃ E1, E1 = (enRun D i).1 := ⟨_, rfl⟩
      obtain ⟨at1, hat1⟩ : ∃ at1, at1 = (enRun D i).2 := ⟨_, rfl⟩
      rw [← hE1] at HI HNX HlI
      rw [← hat1] at HCut HNX hR hat
      rw [← hat1]
      clear hE1 hat1
      obtain ⟨at2, hat2⟩ : ∃ at2, at2 = (cutP D at1).2 := ⟨_, rfl⟩
      rw [← hat2] at HCut HNX hR
      clear hat2
      go_wp2_with (first
        | (go_at_call 76; refine HCut.out.mono ?_; rintro e w5 ⟨rfl, hw5⟩; subst w5)
        | (at_builtin; refine wpl_appendI rfl (.tmp 32) (.tmp 34) rfl (at2 : Int) (HI.out.below ((Below.refl _ _).alloc (Nat.le_refl _) _)) rfl wr.heap.size 1 (by simp [World.cell?_alloc_new]) rfl HlI.out (by have := HDr.out.size; simp; omega) ?_; intro v6 w6 ho6 hg6; have HI6 : Hid (OwnI w6 w.heap.size v6 (E1 ++ [(at2 : Int)])) := ho6; have HG6 : Hid (Grew _ u7 w6 v6) := hg6; clear ho6 hg6))
      go_roundw
      case rel =>
        have hIa : OwnI (wr.alloc (.cells #[.int .i64 (at2 : Int)] 3)) w.heap.size u7 E1 := HI.out.below ((Below.refl _ _).alloc (Nat.le_refl _) _)
        refine ⟨i + 1, by rw [HNX.out], HAL2.out, by rw [HNX.out]; exact HI6.out, (HDr.out.other _).grew HG6.out (fun q hq => (hIa.lt q hq).1) ?_, ?_, ?_⟩
        · intro x hx
          simp only [List.mem_cons, List.not_mem_nil, or_false] at hx
          rcases hx with rfl | rfl
          · exact ownsRow.neBlk hIa ((HDr.out.blk 0 rfl).alloc _) (by decide)
          · exact ownsRow.neBlk hIa ((HDr.out.blk 1 rfl).alloc _) (by decide)
        · have hOa := HOr.out.below ((Below.refl _ _).alloc (Nat.le_refl _) (.cells #[.int .i64 (at2 : Int)] 3))
          exact hOa.block fun q hq => HG6.out.block (hOa.2.lt q hq).2 (fun e => ownsRow.neRow hIa hOa.2 (by decide) q e hq)
        · have := HG6.out.g.size
          simp at this
          omega
      case measure => simp [intOf]; omega
    · have HEE : Hid ((enRun D i).1 = E) := (by rw [HE.out]; exact enRun_end D i HAL.out hc : (enRun D i).1 = E)
      rw [HEE.out] at HI
      have hc' : ((cutP D (enRun D i).2).1 != 0) = true := by simpa using hc
      clear hel2
      generalize (cutP D (enRun D i).2).1 = cc at *
      generalize (cutP D (enRun D i).2).2 = at2 at *
      generalize (enRun D i).2 = at1 at *
      clear HAL HEE hc
      obtain ⟨ia, ic, hiv⟩ := HI.out.shape
      subst hiv
      go_upto_region 9 with (go_at_call 76; refine HCut.out.mono ?_; rintro e w5 ⟨rfl, hw5⟩; subst w5)
      clear HCut HS0 HRec HdL HRF HP3
      have hK1 : K1 ≤ 300001300 := by omega
      go_cut [44] (fun s44 wx => (s44 = .bool false ∧ ∃ K3, K3 ≤ K1 + 3 ∧ Y = ((pickV l K3 (n + 1) : Nat) : Int) ∧ K4 = K3 + pickK (n + 1) ∧ Dr w wx g v l K3 [(w.heap.size, #[.int .i64 0, .int .i64 0, .slice none 0 0], 24), (w4.heap.size, #[.int .i64 ((n : Int) + (p3 : Int)), .int .i64 0, .slice da n dc], 24)] ∧ Own wx w.heap.size (.slice da n dc) D) ∨ (s44 = .bool true ∧ 0 < E.length ∧ Y = E[pickV l (K1 + 2 + 1) E.length]?.getD 0 ∧ K4 = K1 + 2 + 1 + pickK E.length ∧ Dr w wx g v l (K1 + 2 + 1) [(w.heap.size, #[.int .i64 0, .int .i64 0, .slice none 0 0], 24), (w4.heap.size, #[.int .i64 ((n : Int) + (p3 : Int)), .int .i64 0, .slice da n dc], 24)] ∧ Own wx w.heap.size (.slice da n dc) D ∧ OwnI wx w.heap.size (.slice ia E.length ic) E))
      case first =>
        rcases Nat.eq_zero_or_pos E.length with e0 | e0
        · have hS := HS4.out
          unfold dkS at hS
          rw [if_neg (by omega)] at hS
          injection hS with h1 h2
          have c1 : decide ((0 : Int) < (E.length : Int)) = false := decide_eq_false (by omega)
          have c2 : decide (0 < E.length) = false := decide_eq_false (by omega)
          clear e0
          go_wp2_with fail
          go_meet
          exact .inl ⟨rfl, K1 + 2, by omega, h1.symm, h2.symm, HDr.out, HOr.out⟩
        · have hS := HS4.out
          unfold dkS at hS
          rw [if_pos e0] at hS
          have b4 := pickV_lt l (K1 + 2) 4 (by decide)
          obtain ⟨p4, hp4⟩ : ∃ p4, p4 = pickV l (K1 + 2) 4 := ⟨_, rfl⟩
          rw [← hp4] at b4 hS
          have HP4 : Hid (p4 = pickV l (K1 + 2) 4) := hp4
          clear hp4
          have c1 : decide ((0 : Int) < (E.length : Int)) = true := decide_eq_true (by omega)
          by_cases c4 : p4 = 0
          · subst c4
            rw [if_neg (by omega)] at hS
            injection hS with h1 h2
            go_wp2_with (go_at_call 44; refine (HDr.out.pickG 4 hL (by omega) (by decide) (by decide)).mono ?_; rintro e w6 ⟨rfl, hd6, hg6⟩; rw [← HP4.out])
            go_meet
            exact .inl ⟨rfl, K1 + 2 + 1, by omega, h1.symm, h2.symm, hd6, own_grown HOr.out hg6 hg0⟩
          · rw [if_pos c4] at hS
            injection hS with h1 h2
            have c5 : ((p4 : Int) != 0) = true := by rw [bne_iff_ne]; omega
            go_wp2_with (go_at_call 44; refine (HDr.out.pickG 4 hL (by omega) (by decide) (by decide)).mono ?_; rintro e w6 ⟨rfl, hd6, hg6⟩; rw [← HP4.out])
            go_meet
            exact .inr ⟨rfl, e0, h1.symm, h2.symm, hd6, own_grown HOr.out hg6 hg0, HI.out.grown hg6 hg0⟩
      case rest =>
        have HC : Hid ((u44 = .bool false ∧ ∃ K3, K3 ≤ K1 + 3 ∧ Y = ((pickV l K3 (n + 1) : Nat) : Int) ∧ K4 = K3 + pickK (n + 1) ∧ Dr w wc g v l K3 [(w.heap.size, #[.int .i64 0, .int .i64 0, .slice none 0 0], 24), (w4.heap.size, #[.int .i64 ((n : Int) + (p3 : Int)), .int .i64 0, .slice da n dc], 24)] ∧ Own wc w.heap.size (.slice da n dc) D) ∨ (u44 = .bool true ∧ 0 < E.length ∧ Y = E[pickV l (K1 + 2 + 1) E.length]?.getD 0 ∧ K4 = K1 + 2 + 1 + pickK E.length ∧ Dr w wc g v l (K1 + 2 + 1) [(w.heap.size, #[.int .i64 0, .int .i64 0, .slice none 0 0], 24), (w4.heap.size, #[.int .i64 ((n : Int) + (p3 : Int)), .int .i64 0, .slice da n dc], 24)] ∧ Own wc w.heap.size (.slice da n dc) D ∧ OwnI wc w.heap.size (.slice ia E.length ic) E)) := hcut
        clear hcut HDr HOr HI HS4
        go_upto_if 44 with fail
        go_cut [44] (fun s44 wx => Dr w wx g v l K4 [(w.heap.size, #[.int .i64 0, .int .i64 0, .slice none 0 0], 24), (w4.heap.size, #[.int .i64 ((n : Int) + (p3 : Int)), .int .i64 Y, .slice da n dc], 24)] ∧ Own wx w.heap.size (.slice da n dc) D)
        case first =>
          rcases HC.out with ⟨rfl, K3, hK3, hY, hK, hd, ho⟩ | ⟨rfl, e0, hY, hK, hd, ho, hi⟩
          · have HDc : Hid (Dr w wc g v l K3 [(w.heap.size, #[.int .i64 0, .int .i64 0, .slice none 0 0], 24), (w4.heap.size, #[.int .i64 ((n : Int) + (p3 : Int)), .int .i64 0, .slice da n dc], 24)]) := hd
            have HOc : Hid (Own wc w.heap.size (.slice da n dc) D) := ho
            have bY := pickV_lt l K3 (n + 1) (by omega)
            obtain ⟨pY, hpY⟩ : ∃ pY, pY = pickV l K3 (n + 1) := ⟨_, rfl⟩
            rw [← hpY] at bY hY
            have HPn : Hid (Calls Tryd.prog 44 #[.pointer (some ⟨g, 0, none⟩), .int .i64 ((n : Int) + 1)] wc fun e w' => e = .returned (.int .i64 (pY : Nat)) ∧ Dr w w' g v l K4 [(w.heap.size, #[.int .i64 0, .int .i64 0, .slice none 0 0], 24), (w4.heap.size, #[.int .i64 ((n : Int) + (p3 : Int)), .int .i64 0, .slice da n dc], 24)] ∧ wc.grownBy w' (some g)) := by
              rw [hpY, hK]
              exact (l1pick_any g wc v l K3 (n + 1) hL (by omega) (by omega) (by omega) hd.src).mono fun e w' ⟨h1, h2, h3⟩ => ⟨h1, hd.call h2 h3, h3⟩
            clear hd ho hpY HC
            subst hY
            clear hK
            go_wp2_with (go_at_call 44; refine HPn.out.mono ?_; rintro e w6 ⟨rfl, hd6, hg6⟩; have HD6 : Hid (Dr w w6 g v l K4 [(w.heap.size, #[.int .i64 0, .int .i64 0, .slice none 0 0], 24), (w4.heap.size, #[.int .i64 ((n : Int) + (p3 : Int)), .int .i64 0, .slice da n dc], 24)]) := hd6; have HO6 : Hid (Own w6 w.heap.size (.slice da n dc) D) := own_grown HOc.out hg6 hg0; have ce6 := (hd6.blk 1 rfl).cell; have fe6 := (hd6.blk 1 rfl).free; clear hd6 hg6)
            go_meet
            exact ⟨HD6.out.set 1 rfl 1 (by simp) (.int .i64 ((pY : Nat) : Int)) rfl, own_blk HO6.out (HD6.out.blk 1 rfl) (by decide) (set_keep _ _ _ _)⟩
          · have HDc : Hid (Dr w wc g v l (K1 + 2 + 1) [(w.heap.size, #[.int .i64 0, .int .i64 0, .slice none 0 0], 24), (w4.heap.size, #[.int .i64 ((n : Int) + (p3 : Int)), .int .i64 0, .slice da n dc], 24)]) := hd
            have HOc : Hid (Own wc w.heap.size (.slice da n dc) D) := ho
            have HIc : Hid (OwnI wc w.heap.size (.slice ia E.length ic) E) := hi
            have bY := pickV_lt l (K1 + 2 + 1) E.length e0
            obtain ⟨pY, hpY⟩ : ∃ pY, pY = pickV l (K1 + 2 + 1) E.length := ⟨_, rfl⟩
            rw [← hpY] at bY hY
            have HPn : Hid (Calls Tryd.prog 44 #[.pointer (some ⟨g, 0, none⟩), .int .i64 (E.length : Int)] wc fun e w' => e = .returned (.int .i64 (pY : Nat)) ∧ Dr w w' g v l K4 [(w.heap.size, #[.int .i64 0, .int .i64 0, .slice none 0 0], 24), (w4.heap.size, #[.int .i64 ((n : Int) + (p3 : Int)), .int .i64 0, .slice da n dc], 24)] ∧ wc.grownBy w' (some g)) := by
              rw [hpY, hK]
              exact (l1pick_any g wc v l (K1 + 2 + 1) E.length hL (by omega) (by omega) (by omega) hd.src).mono fun e w' ⟨h1, h2, h3⟩ => ⟨h1, hd.call h2 h3, h3⟩
            obtain ⟨q, c9, hq⟩ := hi.shape' e0
            injection hq with hq _ hc9
            subst hq
            subst hc9
            have bY' : (pY : Int) < (E.length : Int) := by omega
            clear hd ho hi hpY HC
            clear hK
            have HY : Hid (Y = E[pY]?.getD 0) := hY
            clear hY
            go_wp2_with (go_at_call 44; refine HPn.out.mono ?_; rintro e w6 ⟨rfl, hd6, hg6⟩; have HD6 : Hid (Dr w w6 g v l K4 [(w.heap.size, #[.int .i64 0, .int .i64 0, .slice none 0 0], 24), (w4.heap.size, #[.int .i64 ((n : Int) + (p3 : Int)), .int .i64 0, .slice da n dc], 24)]) := hd6; have HO6 : Hid (Own w6 w.heap.size (.slice da n dc) D) := own_grown HOc.out hg6 hg0; have ce6 := (hd6.blk 1 rfl).cell; have fe6 := (hd6.blk 1 rfl).free; have ci6 := (HIc.out.grown hg6 hg0).cell pY bY; rw [← HY.out] at ci6; clear hd6 hg6)
            go_meet
            exact ⟨HD6.out.set 1 rfl 1 (by simp) (.int .i64 Y) rfl, own_blk HO6.out (HD6.out.blk 1 rfl) (by decide) (set_keep _ _ _ _)⟩
        case rest =>
          obtain ⟨hd, ho⟩ := hcut
          have HDc : Hid (Dr w wc g v l K4 [(w.heap.size, #[.int .i64 0, .int .i64 0, .slice none 0 0], 24), (w4.heap.size, #[.int .i64 ((n : Int) + (p3 : Int)), .int .i64 Y, .slice da n dc], 24)]) := hd
          have HOc : Hid (Own wc w.heap.size (.slice da n dc) D) := ho
          clear hd ho HC
          have b20 := pickV_lt l K4 20 (by decide)
          obtain ⟨pz, hpz⟩ : ∃ pz, pz = pickV l K4 20 := ⟨_, rfl⟩
          rw [← hpz] at b20
          have HPZ : Hid (pz = pickV l K4 20) := hpz
          have hFF := HF.out
          unfold dkP at hFF
          rw [← hpz] at hFF
          have HFF : Hid ((if pz = 0 then (1048576 + ((pickV l (K4 + 1) 2 : Nat) : Int), Y, K4 + 1 + 1) else if pz = 1 then ((n : Int) - 1, Y, K4 + 1) else if pz = 2 then ((n : Int) + (p3 : Int), (n : Int) + 1, K4 + 1) else if pz = 3 then ((n : Int) + (p3 : Int), -1, K4 + 1) else if pz < 7 then ((n : Int), Y, K4 + 1) else ((n : Int) + (p3 : Int), Y, K4 + 1)) = (CF, YF, KF)) := hFF
          clear hpz hFF HF
          have A1 : True := trivial
          have hz6 := HDc.out.lt 1 rfl
          have hz0 := HDc.out.lt 0 rfl
          have hne1 : ¬ w.heap.size = w4.heap.size := fun e => absurd (HDc.out.dis 0 1 _ _ rfl rfl e) (by decide)
          have hne2 : ¬ w4.heap.size = w.heap.size := fun e => hne1 e.symm
          rcases (show pz = 0 ∨ pz = 1 ∨ pz = 2 ∨ pz = 3 ∨ (3 < pz ∧ pz < 7) ∨ 7 ≤ pz by omega) with c0 | c0 | c0 | c0 | c0 | c0
          · subst c0
            rw [if_pos rfl] at HFF
            obtain ⟨px, hpx⟩ : ∃ px, px = pickV l (K4 + 1) 2 := ⟨_, rfl⟩
            rw [← hpx] at HFF
            have HPX : Hid (px = pickV l (K4 + 1) 2) := hpx
            have bpx := pickV_lt l (K4 + 1) 2 (by decide)
            rw [← hpx] at bpx
            clear hpx
            have hFF := HFF.out
            injection hFF with e1 e2
            injection e2 with e2 e3
            subst e1 e2 e3
            clear HFF
            go_wp2_with (first
              | (go_at_call 44; clear A1; refine (HDc.out.pickG 20 hL (by omega) (by decide) (by decide)).mono ?_; rintro e w6 ⟨rfl, hd6, hg6⟩; rw [← HPZ.out]; have HD6 : Hid (Dr w w6 g v l (K4 + 1) [(w.heap.size, #[.int .i64 0, .int .i64 0, .slice none 0 0], 24), (w4.heap.size, #[.int .i64 ((n : Int) + (p3 : Int)), .int .i64 Y, .slice da n dc], 24)]) := hd6; have HO6 : Hid (Own w6 w.heap.size (.slice da n dc) D) := own_grown HOc.out hg6 hg0; have ce6 := (hd6.blk 1 rfl).cell; have fe6 := (hd6.blk 1 rfl).free; have ce0 := (hd6.blk 0 rfl).cell; have fe0 := (hd6.blk 0 rfl).free; clear hd6 hg6)
              | (go_at_call 44; refine (HD6.out.pickG 2 hL (by omega) (by decide) (by decide)).mono ?_; rintro e w7 ⟨rfl, hd7, hg7⟩; rw [← HPX.out]; have HD7 : Hid (Dr w w7 g v l (K4 + 1 + 1) [(w.heap.size, #[.int .i64 0, .int .i64 0, .slice none 0 0], 24), (w4.heap.size, #[.int .i64 ((n : Int) + (p3 : Int)), .int .i64 Y, .slice da n dc], 24)]) := hd7; have HO7 : Hid (Own w7 w.heap.size (.slice da n dc) D) := own_grown HO6.out hg7 hg0; have ce7 := (hd7.blk 1 rfl).cell; have fe7 := (hd7.blk 1 rfl).free; have cz7 := (hd7.blk 0 rfl).cell; have fz7 := (hd7.blk 0 rfl).free; clear hd7 hg7))
            have d1 := HD7.out.set 1 rfl 0 (by simp) (.int .i64 (1048576 + (px : Int))) rfl
            have o1 := own_blk HO7.out (HD7.out.blk 1 rfl) (by decide) (set_keep _ _ 0 (.int .i64 (1048576 + (px : Int))))
            have d2 := d1.set 0 rfl 0 (by simp) (.int .i64 (1048576 + (px : Int))) rfl
            have d3 := d2.set 0 rfl 1 (by simp) (.int .i64 Y) rfl
            have d4 := d3.set 0 rfl 2 (by simp) (.slice da n dc) rfl
            have o2 := own_blk o1 (d1.blk 0 rfl) (by decide) (set_keep _ _ 0 (.int .i64 (1048576 + (px : Int))))
            have o3 := own_blk o2 (d2.blk 0 rfl) (by decide) (set_keep _ _ 1 (.int .i64 Y))
            have o4 := own_blk o3 (d3.blk 0 rfl) (by decide) (set_keep _ _ 2 (.slice da n dc))
            exact bodyPost_ret (results_blk Tryd.results41 rfl (d4.blk 0 rfl) Tryd.underlying24 rfl infoDsk rfl) rfl ⟨da, dc, rfl, o4, d4.src, d4.grown⟩
          · subst c0
            rw [if_neg (by omega), if_pos rfl] at HFF
            have hFF := HFF.out
            injection hFF with e1 e2
            injection e2 with e2 e3
            subst e1 e2 e3
            clear HFF
            go_wp2_with (go_at_call 44; clear A1; refine (HDc.out.pickG 20 hL (by omega) (by decide) (by decide)).mono ?_; rintro e w6 ⟨rfl, hd6, hg6⟩; rw [← HPZ.out]; have HD6 : Hid (Dr w w6 g v l (K4 + 1) [(w.heap.size, #[.int .i64 0, .int .i64 0, .slice none 0 0], 24), (w4.heap.size, #[.int .i64 ((n : Int) + (p3 : Int)), .int .i64 Y, .slice da n dc], 24)]) := hd6; have HO6 : Hid (Own w6 w.heap.size (.slice da n dc) D) := own_grown HOc.out hg6 hg0; have ce6 := (hd6.blk 1 rfl).cell; have fe6 := (hd6.blk 1 rfl).free; have ce0 := (hd6.blk 0 rfl).cell; have fe0 := (hd6.blk 0 rfl).free; clear hd6 hg6)
            have d1 := HD6.out.set 1 rfl 0 (by simp) (.int .i64 ((n : Int) - 1)) rfl
            have o1 := own_blk HO6.out (HD6.out.blk 1 rfl) (by decide) (set_keep _ _ 0 (.int .i64 ((n : Int) - 1)))
            have d2 := d1.set 0 rfl 0 (by simp) (.int .i64 ((n : Int) - 1)) rfl
            have d3 := d2.set 0 rfl 1 (by simp) (.int .i64 Y) rfl
            have d4 := d3.set 0 rfl 2 (by simp) (.slice da n dc) rfl
            have o2 := own_blk o1 (d1.blk 0 rfl) (by decide) (set_keep _ _ 0 (.int .i64 ((n : Int) - 1)))
            have o3 := own_blk o2 (d2.blk 0 rfl) (by decide) (set_keep _ _ 1 (.int .i64 Y))
            have o4 := own_blk o3 (d3.blk 0 rfl) (by decide) (set_keep _ _ 2 (.slice da n dc))
            exact bodyPost_ret (results_blk Tryd.results41 rfl (d4.blk 0 rfl) Tryd.underlying24 rfl infoDsk rfl) rfl ⟨da, dc, rfl, o4, d4.src, d4.grown⟩
          · subst c0
            rw [if_neg (by omega), if_neg (by omega), if_pos rfl] at HFF
            have hFF := HFF.out
            injection hFF with e1 e2
            injection e2 with e2 e3
            subst e1 e2 e3
            clear HFF
            go_wp2_with (go_at_call 44; clear A1; refine (HDc.out.pickG 20 hL (by omega) (by decide) (by decide)).mono ?_; rintro e w6 ⟨rfl, hd6, hg6⟩; rw [← HPZ.out]; have HD6 : Hid (Dr w w6 g v l (K4 + 1) [(w.heap.size, #[.int .i64 0, .int .i64 0, .slice none 0 0], 24), (w4.heap.size, #[.int .i64 ((n : Int) + (p3 : Int)), .int .i64 Y, .slice da n dc], 24)]) := hd6; have HO6 : Hid (Own w6 w.heap.size (.slice da n dc) D) := own_grown HOc.out hg6 hg0; have ce6 := (hd6.blk 1 rfl).cell; have fe6 := (hd6.blk 1 rfl).free; have ce0 := (hd6.blk 0 rfl).cell; have fe0 := (hd6.blk 0 rfl).free; clear hd6 hg6)
            have d1 := HD6.out.set 1 rfl 1 (by simp) (.int .i64 ((n : Int) + 1)) rfl
            have o1 := own_blk HO6.out (HD6.out.blk 1 rfl) (by decide) (set_keep _ _ 1 (.int .i64 ((n : Int) + 1)))
            have d2 := d1.set 0 rfl 0 (by simp) (.int .i64 ((n : Int) + (p3 : Int))) rfl
            have d3 := d2.set 0 rfl 1 (by simp) (.int .i64 ((n : Int) + 1)) rfl
            have d4 := d3.set 0 rfl 2 (by simp) (.slice da n dc) rfl
            have o2 := own_blk o1 (d1.blk 0 rfl) (by decide) (set_keep _ _ 0 (.int .i64 ((n : Int) + (p3 : Int))))
            have o3 := own_blk o2 (d2.blk 0 rfl) (by decide) (set_keep _ _ 1 (.int .i64 ((n : Int) + 1)))
            have o4 := own_blk o3 (d3.blk 0 rfl) (by decide) (set_keep _ _ 2 (.slice da n dc))
            exact bodyPost_ret (results_blk Tryd.results41 rfl (d4.blk 0 rfl) Tryd.underlying24 rfl infoDsk rfl) rfl ⟨da, dc, rfl, o4, d4.src, d4.grown⟩
          · subst c0
            rw [if_neg (by omega), if_neg (by omega), if_neg (by omega), if_pos rfl] at HFF
            have hFF := HFF.out
            injection hFF with e1 e2
            injection e2 with e2 e3
            subst e1 e2 e3
            clear HFF
            go_wp2_with (go_at_call 44; clear A1; refine (HDc.out.pickG 20 hL (by omega) (by decide) (by decide)).mono ?_; rintro e w6 ⟨rfl, hd6, hg6⟩; rw [← HPZ.out]; have HD6 : Hid (Dr w w6 g v l (K4 + 1) [(w.heap.size, #[.int .i64 0, .int .i64 0, .slice none 0 0], 24), (w4.heap.size, #[.int .i64 ((n : Int) + (p3 : Int)), .int .i64 Y, .slice da n dc], 24)]) := hd6; have HO6 : Hid (Own w6 w.heap.size (.slice da n dc) D) := own_grown HOc.out hg6 hg0; have ce6 := (hd6.blk 1 rfl).cell; have fe6 := (hd6.blk 1 rfl).free; have ce0 := (hd6.blk 0 rfl).cell; have fe0 := (hd6.blk 0 rfl).free; clear hd6 hg6)
            have d1 := HD6.out.set 1 rfl 1 (by simp) (.int .i64 (-1)) rfl
            have o1 := own_blk HO6.out (HD6.out.blk 1 rfl) (by decide) (set_keep _ _ 1 (.int .i64 (-1)))
            have d2 := d1.set 0 rfl 0 (by simp) (.int .i64 ((n : Int) + (p3 : Int))) rfl
            have d3 := d2.set 0 rfl 1 (by simp) (.int .i64 (-1)) rfl
            have d4 := d3.set 0 rfl 2 (by simp) (.slice da n dc) rfl
            have o2 := own_blk o1 (d1.blk 0 rfl) (by decide) (set_keep _ _ 0 (.int .i64 ((n : Int) + (p3 : Int))))
            have o3 := own_blk o2 (d2.blk 0 rfl) (by decide) (set_keep _ _ 1 (.int .i64 (-1)))
            have o4 := own_blk o3 (d3.blk 0 rfl) (by decide) (set_keep _ _ 2 (.slice da n dc))
            exact bodyPost_ret (results_blk Tryd.results41 rfl (d4.blk 0 rfl) Tryd.underlying24 rfl infoDsk rfl) rfl ⟨da, dc, rfl, o4, d4.src, d4.grown⟩
          · rw [if_neg (by omega), if_neg (by omega), if_neg (by omega), if_neg (by omega), if_pos (by omega)] at HFF
            have hFF := HFF.out
            injection hFF with e1 e2
            injection e2 with e2 e3
            subst e1 e2 e3
            clear HFF
            have q0 : ((pz : Int) == 0) = false := by rw [beq_eq_false_iff_ne]; omega
            have q1 : ((pz : Int) == 1) = false := by rw [beq_eq_false_iff_ne]; omega
            have q2 : ((pz : Int) == 2) = false := by rw [beq_eq_false_iff_ne]; omega
            have q3 : ((pz : Int) == 3) = false := by rw [beq_eq_false_iff_ne]; omega
            have q7 : decide ((pz : Int) < 7) = true := decide_eq_true (by omega)
            go_wp2_with (go_at_call 44; clear A1; refine (HDc.out.pickG 20 hL (by omega) (by decide) (by decide)).mono ?_; rintro e w6 ⟨rfl, hd6, hg6⟩; rw [← HPZ.out]; have HD6 : Hid (Dr w w6 g v l (K4 + 1) [(w.heap.size, #[.int .i64 0, .int .i64 0, .slice none 0 0], 24), (w4.heap.size, #[.int .i64 ((n : Int) + (p3 : Int)), .int .i64 Y, .slice da n dc], 24)]) := hd6; have HO6 : Hid (Own w6 w.heap.size (.slice da n dc) D) := own_grown HOc.out hg6 hg0; have ce6 := (hd6.blk 1 rfl).cell; have fe6 := (hd6.blk 1 rfl).free; have ce0 := (hd6.blk 0 rfl).cell; have fe0 := (hd6.blk 0 rfl).free; clear hd6 hg6)
            have d1 := HD6.out.set 1 rfl 0 (by simp) (.int .i64 (n : Int)) rfl
            have o1 := own_blk HO6.out (HD6.out.blk 1 rfl) (by decide) (set_keep _ _ 0 (.int .i64 (n : Int)))
            have d2 := d1.set 0 rfl 0 (by simp) (.int .i64 (n : Int)) rfl
            have d3 := d2.set 0 rfl 1 (by simp) (.int .i64 Y) rfl
            have d4 := d3.set 0 rfl 2 (by simp) (.slice da n dc) rfl
            have o2 := own_blk o1 (d1.blk 0 rfl) (by decide) (set_keep _ _ 0 (.int .i64 (n : Int)))
            have o3 := own_blk o2 (d2.blk 0 rfl) (by decide) (set_keep _ _ 1 (.int .i64 Y))
            have o4 := own_blk o3 (d3.blk 0 rfl) (by decide) (set_keep _ _ 2 (.slice da n dc))
            exact bodyPost_ret (results_blk Tryd.results41 rfl (d4.blk 0 rfl) Tryd.underlying24 rfl infoDsk rfl) rfl ⟨da, dc, rfl, o4, d4.src, d4.grown⟩
          · rw [if_neg (by omega), if_neg (by omega), if_neg (by omega), if_neg (by omega), if_neg (by omega)] at HFF
            have hFF := HFF.out
            injection hFF with e1 e2
            injection e2 with e2 e3
            subst e1 e2 e3
            clear HFF
            have q0 : ((pz : Int) == 0) = false := by rw [beq_eq_false_iff_ne]; omega
            have q1 : ((pz : Int) == 1) = false := by rw [beq_eq_false_iff_ne]; omega
            have q2 : ((pz : Int) == 2) = false := by rw [beq_eq_false_iff_ne]; omega
            have q3 : ((pz : Int) == 3) = false := by rw [beq_eq_false_iff_ne]; omega
            have q7 : decide ((pz : Int) < 7) = false := decide_eq_false (by omega)
            go_wp2_with (go_at_call 44; clear A1; refine (HDc.out.pickG 20 hL (by omega) (by decide) (by decide)).mono ?_; rintro e w6 ⟨rfl, hd6, hg6⟩; rw [← HPZ.out]; have HD6 : Hid (Dr w w6 g v l (K4 + 1) [(w.heap.size, #[.int .i64 0, .int .i64 0, .slice none 0 0], 24), (w4.heap.size, #[.int .i64 ((n : Int) + (p3 : Int)), .int .i64 Y, .slice da n dc], 24)]) := hd6; have HO6 : Hid (Own w6 w.heap.size (.slice da n dc) D) := own_grown HOc.out hg6 hg0; have ce6 := (hd6.blk 1 rfl).cell; have fe6 := (hd6.blk 1 rfl).free; have ce0 := (hd6.blk 0 rfl).cell; have fe0 := (hd6.blk 0 rfl).free; clear hd6 hg6)
            have d2 := HD6.out.set 0 rfl 0 (by simp) (.int .i64 ((n : Int) + (p3 : Int))) rfl
            have d3 := d2.set 0 rfl 1 (by simp) (.int .i64 Y) rfl
            have d4 := d3.set 0 rfl 2 (by simp) (.slice da n dc) rfl
            have o2 := own_blk HO6.out (HD6.out.blk 0 rfl) (by decide) (set_keep _ _ 0 (.int .i64 ((n : Int) + (p3 : Int))))
            have o3 := own_blk o2 (d2.blk 0 rfl) (by decide) (set_keep _ _ 1 (.int .i64 Y))
            have o4 := own_blk o3 (d3.blk 0 rfl) (by decide) (set_keep _ _ 2 (.slice da n dc))
            exact bodyPost_ret (results_blk Tryd.results41 rfl (d4.blk 0 rfl) Tryd.underlying24 rfl infoDsk rfl) rfl ⟨da, dc, rfl, o4, d4.src, d4.grown⟩
end Go.Proofs.YtjoflnnomebkpaaDoor
