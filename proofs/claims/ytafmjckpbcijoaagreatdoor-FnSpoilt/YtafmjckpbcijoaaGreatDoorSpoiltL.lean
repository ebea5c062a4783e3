/-
  laws.spoilt of a good frame.
-/
import Derived.Test.YtafmjckpbcijoaaGreatDoorSpoilD
import Derived.Test.YtafmjckpbcijoaaGreatDoorSameG
import Derived.Test.YtafmjckpbcijoaaGreatDoorCopyLit
namespace Go.Proofs.YtafmjckpbcijoaaGreatDoor
open Go.RowKit
set_option linter.unusedVariables false
set_option linter.unusedSimpArgs false

set_option maxHeartbeats 8000000 in
set_option maxRecDepth 100000 in
theorem spoilt_any (a : Option Addr) (cap : Nat) (l : List Int) (x : Int) (w : World) (A : Nat → Addr) (B : Nat) (hs : Sents w A B) (hv : Bs w (.slice a l.length cap) l) (h0 : sumC l = 0) (hx : -100 ≤ x ∧ x < 500) :
    Calls Tryz.prog 8 #[.slice a l.length cap, .int .i64 x] w fun e w' => e = .returned (.bool true) ∧ Below w.heap.size w w' := by
  have hL := sumC_len h0
  have h8 := hv.2.1
  have HS : Hid (Sents w A B) := hs
  have HV : Hid (Bs w (.slice a l.length cap) l) := hv
  obtain ⟨n, hn⟩ : ∃ n, n = l.length := ⟨_, rfl⟩
  have HP : Hid (∀ k, k < n → (spoilL l k (x + k)).length = n ∧ (∀ y ∈ spoilL l k (x + k), 0 ≤ y ∧ y ≤ 255) ∧ spoilL l k (x + k) ≠ l ∧ sumC (spoilL l k (x + k)) = if k < 4 then 2 else 3) := fun k hk => by
    rw [hn]
    exact spoil_pure h8 h0 k (by omega) (x + k)
  have HSp : Hid (∀ (u : World) (b c k : Nat), k < 300 → Bs u (.slice (some ⟨b, 0, none⟩) n c) l → Calls Tryz.prog 27 #[.slice (some ⟨b, 0, none⟩) n c, .int .i64 k, .int .i64 (x + k)] u fun e w' => ∃ a' n' c', e = .returned (.slice a' n' c') ∧ n' = (spoilL l k (x + k)).length ∧ Own w' u.heap.size (.slice a' n' c') (spoilL l k (x + k)) ∧ Below u.heap.size u w') := fun u b c k hk hb => by
    rw [hn] at hb ⊢
    exact (spoil_any b 0 c l k (x + k) u hb (by omega) (by omega) (by omega) (by omega) (by omega)).mono fun e w' ⟨a', c', q1, q2, q3⟩ => ⟨a', _, c', q1, rfl, q2, q3⟩
  rw [← hn] at hL HV ⊢
  have Hn : Hid (n = l.length) := hn
  clear hn hv hs h8 h0
  have hfm := fldM
  have hfc := fldC
  have hfr := fldR
  have hn0 : ((n : Int) == 0) = false := by rw [beq_eq_false_iff_ne]; omega
  go_enter Tryz.func8, Tryz.ntmps8
  go_wp2
  go_loopw [5] (fun i wr => ∃ k : Nat, k ≤ n ∧ k ≤ 300 ∧ i = .int .i64 k ∧ Below w.heap.size w wr) (fun i _ => n - (intOf i).toNat)
  case atStart => exact ⟨0, Nat.zero_le _, by omega, rfl, Below.refl _ _⟩
  case round =>
    obtain ⟨k, hk, hk3, rfl, hbr⟩ := hrel
    have HB : Hid (Below w.heap.size w wr) := hbr
    clear hbr
    by_cases hlt : k < n
    case neg =>
      have d1 : ¬ (k : Int) < (n : Int) := by omega
      go_wp2
      go_ret
      exact ⟨rfl, HB.out⟩
    by_cases hlt3 : k < 300
    case neg =>
      have d1 : (k : Int) < (n : Int) := by omega
      have d2 : ¬ (k : Int) < 300 := by omega
      go_wp2
      go_ret
      exact ⟨rfl, HB.out⟩
    have d1 : (k : Int) < (n : Int) := by omega
    have d2 : (k : Int) < 300 := by omega
    have HPk := HP.out k hlt
    have HSk : Hid (∀ (u : World) (b c : Nat), Bs u (.slice (some ⟨b, 0, none⟩) n c) l → Calls Tryz.prog 27 #[.slice (some ⟨b, 0, none⟩) n c, .int .i64 k, .int .i64 (x + k)] u fun e w' => ∃ a' n' c', e = .returned (.slice a' n' c') ∧ n' = (spoilL l k (x + k)).length ∧ Own w' u.heap.size (.slice a' n' c') (spoilL l k (x + k)) ∧ Below u.heap.size u w') := fun u b c h => HSp.out u b c k hlt3 h
    clear HP HSp
    generalize spoilL l k (x + k) = m at *
    obtain ⟨hml, hm8, hne, hsm⟩ := HPk
    have Hml : Hid (n = m.length) := hml.symm
    have Hsm : Hid (sumC m = if k < 4 then 2 else 3) := hsm
    have Hne : Hid (decide (m = l) = false) := decide_eq_false hne
    clear hml hm8 hne hsm hk hk3
    have hwx : IntKind.i64.wrap (x + k) = x + k := by rw [IntKind.wrap_i64]; omega
    have HBs : Hid (Bs wr (.slice a n cap) l) := HV.out.below HB.out
    have HSr : Hid (Sents wr A B) := HS.out.below HB.out
    go_upto_region 7 with (first
      | (at_builtin; refine wpl_copyL rfl (.tmp 21) (.tmp 22) rfl rfl rfl Hn.out (by omega) (by omega) HBs.out ?_; intro g1 c1 w1 hc1 ho1 hb1)
      | (go_at_call 27; refine (HSk.out _ _ _ (ho1.bs (by rw [← Hn.out]; unfold maxLen; omega))).mono ?_; rintro e w2 ⟨a2, n2, c2, rfl, hn2, ho2, hb2⟩; have hnn : n = n2 := Hml.out.trans hn2.symm; clear hn2; subst hnn; have HO2 : Hid (Own w2 w1.heap.size (.slice a2 n c2) m) := ho2; have HB2 : Hid (Below wr.heap.size wr w2) := hb1.trans (hb2.mono hb1.size); clear ho2 hb2 hb1 ho1))
    have hnn : ((n : Int) != n) = false := by simp
    go_upto_region 9 with (go_at_call 28; refine (sameBytes_len _ _ m l (by rw [← Hml.out, ← Hn.out]) _ (HO2.out.bs (by rw [← Hml.out]; unfold maxLen; omega)) (HBs.out.below HB2.out)).mono ?_; rintro e w3 ⟨rfl, q3, rfl⟩; rw [Hne.out])
    obtain ⟨W3, hW3⟩ : ∃ W3, W3 = w2.drewN q3 := ⟨_, rfl⟩
    have hb3 : Below w2.heap.size w2 W3 := by rw [hW3]; exact ⟨rfl, rfl, rfl, Nat.le_refl _, fun _ _ => rfl⟩
    have HO3 : Hid (Own W3 w1.heap.size (.slice a2 n c2) m) := HO2.out.below hb3
    have HB3 : Hid (Below w.heap.size w W3) := HB.out.trans ((HB2.out.trans (hb3.mono HB2.out.size)).mono HB.out.size)
    rw [← hW3]
    clear hW3 hb3 HO2 HB2 HBs HSr HSk Hne
    have HS3 : Hid (Sents W3 A B) := HS.out.below HB3.out
    have HM3 : Hid (Bs W3 (.slice a2 n c2) m) := HO3.out.bs (by rw [← Hml.out]; unfold maxLen; omega)
    by_cases hk4 : k < 4
    · have d4 : (k : Int) < 4 := by omega
      have hc2 : sumC m = 2 := by rw [Hsm.out, if_pos hk4]
      have Hc : Hid (sumC m = 2) := hc2
      clear hc2 Hsm hk4
      have HDm : Hid (∀ (u : World) (g c : Nat), Sents u A B → Own u W3.heap.size (.slice (some ⟨g, 0, none⟩) n c) m → Calls Tryz.prog 16 #[.slice (some ⟨g, 0, none⟩) n c] u fun e w' => ∃ ev, e = .returned (.agg #[.int .i64 2, .int .i64 0, .int .i64 0, .int .i64 0, .int .i64 0, .int .i64 0, .int .i64 0, .int .i64 0, .int .i64 0, .int .i64 0, .int .i64 0, ev]) ∧ Below u.heap.size u w') := fun u g c h1 h2 => decMsg_ref _ n c m 2 u A B h1 (h2.bs (by rw [← Hml.out]; unfold maxLen; omega)) (h2.capL Hml.out) Hc.out (by decide)
      have HDc : Hid (∀ (u : World) (B' g c : Nat), Sents u A B → Own u B' (.slice (some ⟨g, 0, none⟩) n c) m → Calls Tryz.prog 18 #[.slice (some ⟨g, 0, none⟩) n c] u fun e w' => e = .returned (.agg #[.int .i64 2, .int .i64 0, .int .i64 0, .int .i64 0, .int .i64 0, .string ⟨#[]⟩, .string ⟨#[]⟩, .string ⟨#[]⟩]) ∧ Below u.heap.size u w') := fun u B' g c h1 h2 => decCall_ref _ n c m 2 u A B h1 (h2.bs (by rw [← Hml.out]; unfold maxLen; omega)) (h2.capL Hml.out) Hc.out (by decide)
      have HDr : Hid (∀ (u : World) (B' g c : Nat), Sents u A B → Own u B' (.slice (some ⟨g, 0, none⟩) n c) m → Calls Tryz.prog 19 #[.slice (some ⟨g, 0, none⟩) n c] u fun e w' => e = .returned (.agg #[.int .i64 2, .int .i64 0, .int .i64 0, .int .i64 0, .int .i64 0, .int .i64 0, .string ⟨#[]⟩, .int .i64 0]) ∧ Below u.heap.size u w') := fun u B' g c h1 h2 => decReply_ref _ n c m 2 u A B h1 (h2.bs (by rw [← Hml.out]; unfold maxLen; omega)) (h2.capL Hml.out) Hc.out (by decide)
      go_upto_region 10 with (first
        | (at_builtin; refine wpl_copyL rfl (.tmp 39) (.tmp 40) rfl rfl rfl Hml.out (by omega) (by omega) HM3.out ?_; intro g4 c4 w4 hc4 ho4 hb4)
        | (go_at_call 16; refine (HDm.out _ _ _ (HS3.out.below hb4) ho4).mono ?_; rintro e w5 ⟨ev, rfl, hb5⟩; have HB5 : Hid (Below W3.heap.size W3 w5) := hb4.trans (hb5.mono hb4.size); have HM5 : Hid (Bs w5 (.slice a2 n c2) m) := HM3.out.below HB5.out; have HS5 : Hid (Sents w5 A B) := HS3.out.below HB5.out; clear hb4 hb5 ho4))
      go_wp2_with (first
        | (at_builtin; refine wpl_copyLG rfl rfl (.tmp 51) (.tmp 52) rfl rfl rfl Hml.out (by omega) (by omega) HM5.out ?_; intro g6 c6 w6 hc6 ho6 hb6)
        | (go_at_call 18; refine (HDc.out _ _ _ _ (HS5.out.below hb6) ho6).mono ?_; rintro e w7 ⟨rfl, hb7⟩; have HB7 : Hid (Below W3.heap.size W3 w7) := HB5.out.trans ((hb6.trans (hb7.mono hb6.size)).mono HB5.out.size); have HM7 : Hid (Bs w7 (.slice a2 n c2) m) := HM3.out.below HB7.out; have HS7 : Hid (Sents w7 A B) := HS3.out.below HB7.out; clear hb6 hb7 ho6)
        | (at_builtin; refine wpl_copyLG rfl rfl (.tmp 60) (.tmp 61) rfl rfl rfl Hml.out (by omega) (by omega) HM7.out ?_; intro g8 c8 w8 hc8 ho8 hb8)
        | (go_at_call 19; refine (HDr.out _ _ _ _ (HS7.out.below hb8) ho8).mono ?_; rintro e w9 ⟨rfl, hb9⟩; have HB9 : Hid (Below W3.heap.size W3 w9) := HB7.out.trans ((hb8.trans (hb9.mono hb8.size)).mono HB7.out.size); clear hb8 hb9 ho8))
      go_roundw
      case rel => exact ⟨k + 1, by omega, by omega, by go_num, HB3.out.trans (HB9.out.mono HB3.out.size)⟩
      case measure => simp [intOf]; omega
    · have d4 : ¬ (k : Int) < 4 := by omega
      have hc2 : sumC m = 3 := by rw [Hsm.out, if_neg hk4]
      have Hc : Hid (sumC m = 3) := hc2
      clear hc2 Hsm hk4
      have HDm : Hid (∀ (u : World) (g c : Nat), Sents u A B → Own u W3.heap.size (.slice (some ⟨g, 0, none⟩) n c) m → Calls Tryz.prog 16 #[.slice (some ⟨g, 0, none⟩) n c] u fun e w' => ∃ ev, e = .returned (.agg #[.int .i64 3, .int .i64 0, .int .i64 0, .int .i64 0, .int .i64 0, .int .i64 0, .int .i64 0, .int .i64 0, .int .i64 0, .int .i64 0, .int .i64 0, ev]) ∧ Below u.heap.size u w') := fun u g c h1 h2 => decMsg_ref _ n c m 3 u A B h1 (h2.bs (by rw [← Hml.out]; unfold maxLen; omega)) (h2.capL Hml.out) Hc.out (by decide)
      have HDc : Hid (∀ (u : World) (B' g c : Nat), Sents u A B → Own u B' (.slice (some ⟨g, 0, none⟩) n c) m → Calls Tryz.prog 18 #[.slice (some ⟨g, 0, none⟩) n c] u fun e w' => e = .returned (.agg #[.int .i64 3, .int .i64 0, .int .i64 0, .int .i64 0, .int .i64 0, .string ⟨#[]⟩, .string ⟨#[]⟩, .string ⟨#[]⟩]) ∧ Below u.heap.size u w') := fun u B' g c h1 h2 => decCall_ref _ n c m 3 u A B h1 (h2.bs (by rw [← Hml.out]; unfold maxLen; omega)) (h2.capL Hml.out) Hc.out (by decide)
      have HDr : Hid (∀ (u : World) (B' g c : Nat), Sents u A B → Own u B' (.slice (some ⟨g, 0, none⟩) n c) m → Calls Tryz.prog 19 #[.slice (some ⟨g, 0, none⟩) n c] u fun e w' => e = .returned (.agg #[.int .i64 3, .int .i64 0, .int .i64 0, .int .i64 0, .int .i64 0, .int .i64 0, .string ⟨#[]⟩, .int .i64 0]) ∧ Below u.heap.size u w') := fun u B' g c h1 h2 => decReply_ref _ n c m 3 u A B h1 (h2.bs (by rw [← Hml.out]; unfold maxLen; omega)) (h2.capL Hml.out) Hc.out (by decide)
      go_upto_region 10 with (first
        | (at_builtin; refine wpl_copyL rfl (.tmp 39) (.tmp 40) rfl rfl rfl Hml.out (by omega) (by omega) HM3.out ?_; intro g4 c4 w4 hc4 ho4 hb4)
        | (go_at_call 16; refine (HDm.out _ _ _ (HS3.out.below hb4) ho4).mono ?_; rintro e w5 ⟨ev, rfl, hb5⟩; have HB5 : Hid (Below W3.heap.size W3 w5) := hb4.trans (hb5.mono hb4.size); have HM5 : Hid (Bs w5 (.slice a2 n c2) m) := HM3.out.below HB5.out; have HS5 : Hid (Sents w5 A B) := HS3.out.below HB5.out; clear hb4 hb5 ho4))
      go_wp2_with (first
        | (at_builtin; refine wpl_copyLG rfl rfl (.tmp 51) (.tmp 52) rfl rfl rfl Hml.out (by omega) (by omega) HM5.out ?_; intro g6 c6 w6 hc6 ho6 hb6)
        | (go_at_call 18; refine (HDc.out _ _ _ _ (HS5.out.below hb6) ho6).mono ?_; rintro e w7 ⟨rfl, hb7⟩; have HB7 : Hid (Below W3.heap.size W3 w7) := HB5.out.trans ((hb6.trans (hb7.mono hb6.size)).mono HB5.out.size); have HM7 : Hid (Bs w7 (.slice a2 n c2) m) := HM3.out.below HB7.out; have HS7 : Hid (Sents w7 A B) := HS3.out.below HB7.out; clear hb6 hb7 ho6)
        | (at_builtin; refine wpl_copyLG rfl rfl (.tmp 60) (.tmp 61) rfl rfl rfl Hml.out (by omega) (by omega) HM7.out ?_; intro g8 c8 w8 hc8 ho8 hb8)
        | (go_at_call 19; refine (HDr.out _ _ _ _ (HS7.out.below hb8) ho8).mono ?_; rintro e w9 ⟨rfl, hb9⟩; have HB9 : Hid (Below W3.heap.size W3 w9) := HB7.out.trans ((hb8.trans (hb9.mono hb8.size)).mono HB7.out.size); clear hb8 hb9 ho8))
      go_roundw
      case rel => exact ⟨k + 1, by omega, by omega, by go_num, HB3.out.trans (HB9.out.mono HB3.out.size)⟩
      case measure => simp [intOf]; omega
end Go.Proofs.YtafmjckpbcijoaaGreatDoor
