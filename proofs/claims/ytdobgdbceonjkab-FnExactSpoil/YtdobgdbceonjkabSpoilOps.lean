/-
  impl.Spoil, spec.Spoil.
-/
import Derived.Test.YtdobgdbceonjkabDiskBase
import Derived.Test.YtdobgdbceonjkabMod
import Derived.Deep.RegionWith
namespace Go.Proofs.Ytdobgdbceonjkab
open Go.RowKit
set_option linter.unusedVariables false

def xorB (c m : Int) : Int := bits .xor .u8 c m
/-- what Spoil answers -/
def spoilL (l : List Int) (at' x : Int) : List Int :=
  if inB l.length 1 16384 = true then l.set (modI at' l.length).toNat (xorB (l[(modI at' l.length).toNat]?.getD 0) (1 + modI x 255)) else []
theorem spoilL_le (l : List Int) (at' x : Int) : (spoilL l at' x).length ≤ l.length := by unfold spoilL; split <;> simp
theorem xorB_byte (c m : Int) (h0 : 0 ≤ c) (h1 : c ≤ 255) (h2 : 0 ≤ m) (h3 : m ≤ 255) : 0 ≤ xorB c m ∧ xorB c m ≤ 255 := by
  obtain ⟨a, rfl⟩ := Int.eq_ofNat_of_zero_le h0
  obtain ⟨b, rfl⟩ := Int.eq_ofNat_of_zero_le h2
  have e : xorB a b = ((a ^^^ b : Nat) : Int) := u8_xor_nat a b (by omega) (by omega)
  have hlt : a ^^^ b < 256 := Nat.xor_lt_two_pow (n := 8) (by omega) (by omega)
  rw [e]
  omega

set_option maxHeartbeats 20000000 in
set_option maxRecDepth 100000 in
theorem spoil_any (b off cap : Nat) (l : List Int) (at' x : Int) (w : World) (hv : Bs w (.slice (some ⟨b, off, none⟩) l.length cap) l) (hl : l.length ≤ 1048576) (ha : -(2 ^ 63) ≤ at') (ha' : at' < 2 ^ 63) (hx : -(2 ^ 63) ≤ x) (hx' : x < 2 ^ 63) :
    Calls Try.prog 10 #[.slice (some ⟨b, off, none⟩) l.length cap, .int .i64 at', .int .i64 x] w fun e w' => ∃ a' cap', e = .returned (.slice a' (spoilL l at' x).length cap') ∧ Own w' w.heap.size (.slice a' (spoilL l at' x).length cap') (spoilL l at' x) ∧ Below w.heap.size w w' := by
  cases hi : inB l.length 1 16384
  · have e : spoilL l at' x = [] := by simp [spoilL, hi]
    rw [e]
    go_enter Try.func10, Try.ntmps10
    go_wp2_with (go_at_call 34; refine (within_any _ _ _ _).mono ?_; rintro e w1 ⟨rfl, hw⟩; obtain rfl := hw.symm; rw [hi])
    go_ret
    exact ⟨none, 0, rfl, Own.nil _ _, Below.refl _ _⟩
  · have hi' := (inB_iff _ _ _).mp hi
    have m0 := modI_ge at' l.length (by omega)
    have m1 := modI_lt at' l.length (by omega)
    have e : spoilL l at' x = l.set (modI at' l.length).toNat (xorB (l[(modI at' l.length).toNat]?.getD 0) (1 + modI x 255)) := by unfold spoilL; rw [if_pos hi]
    rw [e]
    obtain ⟨k, hk⟩ := Int.eq_ofNat_of_zero_le m0
    rw [hk, Int.toNat_natCast, List.length_set]
    have hkl : k < l.length := by omega
    have n0 := modI_ge x 255 (by omega)
    have n1 := modI_lt x 255 (by omega)
    obtain ⟨cc, hcc⟩ : ∃ z, z = l[k]?.getD 0 := ⟨_, rfl⟩
    rw [← hcc]
    go_enter Try.func10, Try.ntmps10
    go_wp2_with (first
      | (go_at_call 34; refine (within_any _ _ _ _).mono ?_; rintro e w1 ⟨rfl, hw⟩; obtain rfl := hw.symm; rw [hi])
      | (go_at_call 35; refine (clone_any b off cap l _ hv (by omega)).mono ?_; rintro e w2 ⟨a2, cap2, rfl, ho2, hb2⟩; obtain ⟨g, cg, eg⟩ := ho2.shape' (by omega); simp only [Value.slice.injEq] at eg; obtain ⟨rfl, _, rfl⟩ := eg; have hfz := ho2.2.frozenAt k; have hcl : w2.cell? ⟨g, k, none⟩ = some (.int .u8 cc) := (by rw [hcc, ho2.2.cellAt k (by omega)]; simp [hkl]); have h8 := byte_at ho2.1 k; rw [← hcc] at h8; have HO : Hid (Own w2 w.heap.size (.slice (some ⟨g, 0, none⟩) l.length cap2) l) := ho2; clear ho2))
    have hxb := xorB_byte (cc) (1 + modI x 255) h8.1 h8.2 (by omega) (by omega)
    have HST := HO.out.store k _ hxb
    have HS : Hid (Own (w2.setCell ⟨g, k, none⟩ (.int .u8 (xorB (cc) (1 + modI x 255)))) w.heap.size (.slice (some ⟨g, 0, none⟩) l.length cap2) (l.set k (xorB (cc) (1 + modI x 255)))) := HST
    have hgB : w.heap.size ≤ g := (HO.out.2.lt g rfl).1
    have HB : Hid (Below w.heap.size w (w2.setCell ⟨g, k, none⟩ (.int .u8 (xorB (cc) (1 + modI x 255))))) := hb2.setCell hgB _
    have hkl' : (k : Int) < (l.length : Int) := by omega
    have hw1 : IntKind.i64.wrap (1 + modI x 255) = 1 + modI x 255 := by simp [IntKind.wrap, IntKind.signed, IntKind.bits]; omega
    have hw2 : IntKind.u8.wrap (1 + modI x 255) = 1 + modI x 255 := by simp [IntKind.wrap, IntKind.signed, IntKind.bits]; omega
    clear hb2 hv hi hkl HST hxb HO e hcc
    go_region_with (go_at_call 36; refine (mod_any _ _ (by omega) (by omega) (by omega) (by omega) _).mono ?_; rintro e w3 ⟨rfl, hw⟩; obtain rfl := hw.symm; (try rw [hk]))
    all_goals go_wp2
    all_goals go_ret
    all_goals exact ⟨_, _, rfl, HS.out, HB.out.drew⟩

theorem take_set_step (l : List Int) (p : Nat) (z : Int) (k : Nat) (h : k < l.length) : (l.set p z).take (k + 1) = (l.set p z).take k ++ [if k = p then z else l[k]?.getD 0] := by
  have hk : k < (l.set p z).length := by rw [List.length_set]; exact h
  rw [List.take_succ_eq_append_getElem hk, List.getElem_set]
  congr 2
  by_cases e : p = k
  · rw [if_pos e, if_pos e.symm]
  · rw [if_neg e, if_neg (fun h => e h.symm), List.getElem?_eq_getElem h]; rfl

set_option maxHeartbeats 4000000 in
set_option maxRecDepth 100000 in
theorem sSpoil_any (a : Option Addr) (cap : Nat) (l : List Int) (at' x : Int) (w : World) (hv : Bs w (.slice a l.length cap) l) (hl : l.length ≤ 1048576) (ha : -(2 ^ 63) ≤ at') (ha' : at' < 2 ^ 63) (hx : -(2 ^ 63) ≤ x) (hx' : x < 2 ^ 63) :
    Calls Try.prog 8 #[.slice a l.length cap, .int .i64 at', .int .i64 x] w fun e w' => ∃ a' cap', e = .returned (.slice a' (spoilL l at' x).length cap') ∧ Own w' w.heap.size (.slice a' (spoilL l at' x).length cap') (spoilL l at' x) ∧ Below w.heap.size w w' := by
  have h0 : Hid (Own (w.alloc (.cells #[] 5)) w.heap.size (.slice (some ⟨w.heap.size, 0, none⟩) 0 0) []) := Own.lit0 w
  have hb0 : Hid (Below w.heap.size w (w.alloc (.cells #[] 5))) := (Below.refl _ _).alloc (Nat.le_refl _) _
  by_cases hl0 : l.length = 0
  · have e : spoilL l at' x = [] := by have : inB l.length 1 16384 = false := (by rw [inB_not]; omega); simp [spoilL, this]
    rw [e]
    have hz : ((l.length : Int) == 0) = true := by simpa using hl0
    go_enter Try.func8, Try.ntmps8
    go_wp2
    go_ret
    exact ⟨_, _, rfl, h0.out, hb0.out⟩
  by_cases hl1 : (16384 : Int) < l.length
  · have e : spoilL l at' x = [] := by have : inB l.length 1 16384 = false := (by rw [inB_not]; omega); simp [spoilL, this]
    rw [e]
    have hz : ((l.length : Int) == 0) = false := by simpa using hl0
    go_enter Try.func8, Try.ntmps8
    go_wp2
    go_ret
    exact ⟨_, _, rfl, h0.out, hb0.out⟩
  have hi : inB l.length 1 16384 = true := by rw [inB_iff]; omega
  have m0 := modI_ge at' l.length (by omega)
  have m1 := modI_lt at' l.length (by omega)
  have e : spoilL l at' x = l.set (modI at' l.length).toNat (xorB (l[(modI at' l.length).toNat]?.getD 0) (1 + modI x 255)) := by unfold spoilL; rw [if_pos hi]
  rw [e]
  obtain ⟨p, hp⟩ := Int.eq_ofNat_of_zero_le m0
  rw [hp, Int.toNat_natCast]
  have n0 := modI_ge x 255 (by omega)
  have n1 := modI_lt x 255 (by omega)
  obtain ⟨z, hz⟩ : ∃ z, z = xorB (l[p]?.getD 0) (1 + modI x 255) := ⟨_, rfl⟩
  rw [← hz]
  obtain ⟨hml, h8, a', cap', ee, hc⟩ := hv
  injection ee with e1 e2 e3
  subst e1 e3
  have hz8 := xorB_byte (l[p]?.getD 0) (1 + modI x 255) (byte_at h8 p).1 (byte_at h8 p).2 (by omega) (by omega)
  rw [← hz] at hz8
  have hl2 : ((l.length : Int) == 0) = false := by simpa using hl0
  rw [List.length_set]
  clear e2 e
  go_enter Try.func8, Try.ntmps8
  go_wp2_with (go_at_call 33; refine (l1mod_any _ _ (by omega) (by omega) (by omega) (by omega) _).mono ?_; rintro e w3 ⟨rfl, hw⟩; obtain rfl := hw.symm; rw [hp])
  go_loopw [7, 9] (fun o i wr => ∃ k : Nat, k ≤ l.length ∧ i = .int .i64 k ∧ Own wr w.heap.size o ((l.set p z).take k) ∧ Below w.heap.size w wr) (fun _ i _ => l.length - (intOf i).toNat)
  case atStart => exact ⟨0, Nat.zero_le _, rfl, h0.out, hb0.out⟩
  case round =>
    obtain ⟨k, hk, rfl, ho, hb⟩ := hrel
    have hzz := hb.size
    have hlk : ((l.set p z).take k).length = k := by rw [List.length_take, List.length_set]; omega
    by_cases hlt : k < l.length
    · obtain ⟨b, off, rfl, hcell⟩ := hc k hlt
      have hck : wr.cell? ⟨b, off + k, none⟩ = some (.int .u8 (l[k]?.getD 0)) := by rw [hb.cell (cell_lt (hcell k hlt))]; exact hcell k hlt
      have h8k := byte_at h8 k
      have HT : Hid ((l.set p z).take (k + 1) = (l.set p z).take k ++ [if k = p then z else l[k]?.getD 0]) := take_set_step l p z k hlt
      clear hcell h8 hc
      by_cases hkp : k = p
      · subst hkp
        rw [if_pos rfl] at HT
        generalize l[k]?.getD 0 = cc at hck h8k hz
        obtain ⟨z0, z1⟩ := h8k
        go_wp2_with (first
          | (go_at_call 33; refine (l1mod_any _ _ (by omega) (by omega) (by omega) (by omega) _).mono ?_; rintro e w3 ⟨rfl, hw⟩; obtain rfl := hw.symm)
          | (at_builtin; refine wpl_append rfl (.tmp 44) (.tmp 46) rfl (ho.below ((Below.refl _ _).alloc (Nat.le_refl _) _)) rfl (Bs.one _ (bits .xor .u8 cc (1 + modI x 255)) (by have h := hz8; rw [hz] at h; exact h)) rfl (by simp) (by simp; omega) (by simp; omega) ?_; intro v2 w2 ho2 hg2))
        go_roundw
        case rel => exact ⟨k + 1, by omega, by go_num, by rw [HT.out]; have h := ho2; rw [show bits .xor .u8 cc (1 + modI x 255) = z from hz.symm] at h; exact h, hb.trans (((Below.refl _ _).alloc (by omega) _).trans (hg2.below (ho.below ((Below.refl _ _).alloc (Nat.le_refl _) _)) (by simp; omega)))⟩
        case measure => simp [intOf]; omega
      · rw [if_neg hkp] at HT
        have hkp' : ((k : Int) == (p : Int)) = false := by simp; omega
        generalize l[k]?.getD 0 = cc at hck h8k HT
        obtain ⟨z0, z1⟩ := h8k
        go_wp2_with (at_builtin; refine wpl_append rfl (.tmp 44) (.tmp 46) rfl (ho.below ((Below.refl _ _).alloc (Nat.le_refl _) _)) rfl (Bs.one _ cc ⟨z0, z1⟩) rfl (by simp) (by simp; omega) (by simp; omega) ?_; intro v2 w2 ho2 hg2)
        go_roundw
        case rel => exact ⟨k + 1, by omega, by go_num, by rw [HT.out]; exact ho2, hb.trans (((Below.refl _ _).alloc (by omega) _).trans (hg2.below (ho.below ((Below.refl _ _).alloc (Nat.le_refl _) _)) (by simp; omega)))⟩
        case measure => simp [intOf]; omega
    · have e : (l.set p z).take k = l.set p z := List.take_of_length_le (by rw [List.length_set]; omega)
      rw [e] at ho
      obtain ⟨a', cap', rfl⟩ := ho.shape
      go_wp2
      go_ret
      rw [List.length_set] at ho ⊢
      exact ⟨_, _, rfl, ho, hb⟩
end Go.Proofs.Ytdobgdbceonjkab
