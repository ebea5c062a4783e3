/-
  impl's helpers of the library: strings.Split, HasSuffix, Clone.
-/
import Derived.Test.YtanpindbhdeomaaGreatDoorPsIa
import Derived.Test.YtanpindbhdeomaaGreatDoorPsIb
import Derived.Test.YtanpindbhdeomaaGreatDoorPsSp
import Derived.Test.YtanpindbhdeomaaGreatDoorPsLaid
import Derived.Lib.SplitLaws
namespace Go.Proofs.YtanpindbhdeomaaGreatDoor
open Go.RowKit
set_option linter.unusedVariables false
set_option linter.unusedSimpArgs false

/-- what the world of a call holds: the sentinels, the tables, the bound of an index -/
structure EnvP (w : World) : Prop where
  e : ErrsP w
  t : Tabs2 w
  m : ∃ m, w.cell? ⟨laidP146_ren.g 1, 0, none⟩ = some (.int .i64 m)
theorem EnvP.below {w w' : World} (h : EnvP w) (hb : Below w.heap.size w w') : EnvP w' := by
  obtain ⟨m, hm⟩ := h.m
  exact ⟨h.e.below hb, h.t.below hb, m, (hb.cell (cell_lt hm)).trans hm⟩
set_option maxRecDepth 100000 in
theorem splitI_any (c : UInt8) (l : List UInt8) (sep : ByteArray) (hs : sep.data.toList = [c]) (hl : l.length ≤ 65536) (w : World) (he : EnvP w) :
    Calls Tryz.prog 11 #[.string (sOf l), .string sep] w fun e w' => ∃ v, e = .returned v ∧ OwnG txC 1 9 w' w.heap.size v ((spl c l).map sOf) ∧ Below w.heap.size w w' := by
  obtain ⟨m, hm⟩ := he.m
  have h1 : 1 ≤ sep.size := by
    have : sep.data.toList.length = 1 := by rw [hs]; rfl
    have h2 : sep.data.toList.length = sep.size := Array.length_toList
    omega
  have hsz : (sOf l).size = l.length := sOf_size l
  have hls : (sOf l).data.toList = l := list_sOf l
  have h := Any.strings_Split laidP146 (by kernel_rfl) (sOf l) sep m w (by omega) hm h1
  refine Calls.mono h ?_
  rintro e w' ⟨rfl, rfl⟩
  have hlen := Lib.splitB_all sep h1 0 _ (sOf l) rfl
  have hsp := split_spl c (sOf l) sep hs
  rw [hls] at hsp
  have hmap : (spl c l).map sOf = Lib.splitB sep 0 (Lib.countB (sOf l) sep) (sOf l) := by
    rw [← hsp, List.map_map]
    refine List.map_id'' (fun x => ?_) _
    show sOf x.data.toList = x
    simp [sOf]
  have hcl : (spl c l).length ≤ 65537 := by have := splA_len c l []; unfold spl; omega
  refine ⟨_, rfl, ?_, (Below.refl _ _).alloc (Nat.le_refl _) _⟩
  have h3 := OwnG.lit txLaw w w.heap.size ((spl c l).map sOf) (((Lib.splitB sep 0 (Lib.countB (sOf l) sep) (sOf l)).map Value.string).toArray) (by rw [gC_tx, hmap]) (by rw [List.length_map]; unfold maxLen; omega) (Nat.le_refl _)
  rw [show ((spl c l).map sOf).length = Lib.countB (sOf l) sep + 1 by rw [hmap, hlen]] at h3
  exact h3
theorem suffix_last (t : List UInt8) (c : UInt8) : Lib.hasSuffix t [c] = decide (t.getLast? = some c) := by
  unfold Lib.hasSuffix
  rw [Bool.eq_iff_iff, List.isSuffixOf_iff_suffix, decide_eq_true_eq]
  constructor
  · rintro ⟨r, rfl⟩
    simp
  · intro h
    obtain ⟨r, hr⟩ := List.getLast?_eq_some_iff.1 h
    exact ⟨r, hr.symm⟩
theorem hasSuffix_any (t : List UInt8) (ht : t.length ≤ 65536) (w : World) :
    Calls Tryz.prog 10 #[.string (sOf t), .string ⟨#[10]⟩] w fun e w' => e = .returned (.bool (decide (t.getLast? = some 10))) ∧ w' = w := by
  have h := Any.strings_HasSuffix laidP100 (sOf t) ⟨#[10]⟩ w (by rw [sOf_size]; omega)
  rw [list_sOf t, show (⟨#[10]⟩ : ByteArray).data.toList = [10] from rfl, suffix_last] at h
  exact h
set_option maxRecDepth 100000 in
theorem cloneI_any (s : ByteArray) (hs : s.size ≤ 65536) (w : World) :
    Calls Tryz.prog 66 #[.string s] w fun e w' => e = .returned (.string s) ∧ Below w.heap.size w w' := by
  have HC : Hid (∀ z, Calls Tryz.prog 77 #[.string s] z fun e w' => e = .returned (.string s) ∧ Below z.heap.size z w') := fun z => Any.stringslite_Clone laidP316 s z (by omega)
  go_enter Tryz.func66, Tryz.ntmps66
  go_wp2_with (go_at_call 77; refine (HC.out _).mono ?_; rintro e w5 ⟨rfl, hb5⟩)
  go_ret
  exact ⟨rfl, hb5⟩
end Go.Proofs.YtanpindbhdeomaaGreatDoor
