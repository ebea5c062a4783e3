/-
  spec.l5apply whole.
-/
import Derived.Test.YtnoihfincifphaaTsApply
namespace Go.Proofs.Ytnoihfincifphaa
open Go.RowKit Go.Maps
set_option linter.unusedVariables false
set_option linter.unusedSimpArgs false

theorem l5apply_any (vv uu : Value) (ps : List Pr) (ss : List Se) (cl sq op : Int) (k v o : ByteArray) (w : World) (hv : Ps w vv ps) (hu : Ss w uu ss) (hP : PsOk ps) (hS : SsOk ss) (hm : ss.length ≤ 1000000) (hop : 0 ≤ op ∧ op ≤ 4) (hcl : op ≠ 0 → 1 ≤ cl ∧ cl ≤ 8) :
    Calls Try.prog 38 #[.agg #[vv, uu], .agg #[.int .i64 cl, .int .i64 sq, .int .i64 op, .string k, .string v, .string o]] w fun e w' => AnsT w w' e (applyC ps ss cl sq op k v o) := by
  obtain ⟨a, cap, rfl⟩ : ∃ a cap, vv = .slice a ps.length cap := by obtain ⟨_, a, cap, e, _⟩ := hv; exact ⟨a, cap, e⟩
  obtain ⟨a2, cap2, rfl⟩ : ∃ a cap, uu = .slice a ss.length cap := by obtain ⟨_, a, cap, e, _⟩ := hu; exact ⟨a, cap, e⟩
  have hn := hP.len
  have hcp : CpIn a cap a2 cap2 ps ss w := fun u hb => l5copy_any _ _ ps ss u (hv.below hb) (hu.below hb) (by omega) hm
  by_cases h0 : op = 0
  · subst h0
    rw [applyC, if_pos rfl]
    exact apNone a cap a2 cap2 ps ss cl sq k v o w hcp
  have hc := hcl h0
  have H : ApIn a cap a2 cap2 ps ss cl sq k v w := ⟨hcp,
    fun u hb => l5session_any _ _ ss cl u ⟨_, _, _, rfl⟩ (hu.below hb) (by omega),
    fun u hb => l5value_any _ _ ps k u (hv.below hb) ⟨_, _, _, rfl⟩ (by omega),
    fun u hb => by rw [← withR_put]; exact l5with_put _ ps k v u (hv.below hb) (by omega),
    fun u hb => by rw [← withR_del ps k v]; exact l5with_del _ ps k v u (hv.below hb) (by omega),
    fun r t u hb => l5withSession_any _ ss ⟨cl, sq, r, t⟩ u (hu.below hb) hS hc⟩
  by_cases h1 : sq < (sesOf ss cl).sq
  · rw [applyC, if_neg h0, if_pos h1]
    exact apOld a cap a2 cap2 ps ss cl sq op k v o w H h0 h1
  by_cases h2 : (sesOf ss cl).sq = sq
  · rw [applyC, if_neg h0, if_neg h1, if_pos h2]
    exact apSame a cap a2 cap2 ps ss cl sq op k v o w H h0 h2
  have h3 : (sesOf ss cl).sq < sq := by omega
  rw [applyC, if_neg h0, if_neg h1, if_neg h2]
  rcases (show op = 1 ∨ op = 2 ∨ op = 3 ∨ op = 4 by omega) with rfl | rfl | rfl | rfl
  · cases hp : prOf ps k with
    | none => rw [show carry ps 1 k v o = (2, tx0, ps) by simp [carry, hp]]; exact apGet0 a cap a2 cap2 ps ss cl sq k v o w H h3 hp
    | some p => rw [show carry ps 1 k v o = (1, p.v, ps) by simp [carry, hp]]; exact apGet1 a cap a2 cap2 ps ss cl sq k v o w H h3 p hp
  · cases hp : prOf ps k with
    | none =>
      by_cases hl : ps.length < 256
      · rw [show carry ps 2 k v o = (1, tx0, kPut prK ⟨k, v⟩ ps) by simp [carry, hp, show ¬ ps.length = 256 by omega]]; exact apPut0 a cap a2 cap2 ps ss cl sq k v o w H h3 hp hl
      · rw [show carry ps 2 k v o = (4, tx0, ps) by simp [carry, hp, show ps.length = 256 by omega]]; exact apPutF a cap a2 cap2 ps ss cl sq k v o w H h3 hp hl
    | some p => rw [show carry ps 2 k v o = (1, tx0, kPut prK ⟨k, v⟩ ps) by simp [carry, hp]]; exact apPut1 a cap a2 cap2 ps ss cl sq k v o w H h3 p hp
  · cases hp : prOf ps k with
    | none => rw [show carry ps 3 k v o = (2, tx0, ps) by simp [carry, hp]]; exact apDel0 a cap a2 cap2 ps ss cl sq k v o w H h3 hp
    | some p => rw [show carry ps 3 k v o = (1, p.v, kDel prK (txK k) ps) by simp [carry, hp]]; exact apDel1 a cap a2 cap2 ps ss cl sq k v o w H h3 p hp
  · cases hp : prOf ps k with
    | none => rw [show carry ps 4 k v o = (2, tx0, ps) by simp [carry, hp]]; exact apCas0 a cap a2 cap2 ps ss cl sq k v o w H h3 hp
    | some p =>
      by_cases ho : p.v = o
      · rw [show carry ps 4 k v o = (1, tx0, kPut prK ⟨k, v⟩ ps) by simp [carry, hp, ho]]; exact apCas1 a cap a2 cap2 ps ss cl sq k v o w H h3 p hp ho
      · rw [show carry ps 4 k v o = (3, p.v, ps) by simp [carry, hp, ho]]; exact apCasD a cap a2 cap2 ps ss cl sq k v o w H h3 p hp ho
end Go.Proofs.Ytnoihfincifphaa
