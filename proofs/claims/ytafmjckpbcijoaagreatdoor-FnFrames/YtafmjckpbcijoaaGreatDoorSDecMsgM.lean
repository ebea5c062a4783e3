/-
  spec.DecodeMsg: too many entries.
-/
import Derived.Test.YtafmjckpbcijoaaGreatDoorSDecMsg
namespace Go.Proofs.YtafmjckpbcijoaaGreatDoor
open Go.RowKit
set_option linter.unusedVariables false
set_option linter.unusedSimpArgs false

set_option maxHeartbeats 4000000 in
set_option maxRecDepth 100000 in
theorem specDecMsg_many (a : Option Addr) (c : Nat) (l : List Int) (w : World) (hv : Bs w (.slice a l.length c) l) (hc : l.length ≤ c) (h0 : openC l 1 6 = 0) (h32 : 32 < (rdNum (numsK (some (l.drop 9)) 8).2).1) :
    Calls Tryz.prog 42 #[.slice a l.length c] w fun e w' => ∃ ev, e = .returned (.agg #[.int .i64 5, .int .i64 0, .int .i64 0, .int .i64 0, .int .i64 0, .int .i64 0, .int .i64 0, .int .i64 0, .int .i64 0, .int .i64 0, .int .i64 0, ev]) ∧ OwnE w' w.heap.size ev [] ∧ Below w.heap.size w w' := by
  have HV : Hid (Bs w (.slice a l.length c) l) := hv
  have HO : Hid (∀ w', Below w.heap.size w w' → Calls Tryz.prog 68 #[.slice a l.length c, .int .i64 1, .int .i64 6] w' fun e w'' => e = .returned (.int .i64 (openC l 1 6 : Nat)) ∧ Below w'.heap.size w' w'') :=
    fun w' hb => l1open_any a l.length c l 1 6 w' (hv.below hb) hc _ hv.lt
  obtain ⟨h9, h16⟩ := openC_len h0
  rw [h0] at HO
  have HN : ∀ w' st b, SRd w' b (.slice a l.length c) l (b + 1) st → Hid (Calls Tryz.prog 69 #[.pointer (some ⟨b, 0, none⟩)] w' fun e w'' => e = .returned (.int .i64 ((rdNum st).1 : Nat)) ∧ SRd w'' b (.slice a l.length c) l (b + 1) (rdNum st).2 ∧ w'.grownBy w'' (some b)) := fun w' st b h => l1rdNum_any b w' _ l _ st (by omega) h
  clear hv
  go_enter Tryz.func42, Tryz.ntmps42
  go_wp2_with (first
    | (go_at_call 68; refine Calls.mono (HO.out _ (Below.alloc (Below.refl _ _) (Nat.le_refl _) _)) ?_; rintro e w1 ⟨rfl, hb1⟩; have hB1 : Below w.heap.size w w1 := ((Below.refl _ _).alloc (Nat.le_refl _) _).trans (hb1.mono (by simp)); have hz1 : w.heap.size < w1.heap.size := (by have := hb1.size; simp at this; omega); have hT : w1.there w.heap.size 0 12 := there_at hb1)
    | (refine gate_store 112 (.tmp 4) (.tmp 18) rfl ?_; refine wpl_store_new rfl 112 (.tmp 4) (.tmp 18) rfl #[.slice none 0 0, .int .i64 0, .bool false] #[.slice a l.length c, .int .i64 9, .bool false] rfl rfl infoL1rd rfl (by simp [Value.oneCell']) ?_; have hr0 := SRd.start (w := w1) (HV.out.below hB1) hc 9 h9; have hG0 := grown_alloc (grownBy_refl w1 (some w1.heap.size)) (.cells #[.slice a l.length c, .int .i64 9, .bool false] 112)))
  go_loopw [5, 6] (fun v i wr => ∃ k : Nat, k ≤ 9 ∧ i = .int .i64 k ∧ OwnI wr (w1.heap.size + 1) v (numsK (some (l.drop 9)) k).1 ∧ SRd wr w1.heap.size (.slice a l.length c) l (w1.heap.size + 1) (numsK (some (l.drop 9)) k).2 ∧ w1.grownBy wr (some w1.heap.size) ∧ w1.heap.size < wr.heap.size) (fun _ i _ => 9 - (intOf i).toNat)
  case atStart =>
    have hO := OwnI.made (w1.alloc (.cells #[.slice a l.length c, .int .i64 9, .bool false] 112)) (w1.heap.size + 1) (by simp)
    exact ⟨0, by omega, rfl, by simpa [numsK] using hO, SRd.below hr0 ((Below.refl _ _).alloc (by simp) _), grown_alloc hG0 _, by simp; omega⟩
  case round =>
    obtain ⟨k, hk, rfl, ho, hr, hg, hz⟩ := hrel
    by_cases hk9 : k < 9
    · obtain ⟨va, vc, hve⟩ := ho.shape
      rw [numsK_len] at hve
      subst hve
      have hk9' : (k : Int) < 9 := by omega
      go_wp2_with (first
        | (go_at_call 69; refine Calls.mono (HN _ _ _ hr).out ?_; rintro e w2 ⟨rfl, hr2, hg2⟩; have hz2 := hg2.size; have hB2 := (Below.refl w2.heap.size w2).alloc (Nat.le_refl _) (.cells #[.int .i64 ((rdNum (numsK (some (l.drop 9)) k).2).1 : Nat)] 3); have ho2 := (ho.grown hg2 (by omega)).below hB2; have hcell : (w2.alloc (.cells #[.int .i64 ((rdNum (numsK (some (l.drop 9)) k).2).1 : Nat)] 3)).cell? ⟨w2.heap.size, 0, none⟩ = some (.int .i64 ((rdNum (numsK (some (l.drop 9)) k).2).1 : Nat)) := (by simp [World.cell?_alloc_new]))
        | (at_builtin; refine wpl_appendI rfl (.tmp 24) (.tmp 26) rfl _ ho2 rfl w2.heap.size 1 hcell rfl (by rw [numsK_len]; omega) (by simp; omega) ?_; intro v3 w3 ho3 hg3; have hB3 := (hB2.mono (show w1.heap.size + 1 ≤ w2.heap.size by omega)).trans (growI hg3 ho2 (by simp; omega))))
      go_roundw
      case rel => exact ⟨k + 1, by omega, by go_num, ho3, SRd.below hr2 hB3, grown_then (grownBy_trans hg hg2) (hB3.mono (by omega)), by have := hB3.size; omega⟩
      case measure => simp [intOf]; omega
    · have e : k = 9 := by omega
      subst e
      have hr9 := hr
      have ho9 := ho
      clear hr ho hk hk9
      obtain ⟨g, vc, hve⟩ := ho9.shape' (by rw [numsK_len]; omega)
      rw [numsK_len] at hve
      subst hve
      have c8 : wr.cell? ⟨g, 8, none⟩ = some (.int .i64 ((rdNum (numsK (some (l.drop 9)) 8).2).1 : Nat)) := OwnI.cell (l := (numsK (some (l.drop 9)) 9).1) (by rw [numsK_len]; exact ho9) 8 (by rw [numsK_len]; omega)
      have hgl : g < wr.heap.size := (World.ownsRow.lt ho9 g rfl).2
      have hgb : w1.heap.size + 1 ≤ g := (World.ownsRow.lt ho9 g rfl).1
      obtain ⟨_, _, _, _, hfz, _, p, _, k1, k2, _⟩ := hr9
      have n2 : ((⟨w1.heap.size, 2, none⟩ : Addr)) ≠ ⟨g, 8, none⟩ := by intro h; injection h with h _ _; omega
      have cg : ∀ o, (wr.alloc o).cell? ⟨g, 8, none⟩ = some (.int .i64 ((rdNum (numsK (some (l.drop 9)) 8).2).1 : Nat)) := fun o => by rw [World.cell?_alloc_lt _ _ ⟨g, 8, none⟩ hgl]; exact c8
      have cb : ∀ o, (wr.alloc o).cell? ⟨w1.heap.size, 2, none⟩ = some (.bool (numsK (some (l.drop 9)) 9).2.isNone) := fun o => by rw [World.cell?_alloc_lt _ _ ⟨w1.heap.size, 2, none⟩ hz]; exact k2
      have fb : ∀ o, (wr.alloc o).frozen? ⟨w1.heap.size, 2, none⟩ = false := fun o => by rw [World.frozen?_alloc_old _ _ ⟨w1.heap.size, 2, none⟩ (Nat.ne_of_lt hz)]; exact hfz 2
      have hzs : w1.heap.size < (wr.setCell ⟨w1.heap.size, 2, none⟩ (.bool true)).heap.size := by simpa [World.setCell] using hz
      have hgs : g < (wr.setCell ⟨w1.heap.size, 2, none⟩ (.bool true)).heap.size := by simpa [World.setCell] using hgl
      have cg2 : ∀ o, ((wr.setCell ⟨w1.heap.size, 2, none⟩ (.bool true)).alloc o).cell? ⟨g, 8, none⟩ = some (.int .i64 ((rdNum (numsK (some (l.drop 9)) 8).2).1 : Nat)) := fun o => by
        rw [World.cell?_alloc_lt _ _ ⟨g, 8, none⟩ hgs, World.cell?_setCell_other _ _ _ _ n2]; exact c8
      have cb2 : ∀ o, ((wr.setCell ⟨w1.heap.size, 2, none⟩ (.bool true)).alloc o).cell? ⟨w1.heap.size, 2, none⟩ = some (.bool true) := fun o => by
        rw [World.cell?_alloc_lt _ _ ⟨w1.heap.size, 2, none⟩ hzs]; exact World.cell?_setCell_same _ _ _ k2
      have hGr := grownBy_trans hg (Rd.frame (w := wr) (b := w1.heap.size) 2 (.bool true))
      have hT6 := World.there_alloc (there_grown hGr hz1 hT (Nat.le_refl _)) (.cells #[] 87)
      have hB6 := (hB1.trans (below_grown hGr (Nat.le_of_lt hz1) (Nat.le_refl _))).alloc (by omega) (.cells #[] 87)
      have hn32 : (32 : Int) < ((rdNum (numsK (some (l.drop 9)) 8).2).1 : Nat) := by omega
      have hn0 : (0 : Int) < ((rdNum (numsK (some (l.drop 9)) 8).2).1 : Nat) := by omega
      generalize (rdNum (numsK (some (l.drop 9)) 8).2).1 = n at *
      generalize (numsK (some (l.drop 9)) 9).2.isNone = bd at *
      clear HN ho9 hr0 hG0 k1 k2 hfz
      go_wp2
      go_loopw [7, 8] (fun es i wx => es = .slice (some ⟨wr.heap.size, 0, none⟩) 0 0 ∧ i = .int .i64 0 ∧ wx = (wr.setCell ⟨w1.heap.size, 2, none⟩ (.bool true)).alloc (.cells #[] 87)) (fun _ _ _ => 0)
      case atStart => exact ⟨rfl, rfl, rfl⟩
      case round =>
        obtain ⟨rfl, rfl, rfl⟩ := hrel
        go_wp2_with ((refine gate_store 43 (.tmp 2) (.tmp 59) rfl ?_; refine wpList_store_mid rfl 43 (.tmp 2) (.tmp 59) rfl w.heap.size 0 #[.int .i64 5, .int .i64 0, .int .i64 0, .int .i64 0, .int .i64 0, .int .i64 0, .int .i64 0, .int .i64 0, .int .i64 0, .int .i64 0, .int .i64 0, .slice none 0 0] rfl rfl hT6 infoMAns (by simp [Value.oneCell']) ?_; have hra4 := World.rangeAt_setCells_same _ w.heap.size 0 [.int .i64 5, .int .i64 0, .int .i64 0, .int .i64 0, .int .i64 0, .int .i64 0, .int .i64 0, .int .i64 0, .int .i64 0, .int .i64 0, .int .i64 0, .slice none 0 0] hT6; have hld := run_loadVar_mid (P := Tryz.prog) _ w.heap.size 0 43 _ _ hra4 Tryz.underlying43 rfl infoMAns; have hB4 := below_setCells (Nat.le_refl _) [.int .i64 5, .int .i64 0, .int .i64 0, .int .i64 0, .int .i64 0, .int .i64 0, .int .i64 0, .int .i64 0, .int .i64 0, .int .i64 0, .int .i64 0, .slice none 0 0] 0 _ hB6; clear hra4; generalize (World.setCells _ w.heap.size 0 _) = W4 at hld hB4 ⊢))
        refine bodyPost_ret (v := .agg #[.int .i64 5, .int .i64 0, .int .i64 0, .int .i64 0, .int .i64 0, .int .i64 0, .int .i64 0, .int .i64 0, .int .i64 0, .int .i64 0, .int .i64 0, .slice none 0 0]) ?_ rfl ⟨_, rfl, OwnE.nil _ _, hB4⟩
        exact results_cell Tryz.results42 rfl hld
end Go.Proofs.YtafmjckpbcijoaaGreatDoor
