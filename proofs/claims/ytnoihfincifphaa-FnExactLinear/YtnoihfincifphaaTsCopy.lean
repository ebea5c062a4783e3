/-
  spec.l5copy.
-/
import Derived.Test.YtnoihfincifphaaTbCmdP
namespace Go.Proofs.Ytnoihfincifphaa
open Go.RowKit Go.Maps
set_option linter.unusedVariables false
set_option linter.unusedSimpArgs false

set_option maxHeartbeats 8000000 in
set_option maxRecDepth 100000 in
theorem l5copy_any (v u : Value) (ps : List Pr) (ss : List Se) (w : World) (hv : Ps w v ps) (hu : Ss w u ss) (hn : ps.length ≤ 1000000) (hm : ss.length ≤ 1000000) :
    Calls Try.prog 66 #[.agg #[v, u]] w fun e w' => ∃ va vc ua uc, e = .returned (.agg #[.slice va ps.length vc, .slice ua ss.length uc]) ∧ TabO w' w.heap.size (.slice va ps.length vc) (.slice ua ss.length uc) ps ss ∧ Below w.heap.size w w' := by
  obtain ⟨a, cap, rfl⟩ : ∃ a cap, v = .slice a ps.length cap := by obtain ⟨_, a, cap, e, _⟩ := hv; exact ⟨a, cap, e⟩
  obtain ⟨a2, cap2, rfl⟩ : ∃ a cap, u = .slice a ss.length cap := by obtain ⟨_, a, cap, e, _⟩ := hu; exact ⟨a, cap, e⟩
  have HV : Hid (Ps w (.slice a ps.length cap) ps) := hv
  have HU : Hid (Ss w (.slice a2 ss.length cap2) ss) := hu
  clear hv hu
  obtain ⟨W, hW⟩ : ∃ W, W = (((w.alloc (.cells #[.slice a ps.length cap, .slice a2 ss.length cap2] 42)).alloc (.cells #[.slice none 0 0, .slice none 0 0] 42)).alloc (.cells #[.slice none 0 0, .slice none 0 0] 42)) := ⟨_, rfl⟩
  have HB : Hid (Below w.heap.size w W) := by
    rw [hW]; exact (((Below.refl _ _).alloc (Nat.le_refl _) _).alloc (by simp) _).alloc (by simp; omega) _
  have BX : Hid (Blk W w.heap.size #[.slice a ps.length cap, .slice a2 ss.length cap2] 42) := by rw [hW]; exact ((Blk.new _ _ _).alloc _).alloc _
  have BR : Hid (Blk W (w.heap.size + 1) #[.slice none 0 0, .slice none 0 0] 42) := by rw [hW]; exact (Blk.new' _ _ _ (by simp)).alloc _
  have BO : Hid (Blk W (w.heap.size + 1 + 1) #[.slice none 0 0, .slice none 0 0] 42) := by rw [hW]; exact Blk.new' _ _ _ (by simp)
  have hWz : W.heap.size = w.heap.size + 3 := by rw [hW]; simp
  go_enter Try.func66, Try.ntmps66
  go_wp2
  rw [← hW]
  clear hW
  go_loopw [4] (fun i wr => ∃ (k : Nat) (va : Option Addr) (vc : Nat), k ≤ ps.length ∧ i = .int .i64 k ∧ OwnPr wr W.heap.size (.slice va k vc) (ps.take k) ∧ Blk wr (w.heap.size + 1 + 1) #[.slice va k vc, .slice none 0 0] 42 ∧ W.grownBy wr (some (w.heap.size + 1 + 1))) (fun i _ => ps.length - (RowKit.intOf i).toNat)
  case atStart => exact ⟨0, none, 0, Nat.zero_le _, rfl, OwnG.nil _ _ _ _ _, BO.out, grownBy_refl _ _⟩
  case round =>
    obtain ⟨k, va, vc, hk, rfl, hO, hQ, hG⟩ := hrel
    have HO : Hid (OwnPr wr W.heap.size (.slice va k vc) (ps.take k)) := hO
    have HQ : Hid (Blk wr (w.heap.size + 1 + 1) #[.slice va k vc, .slice none 0 0] 42) := hQ
    have HG : Hid (W.grownBy wr (some (w.heap.size + 1 + 1))) := hG
    have hsz := hG.size
    have hb : Hid (Below w.heap.size w wr) := HB.out.trans ⟨hG.os, hG.tape, hG.output, hG.size, fun j hj => hG.block j (by omega) (by simp; omega)⟩
    have bX : Blk wr w.heap.size #[.slice a ps.length cap, .slice a2 ss.length cap2] 42 := BX.out.keep (hG.block _ (by omega) (by simp; omega))
    have x0 : wr.cell? ⟨w.heap.size, 0, none⟩ = some (.slice a ps.length cap) := bX.cell 0
    have o0 : wr.cell? ⟨w.heap.size + 1 + 1, 0, none⟩ = some (.slice va k vc) := hQ.cell 0
    by_cases hlt : k < ps.length
    · obtain ⟨b, off, rfl, hj⟩ := Ps.at_ (HV.out.below hb.out) hlt
      obtain ⟨c0, c1⟩ := hj k hlt
      have HTk : Hid (ps.take (k + 1) = ps.take k ++ [ps[k]]) := List.take_succ_eq_append_getElem hlt
      clear hj hO hQ hG bX
      generalize ps[k] = p at *
      have HNO : Hid ((Value.slice va k vc).ownBlock ≠ some (w.heap.size + 1 + 1)) := fun e => by have := (HO.out.lts _ e).1; omega
      have pa : ∀ (o : Obj) (j : Nat), (wr.alloc o).cell? ⟨w.heap.size + 1 + 1, j, none⟩ = wr.cell? ⟨w.heap.size + 1 + 1, j, none⟩ := fun o j => World.cell?_alloc_lt _ _ _ (by show w.heap.size + 1 + 1 < wr.heap.size; omega)
      have pa' : ∀ (o : Obj) (j : Nat), (wr.drew.alloc o).cell? ⟨w.heap.size + 1 + 1, j, none⟩ = wr.cell? ⟨w.heap.size + 1 + 1, j, none⟩ := fun o j => World.cell?_alloc_lt _ _ _ (by show w.heap.size + 1 + 1 < wr.heap.size; omega)
      have hne1 : ¬ wr.heap.size = w.heap.size + 1 + 1 := by omega
      have hne2 : ¬ w.heap.size + 1 + 1 = wr.heap.size := by omega
      go_wp2
      go_region_law
        (refine stp_appendG prLaw rfl (.tmp 15) (.tmp 21) rfl p (OwnG.below (OwnG.below HO.out ((Below.refl _ _).drew)) ((Below.refl _ _).alloc (Nat.le_refl _) _)) rfl wr.heap.size 1 (range_new' wr.drew (prC p) 135) rfl (by rw [List.length_take]; omega) (by simp; omega) ?_; intro v3 w3 ho3 hg3; obtain ⟨a3, cap3, rfl⟩ := ho3.shape; rw [← HTk.out] at ho3 hg3 ⊢; rw [List.length_take, Nat.min_eq_left (by omega)] at ho3 hg3 ⊢; have HO3 : Hid (OwnPr w3 W.heap.size (.slice a3 (k + 1) cap3) (ps.take (k + 1))) := ho3; have HG3 : Hid (Grew _ (.slice va k vc) w3 (.slice a3 (k + 1) cap3)) := hg3; have HQ3 : Hid (Blk w3 (w.heap.size + 1 + 1) #[.slice va k vc, .slice none 0 0] 42) := (HQ.out.drew.alloc _).grewG hg3 HNO.out; have p0 : w3.cell? ⟨w.heap.size + 1 + 1, 0, none⟩ = some (.slice va k vc) := HQ3.out.cell 0; have pf := HQ3.out.free; clear ho3 hg3)
      all_goals go_wp2
      all_goals (
        go_roundw
        case rel => exact ⟨k + 1, a3, cap3, by omega, by go_num, HO3.out.block (fun j e => Below.heap_setCell _ _ _ _ (by have := (HO3.out.lts j e).1; simp only []; omega)), HQ3.out.set 0 _, grown_app HG.out ((Below.refl _ _).drew.alloc (Nat.le_refl _) _) HG3.out (fun j e => (HO.out.lts j e).1) 0 _⟩
        case measure => simp [RowKit.intOf]; omega)
    · obtain rfl : k = ps.length := by omega
      rw [List.take_length] at hO
      have HOP : Hid (OwnPr wr W.heap.size (.slice va ps.length vc) ps) := hO
      have BR2 : Hid (Blk wr (w.heap.size + 1) #[.slice none 0 0, .slice none 0 0] 42) := BR.out.keep (hG.block _ (by omega) (by simp))
      have BX2 : Hid (Blk wr w.heap.size #[.slice a ps.length cap, .slice a2 ss.length cap2] 42) := bX
      have HLP : Hid (∀ j, (Value.slice va ps.length vc).ownBlock = some j → W.heap.size ≤ j ∧ j < wr.heap.size) := fun j e => hO.lts j e
      clear hO hQ hG bX HO HG o0 BR BX BO HB
      obtain ⟨W2, hW2⟩ : ∃ W2, W2 = wr := ⟨_, rfl⟩
      have hzw : w.heap.size + 3 ≤ W2.heap.size := by rw [hW2]; omega
      subst hW2
      go_wp2
      go_loopw [5] (fun i wr => ∃ (k : Nat) (ua : Option Addr) (uc : Nat), k ≤ ss.length ∧ i = .int .i64 k ∧ OwnSe wr W2.heap.size (.slice ua k uc) (ss.take k) ∧ Blk wr (w.heap.size + 1 + 1) #[.slice va ps.length vc, .slice ua k uc] 42 ∧ W2.grownBy wr (some (w.heap.size + 1 + 1))) (fun i _ => ss.length - (RowKit.intOf i).toNat)
      case atStart => exact ⟨0, none, 0, Nat.zero_le _, rfl, OwnG.nil _ _ _ _ _, HQ.out, grownBy_refl _ _⟩
      case round =>
        obtain ⟨k, ua, uc, hk, rfl, hO, hQ, hG⟩ := hrel
        have HO : Hid (OwnSe wr W2.heap.size (.slice ua k uc) (ss.take k)) := hO
        have HQ5 : Hid (Blk wr (w.heap.size + 1 + 1) #[.slice va ps.length vc, .slice ua k uc] 42) := hQ
        have HG : Hid (W2.grownBy wr (some (w.heap.size + 1 + 1))) := hG
        have hsz := hG.size
        have hbb : Hid (Below w.heap.size w wr) := hb.out.trans ⟨hG.os, hG.tape, hG.output, hG.size, fun j hj => hG.block j (by omega) (by simp; omega)⟩
        have bX : Blk wr w.heap.size #[.slice a ps.length cap, .slice a2 ss.length cap2] 42 := BX2.out.keep (hG.block _ (by omega) (by simp; omega))
        have x1 : wr.cell? ⟨w.heap.size, 1, none⟩ = some (.slice a2 ss.length cap2) := bX.cell 1
        have o0 : wr.cell? ⟨w.heap.size + 1 + 1, 0, none⟩ = some (.slice va ps.length vc) := hQ.cell 0
        have o1 : wr.cell? ⟨w.heap.size + 1 + 1, 1, none⟩ = some (.slice ua k uc) := hQ.cell 1
        by_cases hlt : k < ss.length
        · obtain ⟨b, off, rfl, hj⟩ := Ss.at_ (HU.out.below hbb.out) hlt
          obtain ⟨c0, c1, c2, c3⟩ := hj k hlt
          have HTk : Hid (ss.take (k + 1) = ss.take k ++ [ss[k]]) := List.take_succ_eq_append_getElem hlt
          clear hj hO hQ hG bX
          generalize ss[k] = p at *
          have HNO : Hid ((Value.slice ua k uc).ownBlock ≠ some (w.heap.size + 1 + 1)) := fun e => by have := (HO.out.lts _ e).1; omega
          have pa : ∀ (o : Obj) (j : Nat), (wr.alloc o).cell? ⟨w.heap.size + 1 + 1, j, none⟩ = wr.cell? ⟨w.heap.size + 1 + 1, j, none⟩ := fun o j => World.cell?_alloc_lt _ _ _ (by show w.heap.size + 1 + 1 < wr.heap.size; omega)
          have pa' : ∀ (o : Obj) (j : Nat), (wr.drew.alloc o).cell? ⟨w.heap.size + 1 + 1, j, none⟩ = wr.cell? ⟨w.heap.size + 1 + 1, j, none⟩ := fun o j => World.cell?_alloc_lt _ _ _ (by show w.heap.size + 1 + 1 < wr.heap.size; omega)
          have hne1 : ¬ wr.heap.size = w.heap.size + 1 + 1 := by omega
          have hne2 : ¬ w.heap.size + 1 + 1 = wr.heap.size := by omega
          go_wp2
          go_region_law
            (refine stp_appendG seLaw rfl (.tmp 32) (.tmp 38) rfl p (OwnG.below (OwnG.below HO.out ((Below.refl _ _).drew)) ((Below.refl _ _).alloc (Nat.le_refl _) _)) rfl wr.heap.size 1 (range_new' wr.drew (seC p) 120) rfl (by rw [List.length_take]; omega) (by simp; omega) ?_; intro v3 w3 ho3 hg3; obtain ⟨a3, cap3, rfl⟩ := ho3.shape; rw [← HTk.out] at ho3 hg3 ⊢; rw [List.length_take, Nat.min_eq_left (by omega)] at ho3 hg3 ⊢; have HO3 : Hid (OwnSe w3 W2.heap.size (.slice a3 (k + 1) cap3) (ss.take (k + 1))) := ho3; have HG3 : Hid (Grew _ (.slice ua k uc) w3 (.slice a3 (k + 1) cap3)) := hg3; have HQ3 : Hid (Blk w3 (w.heap.size + 1 + 1) #[.slice va ps.length vc, .slice ua k uc] 42) := (HQ5.out.drew.alloc _).grewG hg3 HNO.out; have p0 : w3.cell? ⟨w.heap.size + 1 + 1, 1, none⟩ = some (.slice ua k uc) := HQ3.out.cell 1; have pf := HQ3.out.free; clear ho3 hg3)
          all_goals go_wp2
          all_goals (
            go_roundw
            case rel => exact ⟨k + 1, a3, cap3, by omega, by go_num, HO3.out.block (fun j e => Below.heap_setCell _ _ _ _ (by have := (HO3.out.lts j e).1; simp only []; omega)), HQ3.out.set 1 _, grown_app HG.out ((Below.refl _ _).drew.alloc (Nat.le_refl _) _) HG3.out (fun j e => (HO.out.lts j e).1) 1 _⟩
            case measure => simp [RowKit.intOf]; omega)
        · obtain rfl : k = ss.length := by omega
          rw [List.take_length] at hO
          have HSE : Hid (OwnSe wr W2.heap.size (.slice ua ss.length uc) ss) := hO
          have HPE : Hid (OwnPr wr W.heap.size (.slice va ps.length vc) ps) := HOP.out.block fun j e => hG.block j (HOP.out.lts j e).2 (by have := (HOP.out.lts j e).1; simp; omega)
          have BRE : Hid (Blk wr (w.heap.size + 1) #[.slice none 0 0, .slice none 0 0] 42) := BR2.out.keep (hG.block _ (by omega) (by simp))
          have r0 : wr.cell? ⟨w.heap.size + 1, 0, none⟩ = some (.slice none 0 0) := BRE.out.cell 0
          have r1 : wr.cell? ⟨w.heap.size + 1, 1, none⟩ = some (.slice none 0 0) := BRE.out.cell 1
          have fr := BRE.out.free
          clear hO hQ hG bX HO HG
          go_wp2
          refine bodyPost_ret (v := .agg #[.slice va ps.length vc, .slice ua ss.length uc]) (by simp [results, Try.results66, go_sem, *]) rfl ⟨va, vc, ua, uc, rfl, ⟨?_, ?_, ?_⟩, ?_⟩
          · exact (HPE.out.block fun j e => by have := (HPE.out.lts j e).1; rw [Below.heap_setCell _ _ _ _ (by simp only []; omega), Below.heap_setCell _ _ _ _ (by simp only []; omega)]).le (by omega)
          · exact (HSE.out.block fun j e => by have := (HSE.out.lts j e).1; rw [Below.heap_setCell _ _ _ _ (by simp only []; omega), Below.heap_setCell _ _ _ _ (by simp only []; omega)]).le (by omega)
          · intro j e e'
            have h1 := (HSE.out.lts j e).1
            have h2 := (HLP.out j e').2
            omega
          · exact (hbb.out.setCell (by simp) _).setCell (by simp) _
end Go.Proofs.Ytnoihfincifphaa
