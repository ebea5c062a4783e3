/-
  impl.tableOf.
-/
import Derived.Test.YtnoihfincifphaaTbBase
import Derived.Test.YtnoihfincifphaaBlk
import Derived.Test.YtnoihfincifphaaGrow
import Derived.StringKeys
namespace Go.Proofs.Ytnoihfincifphaa
open Go.RowKit Go.Maps
set_option linter.unusedVariables false
set_option linter.unusedSimpArgs false

theorem lawS : Keyed Try.prog 9 := string_keyed Try.underlying9
theorem lawI : Keyed Try.prog 3 := int_keyed Try.underlying3
theorem keyS {k : ByteArray} (h : k.size ≤ 1048576) : keyOf Try.prog 9 (.string k) = some (txK k) := Go.WideMaps.keyOf_string_mk Try.underlying9 (by unfold maxLen; omega)
theorem keyI {x : Int} (h0 : -1152921504606846976 ≤ x) (h1 : x ≤ 1152921504606846976) : keyOf Try.prog 3 (.int .i64 x) = some (.int .i64 x) := keyOf_int_mk Try.underlying3 (WalkArith.wf_i64 (by omega))
/-- the tightest bound -/
theorem tight {H : Type} {P : Program} {k : TypeId} {R : Value → Option (DataW H × List MemPlace)} {w : World} {b n : Nat} {D : DataW H} (h : w.ownsMap P k R b n D) : w.ownsMap P k R b (Maps.size D) D := by
  obtain ⟨es, clock, hb, F, hs, hD⟩ := h
  refine ⟨es, clock, hb, F, ?_, hD⟩
  rw [hD]
  simp [Maps.size, length_sorted]
/-- the pairs' map in block b; the sessions' -/
def MP (w : World) (b : Nat) (ps : List Pr) : Prop := w.ownsMap Try.prog 9 heldE b ps.length (kMap prK prV ps)
def MS (w : World) (b : Nat) (ss : List Se) : Prop := w.ownsMap Try.prog 3 heldE b ss.length (kMap seK seV ss)
theorem MP.of {w : World} {b n : Nat} {ps : List Pr} (h : w.ownsMap Try.prog 9 heldE b n (kMap prK prV ps)) : MP w b ps := by have := tight h; rwa [size_kMap] at this
theorem MS.of {w : World} {b n : Nat} {ps : List Se} (h : w.ownsMap Try.prog 3 heldE b n (kMap seK seV ps)) : MS w b ps := by have := tight h; rwa [size_kMap] at this
theorem MP.keep {w w' : World} {b : Nat} {ps : List Pr} (h : MP w b ps) (hb : w'.heap[b]? = w.heap[b]?) : MP w' b ps := by
  obtain ⟨es, clock, hb', r⟩ := h
  exact ⟨es, clock, hb.trans hb', r⟩
theorem MS.keep {w w' : World} {b : Nat} {ps : List Se} (h : MS w b ps) (hb : w'.heap[b]? = w.heap[b]?) : MS w' b ps := by
  obtain ⟨es, clock, hb', r⟩ := h
  exact ⟨es, clock, hb.trans hb', r⟩
theorem MP.lt {w : World} {b : Nat} {ps : List Pr} (h : MP w b ps) : b < w.heap.size := World.ownsMap.lt h
theorem MS.lt {w : World} {b : Nat} {ps : List Se} (h : MS w b ps) : b < w.heap.size := World.ownsMap.lt h
theorem MP.below {w w' : World} {b : Nat} {ps : List Pr} (h : MP w b ps) (hb : Below w.heap.size w w') : MP w' b ps := h.keep (hb.block b h.lt)
theorem MS.below {w w' : World} {b : Nat} {ps : List Se} (h : MS w b ps) (hb : Below w.heap.size w w') : MS w' b ps := h.keep (hb.block b h.lt)
theorem MP.alloc {w : World} {b : Nat} {ps : List Pr} (h : MP w b ps) (o : Obj) : MP (w.alloc o) b ps := World.ownsMap.alloc h o
theorem MS.alloc {w : World} {b : Nat} {ps : List Se} (h : MS w b ps) (o : Obj) : MS (w.alloc o) b ps := World.ownsMap.alloc h o
/-- m[p.k] = p -/
theorem MP.put {w' : World} {b n : Nat} {ps : List Pr} (hr : KRise prK ps) (p : Pr) (h : w'.ownsMap Try.prog 9 heldE b n ((kMap prK prV ps).put (txK p.k) (.held (prV p)))) : MP w' b (kPut prK p ps) := by
  have e := put_rise prOrd prV hr p
  rw [show prK p = txK p.k from rfl] at e
  rw [e] at h
  exact MP.of h
theorem MS.put {w' : World} {b n : Nat} {ps : List Se} (hr : KRise seK ps) (p : Se) (h : w'.ownsMap Try.prog 3 heldE b n ((kMap seK seV ps).put (.int .i64 p.cl) (.held (seV p)))) : MS w' b (kPut seK p ps) := by
  have e := put_rise seOrd seV hr p
  rw [show seK p = .int .i64 p.cl from rfl] at e
  rw [e] at h
  exact MS.of h
theorem put_takeP {ps : List Pr} (hr : KRise prK ps) {k : Nat} (hk : k < ps.length) : kPut prK ps[k] (ps.take k) = ps.take (k + 1) := by
  rw [List.take_succ_eq_append_getElem hk]
  refine kPut_above prOrd fun a ha => ?_
  rw [← List.take_append_drop k ps] at hr
  refine (List.pairwise_append.1 hr).2.2 a ha _ ?_
  rw [List.drop_eq_getElem_cons hk]; exact List.mem_cons_self
theorem put_takeS {ps : List Se} (hr : KRise seK ps) {k : Nat} (hk : k < ps.length) : kPut seK ps[k] (ps.take k) = ps.take (k + 1) := by
  rw [List.take_succ_eq_append_getElem hk]
  refine kPut_above seOrd fun a ha => ?_
  rw [← List.take_append_drop k ps] at hr
  refine (List.pairwise_append.1 hr).2.2 a ha _ ?_
  rw [List.drop_eq_getElem_cons hk]; exact List.mem_cons_self
theorem take_rise {α : Type} {kd : α → Lit} {l : List α} (h : KRise kd l) (k : Nat) : KRise kd (l.take k) := h.sublist (List.take_sublist k l)

set_option maxHeartbeats 4000000 in
set_option maxRecDepth 100000 in
theorem tableOf_any (v u : Value) (ps : List Pr) (ss : List Se) (w : World) (hv : Ps w v ps) (hu : Ss w u ss) (hp : PsOk ps) (hs : SsOk ss) (hm : ss.length ≤ 1048576) :
    Calls Try.prog 51 #[.agg #[v, u]] w fun e w' => e = .returned (.agg #[.map (some (w.heap.size + 2)), .map (some (w.heap.size + 3))]) ∧ MP w' (w.heap.size + 2) ps ∧ MS w' (w.heap.size + 3) ss ∧ Below w.heap.size w w' := by
  have hmm := @run_makeMap Try.prog
  obtain ⟨a, cap, rfl⟩ : ∃ a cap, v = .slice a ps.length cap := by obtain ⟨_, a, cap, e, _⟩ := hv; exact ⟨a, cap, e⟩
  obtain ⟨a2, cap2, rfl⟩ : ∃ a cap, u = .slice a ss.length cap := by obtain ⟨_, a, cap, e, _⟩ := hu; exact ⟨a, cap, e⟩
  have HV : Hid (Ps w (.slice a ps.length cap) ps) := hv
  have HU : Hid (Ss w (.slice a2 ss.length cap2) ss) := hu
  have HP : Hid (PsOk ps) := hp
  have HS : Hid (SsOk ss) := hs
  have h256 := hp.len
  clear hv hu hp hs
  have W0 : Hid (∀ W, W = (((((w.alloc (.cells #[.slice a ps.length cap, .slice a2 ss.length cap2] 42)).alloc (.cells #[.map none, .map none] 99)).alloc (.map #[] 0)).alloc (.map #[] 0)).alloc (.cells #[.map (some (w.heap.size + 2)), .map (some (w.heap.size + 3))] 99)) →
      Blk W w.heap.size #[.slice a ps.length cap, .slice a2 ss.length cap2] 42 ∧ Blk W (w.heap.size + 1) #[.map none, .map none] 99 ∧ MP W (w.heap.size + 2) [] ∧ MS W (w.heap.size + 3) [] ∧ Blk W (w.heap.size + 4) #[.map (some (w.heap.size + 2)), .map (some (w.heap.size + 3))] 99 ∧ W.heap.size = w.heap.size + 5 ∧ Below w.heap.size w W) := by
    rintro W rfl
    refine ⟨((((Blk.new _ _ _).alloc _).alloc _).alloc _).alloc _, (((Blk.new' _ _ _ (by simp)).alloc _).alloc _).alloc _, ?_, ?_, Blk.new' _ _ _ (by simp), by simp, (((((Below.refl _ _).alloc (Nat.le_refl _) _).alloc (by simp) _).alloc (by simp; omega) _).alloc (by simp; omega) _).alloc (by simp; omega) _⟩
    · refine MP.alloc (MP.alloc ?_ _) _
      have h := World.ownsMap_made ((w.alloc (.cells #[.slice a ps.length cap, .slice a2 ss.length cap2] 42)).alloc (.cells #[.map none, .map none] 99)) Try.prog 9 (heldE)
      simpa [MP, kMap] using h
    · refine MS.alloc ?_ _
      have h := World.ownsMap_made (((w.alloc (.cells #[.slice a ps.length cap, .slice a2 ss.length cap2] 42)).alloc (.cells #[.map none, .map none] 99)).alloc (.map #[] 0)) Try.prog 3 (heldE)
      simpa [MS, kMap] using h
  go_enter Try.func51, Try.ntmps51
  go_wp2
  obtain ⟨W, hW⟩ : ∃ W, W = (((((w.alloc (.cells #[.slice a ps.length cap, .slice a2 ss.length cap2] 42)).alloc (.cells #[.map none, .map none] 99)).alloc (.map #[] 0)).alloc (.map #[] 0)).alloc (.cells #[.map (some (w.heap.size + 2)), .map (some (w.heap.size + 3))] 99)) := ⟨_, rfl⟩
  obtain ⟨bX, bR, mP, mS, bT, hWs, hWb⟩ := W0.out W hW
  rw [← hW]
  clear hW W0
  have BX : Hid (Blk W w.heap.size _ _) := bX
  have BR : Hid (Blk W (w.heap.size + 1) _ _) := bR
  have BM : Hid (MP W (w.heap.size + 2) []) := mP
  have BS : Hid (MS W (w.heap.size + 3) []) := mS
  have BT : Hid (Blk W (w.heap.size + 4) _ _) := bT
  have HW : Hid (Below w.heap.size w W) := hWb
  clear bX bR mP mS bT hWb
  go_loopw [14] (fun i wr => ∃ k : Nat, k ≤ ps.length ∧ i = .int .i64 k ∧ MP wr (w.heap.size + 2) (ps.take k) ∧ W.grownBy wr (some (w.heap.size + 2))) (fun i _ => ps.length - (RowKit.intOf i).toNat)
  case atStart => exact ⟨0, Nat.zero_le _, rfl, BM.out, grownBy_refl _ _⟩
  case round =>
    obtain ⟨k, hk, rfl, hM, hG⟩ := hrel
    have HM : Hid (MP wr (w.heap.size + 2) (ps.take k)) := hM
    have HG : Hid (W.grownBy wr (some (w.heap.size + 2))) := hG
    have hsz := hG.size
    have bT : Blk wr (w.heap.size + 4) _ _ := BT.out.keep (hG.block _ (by omega) (by simp))
    have bX : Blk wr w.heap.size _ _ := BX.out.keep (hG.block _ (by omega) (by simp))
    have t0 : wr.cell? ⟨w.heap.size + 4, 0, none⟩ = some (.map (some (w.heap.size + 2))) := bT.cell 0
    have hb : Hid (Below w.heap.size w wr) := HW.out.trans ⟨hG.os, hG.tape, hG.output, hG.size, fun j hj => hG.block j (by omega) (by simp; omega)⟩
    by_cases hlt : k < ps.length
    · obtain ⟨b, off, rfl, hj⟩ := Ps.at_ (HV.out.below hb.out) hlt
      obtain ⟨c0, c1⟩ := hj k hlt
      have hkey := keyS (k := ps[k].k) (by have := (HP.out.all _ (List.getElem_mem hlt)).2.1; omega)
      have HT : Hid (kPut prK ps[k] (ps.take k) = ps.take (k + 1)) := put_takeP HP.out.rise hlt
      clear hj hM hG bX bT
      generalize ps[k] = p at *
      have ta : ∀ (o : Obj) (j : Nat), (wr.alloc o).cell? ⟨w.heap.size + 4, j, none⟩ = wr.cell? ⟨w.heap.size + 4, j, none⟩ := fun o j => World.cell?_alloc_lt _ _ _ (by show w.heap.size + 4 < wr.heap.size; omega)
      have hne : ¬ w.heap.size + 4 = wr.heap.size := by omega
      go_wp2_with (at_mapUpdate; refine wpList_mapUpdate_own _ rfl _ _ _ 96 rfl 9 135 lawS Try.underlying96 heldE (w.heap.size + 2) (ps.take k).length _ rfl (HM.out.alloc _) (by rw [List.length_take]; unfold maxLen; omega) _ _ _ rfl rfl hkey _ [] rfl ?_; intro w1 hown1 hgrow1)
      go_roundw
      case rel => exact ⟨k + 1, by omega, by go_num, by rw [← HT.out]; exact MP.put (take_rise HP.out.rise k) p hown1, grownBy_trans (grownBy_trans HG.out (World.grownBy_alloc _ _ _)) hgrow1⟩
      case measure => simp [RowKit.intOf]; omega
    · obtain rfl : k = ps.length := by omega
      rw [List.take_length] at hM
      have BM2 : Hid (MP wr (w.heap.size + 2) ps) := hM
      have BR2 : Hid (Blk wr (w.heap.size + 1) _ _) := BR.out.keep (hG.block _ (by omega) (by simp))
      have BS2 : Hid (MS wr (w.heap.size + 3) []) := BS.out.keep (hG.block _ (by omega) (by simp))
      have BT2 : Hid (Blk wr (w.heap.size + 4) _ _) := bT
      have x1 : wr.cell? ⟨w.heap.size, 1, none⟩ = some (.slice a2 ss.length cap2) := bX.cell 1
      clear hM hG bX bT HG HM BM BS BR BT BX t0
      obtain ⟨W2, hW2⟩ : ∃ W2, W2 = wr := ⟨_, rfl⟩
      have hWs2 : w.heap.size + 5 ≤ W2.heap.size := by rw [hW2]; omega
      subst hW2
      go_wp2
      go_loopw [27] (fun i wr => ∃ k : Nat, k ≤ ss.length ∧ i = .int .i64 k ∧ MS wr (w.heap.size + 3) (ss.take k) ∧ W2.grownBy wr (some (w.heap.size + 3))) (fun i _ => ss.length - (RowKit.intOf i).toNat)
      case atStart => exact ⟨0, Nat.zero_le _, rfl, BS2.out, grownBy_refl _ _⟩
      case round =>
        obtain ⟨k, hk, rfl, hM, hG⟩ := hrel
        have HM : Hid (MS wr (w.heap.size + 3) (ss.take k)) := hM
        have HG : Hid (W2.grownBy wr (some (w.heap.size + 3))) := hG
        have hsz := hG.size
        have bT : Blk wr (w.heap.size + 4) _ _ := BT2.out.keep (hG.block _ (by omega) (by simp))
        have t0 : wr.cell? ⟨w.heap.size + 4, 0, none⟩ = some (.map (some (w.heap.size + 2))) := bT.cell 0
        have t1 : wr.cell? ⟨w.heap.size + 4, 1, none⟩ = some (.map (some (w.heap.size + 3))) := bT.cell 1
        have hb2 : Hid (Below w.heap.size w wr) := hb.out.trans ⟨hG.os, hG.tape, hG.output, hG.size, fun j hj => hG.block j (by omega) (by simp; omega)⟩
        by_cases hlt : k < ss.length
        · obtain ⟨b, off, rfl, hj⟩ := Ss.at_ (HU.out.below hb2.out) hlt
          obtain ⟨c0, c1, c2, c3⟩ := hj k hlt
          have hc := (HS.out.all _ (List.getElem_mem hlt)).1
          have hkey := keyI (x := ss[k].cl) (by omega) (by omega)
          have HT : Hid (kPut seK ss[k] (ss.take k) = ss.take (k + 1)) := put_takeS HS.out.rise hlt
          clear hj hM hG bT hc
          generalize ss[k] = p at *
          have ta : ∀ (o : Obj) (j : Nat), (wr.alloc o).cell? ⟨w.heap.size + 4, j, none⟩ = wr.cell? ⟨w.heap.size + 4, j, none⟩ := fun o j => World.cell?_alloc_lt _ _ _ (by show w.heap.size + 4 < wr.heap.size; omega)
          have hne : ¬ w.heap.size + 4 = wr.heap.size := by omega
          go_wp2_with (at_mapUpdate; refine wpList_mapUpdate_own _ rfl _ _ _ 97 rfl 3 120 lawI Try.underlying97 heldE (w.heap.size + 3) (ss.take k).length _ rfl (HM.out.alloc _) (by rw [List.length_take]; unfold maxLen; omega) _ _ _ rfl rfl hkey _ [] rfl ?_; intro w1 hown1 hgrow1)
          go_roundw
          case rel => exact ⟨k + 1, by omega, by go_num, by rw [← HT.out]; exact MS.put (take_rise HS.out.rise k) p hown1, grownBy_trans (grownBy_trans HG.out (World.grownBy_alloc _ _ _)) hgrow1⟩
          case measure => simp [RowKit.intOf]; omega
        · obtain rfl : k = ss.length := by omega
          rw [List.take_length] at hM
          have BR3 : Hid (Blk wr (w.heap.size + 1) _ _) := BR2.out.keep (hG.block _ (by omega) (by simp))
          have BM3 : Hid (MP wr (w.heap.size + 2) ps) := BM2.out.keep (hG.block _ (by omega) (by simp))
          have r0 : wr.cell? ⟨w.heap.size + 1, 0, none⟩ = some (.map none) := BR3.out.cell 0
          have r1 : wr.cell? ⟨w.heap.size + 1, 1, none⟩ = some (.map none) := BR3.out.cell 1
          have fr := BR3.out.free
          have HM3 : Hid (MS wr (w.heap.size + 3) ss) := hM
          clear hM hG bT HG HM
          go_wp2
          refine bodyPost_ret (v := .agg #[.map (some (w.heap.size + 2)), .map (some (w.heap.size + 3))]) (by simp [results, Try.results51, go_sem, *]) rfl ⟨rfl, ?_, ?_, ?_⟩
          · exact BM3.out.keep (by rw [Below.heap_setCell _ _ _ _ (by simp), Below.heap_setCell _ _ _ _ (by simp)])
          · exact HM3.out.keep (by rw [Below.heap_setCell _ _ _ _ (by simp), Below.heap_setCell _ _ _ _ (by simp)])
          · exact (hb2.out.setCell (by simp) _).setCell (by simp) _
end Go.Proofs.Ytnoihfincifphaa
