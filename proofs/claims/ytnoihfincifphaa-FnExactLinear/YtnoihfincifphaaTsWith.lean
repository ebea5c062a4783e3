/-
  spec.l5with.
-/
import Derived.Test.YtnoihfincifphaaTbCmdP
namespace Go.Proofs.Ytnoihfincifphaa
open Go.RowKit Go.Maps
set_option linter.unusedVariables false
set_option linter.unusedSimpArgs false

theorem gtr_tx (a b : ByteArray) : (!Op.bytesLess a.toList b.toList && !(a.toList == b.toList)) = txB b a := by
  have h := leq_tx a b
  rw [← Bool.not_or, h, Bool.not_not]
theorem filt_snoc {α : Type} (f : α → Bool) (l : List α) (k : Nat) (h : k < l.length) : (l.take (k + 1)).filter f = (l.take k).filter f ++ (if f l[k] then [l[k]] else []) := by
  rw [List.take_succ_eq_append_getElem h, List.filter_append, List.filter_cons, List.filter_nil]
def withR (ps : List Pr) (key : ByteArray) (put : Bool) (val : ByteArray) : List Pr := (ps.filter fun p => txB p.k key) ++ (if put then [⟨key, val⟩] else []) ++ ps.filter fun p => txB key p.k
theorem withR_put (ps : List Pr) (key val : ByteArray) : withR ps key true val = kPut prK ⟨key, val⟩ ps := by
  unfold withR kPut
  simp only [if_true, List.append_assoc, List.singleton_append]
  rfl
theorem withR_del (ps : List Pr) (key val : ByteArray) : withR ps key false val = kDel prK (txK key) ps := by
  unfold withR kDel
  simp only [Bool.false_eq_true, if_false, List.append_nil]
  rfl

set_option maxHeartbeats 8000000 in
set_option maxRecDepth 100000 in
theorem l5with_put (v : Value) (ps : List Pr) (key val : ByteArray) (w : World) (hv : Ps w v ps) (hn : ps.length ≤ 400000) :
    Calls Try.prog 73 #[v, .string key, .bool true, .string val] w fun e w' => ∃ va vc, e = .returned (.slice va (withR ps key true val).length vc) ∧ OwnPr w' w.heap.size (.slice va (withR ps key true val).length vc) (withR ps key true val) ∧ Below w.heap.size w w' := by
  obtain ⟨a, cap, rfl⟩ : ∃ a cap, v = .slice a ps.length cap := by obtain ⟨_, a, cap, e, _⟩ := hv; exact ⟨a, cap, e⟩
  have HV : Hid (Ps w (.slice a ps.length cap) ps) := hv
  clear hv
  go_enter Try.func73, Try.ntmps73
  go_wp2
  go_loopw [9, 10] (fun x i wr => ∃ (k : Nat) (va : Option Addr) (vc : Nat) (L : List Pr), k ≤ ps.length ∧ i = .int .i64 k ∧ x = .slice va L.length vc ∧ L = (ps.take k).filter (fun p => txB p.k key) ∧ OwnPr wr w.heap.size (.slice va L.length vc) L ∧ Below w.heap.size w wr) (fun _ i _ => ps.length - (RowKit.intOf i).toNat)
  case atStart => exact ⟨0, _, _, [], Nat.zero_le _, rfl, rfl, rfl, OwnG.made _ _ _ _ _ (Nat.le_refl _), (Below.refl _ _).alloc (Nat.le_refl _) _⟩
  case round =>
    obtain ⟨k, va, vc, L, hk, rfl, rfl, hL, hO, hB⟩ := hrel
    have hLl : L.length ≤ k := by rw [hL]; exact Nat.le_trans (List.length_filter_le _ _) (by rw [List.length_take]; omega)
    have HO : Hid (OwnPr wr w.heap.size (.slice va L.length vc) L) := hO
    have HB : Hid (Below w.heap.size w wr) := hB
    have HL : Hid (L = (ps.take k).filter (fun p => txB p.k key)) := hL
    have hsz := hB.size
    clear hO hB hL
    by_cases hlt : k < ps.length
    · obtain ⟨b, off, rfl, hj⟩ := Ps.at_ (HV.out.below HB.out) hlt
      obtain ⟨c0, c1⟩ := hj k hlt
      have HF : Hid ((ps.take (k + 1)).filter (fun p => txB p.k key) = (ps.take k).filter (fun p => txB p.k key) ++ (if txB ps[k].k key then [ps[k]] else [])) := filt_snoc (fun p : Pr => txB p.k key) ps k hlt
      clear hj
      generalize ps[k] = p at *
      cases hc : txB p.k key
      · have hq : Op.bytesLess p.k.toList key.toList = false := by rw [less_tx, hc]
        go_wp2
        go_roundw
        case rel => exact ⟨k + 1, va, vc, L, by omega, by go_num, rfl, by rw [HF.out, hc, ← HL.out]; simp, HO.out, HB.out⟩
        case measure => simp [RowKit.intOf]; omega
      · have hq : Op.bytesLess p.k.toList key.toList = true := by rw [less_tx, hc]
        have HF2 : Hid ((ps.take (k + 1)).filter (fun p => txB p.k key) = L ++ [p]) := by
          show _ = _
          rw [HF.out, hc, ← HL.out]; rfl
        clear HF
        go_wp2_with (at_builtin; refine wpl_appendG prLaw rfl (.tmp 26) (.tmp 31) rfl p (HO.out.below ((Below.refl _ _).alloc (Nat.le_refl _) _)) rfl wr.heap.size 1 (range_new' wr (prC p) 135) rfl (by omega) (by simp; omega) ?_; intro v3 w3 ho3 hg3; obtain ⟨a3, cap3, rfl⟩ := ho3.shape; have HO3 : Hid (OwnPr w3 w.heap.size (.slice a3 (L ++ [p]).length cap3) (L ++ [p])) := ho3; have HB3 : Hid (Below w.heap.size w w3) := (HB.out.alloc hsz _).trans (growG hg3 (HO.out.below ((Below.refl _ _).alloc (Nat.le_refl _) _)) (by simp; omega)); clear ho3 hg3)
        go_roundw
        case rel => exact ⟨k + 1, a3, cap3, L ++ [p], by omega, by go_num, by simp, HF2.out.symm, HO3.out, HB3.out⟩
        case measure => simp [RowKit.intOf]; omega
    · obtain rfl : k = ps.length := by omega
      have HLA : Hid (L = ps.filter (fun p => txB p.k key)) := by
        have h := HL.out
        rw [List.take_length] at h
        exact h
      clear HL
      go_wp2_with (at_builtin; refine wpl_appendG prLaw rfl (.tmp 34) (.tmp 38) rfl ⟨key, val⟩ (HO.out.below ((Below.refl _ _).alloc (Nat.le_refl _) _)) rfl wr.heap.size 1 (range_new' wr (prC ⟨key, val⟩) 135) rfl (by omega) (by simp; omega) ?_; intro v4 w4 ho4 hg4; obtain ⟨a4, cap4, rfl⟩ := ho4.shape; have HO4 : Hid (OwnPr w4 w.heap.size (.slice a4 (L ++ [(⟨key, val⟩ : Pr)]).length cap4) (L ++ [(⟨key, val⟩ : Pr)])) := ho4; have HB4 : Hid (Below w.heap.size w w4) := (HB.out.alloc hsz _).trans (growG hg4 (HO.out.below ((Below.refl _ _).alloc (Nat.le_refl _) _)) (by simp; omega)); clear ho4 hg4)
      have HLM : Hid ((L ++ [⟨key, val⟩] : List Pr) = (ps.filter fun p => txB p.k key) ++ [⟨key, val⟩]) := by
        show _ = _
        rw [HLA.out]
      have hLM : (L ++ [⟨key, val⟩] : List Pr).length ≤ 400001 := by simp; omega
      have hMl : (L ++ [⟨key, val⟩] : List Pr).length = L.length + 1 := by simp
      generalize (L ++ [⟨key, val⟩] : List Pr) = M at *
      clear HLA
      go_loopw [9, 11] (fun x i wr => ∃ (k : Nat) (va : Option Addr) (vc : Nat) (L : List Pr), k ≤ ps.length ∧ i = .int .i64 k ∧ x = .slice va L.length vc ∧ L = M ++ (ps.take k).filter (fun p => txB key p.k) ∧ OwnPr wr w.heap.size (.slice va L.length vc) L ∧ Below w.heap.size w wr) (fun _ i _ => ps.length - (RowKit.intOf i).toNat)
      case atStart => exact ⟨0, a4, cap4, M, Nat.zero_le _, rfl, by rw [hMl], by simp, HO4.out, HB4.out⟩
      case round =>
        obtain ⟨k, va, vc, L, hk, rfl, rfl, hL, hO, hB⟩ := hrel
        have hLl : L.length ≤ 400001 + k := by
          have h1 : ((ps.take k).filter (fun p => txB key p.k)).length ≤ k := Nat.le_trans (List.length_filter_le _ _) (by rw [List.length_take]; omega)
          rw [hL, List.length_append]; omega
        have HO : Hid (OwnPr wr w.heap.size (.slice va L.length vc) L) := hO
        have HB : Hid (Below w.heap.size w wr) := hB
        have HL : Hid (L = M ++ (ps.take k).filter (fun p => txB key p.k)) := hL
        have hsz := hB.size
        clear hO hB hL
        by_cases hlt : k < ps.length
        · obtain ⟨b, off, e, hj⟩ := Ps.at_ (HV.out.below HB.out) hlt
          subst e
          obtain ⟨c0, c1⟩ := hj k hlt
          have HF : Hid ((ps.take (k + 1)).filter (fun p => txB key p.k) = (ps.take k).filter (fun p => txB key p.k) ++ (if txB key ps[k].k then [ps[k]] else [])) := filt_snoc (fun p : Pr => txB key p.k) ps k hlt
          clear hj
          generalize ps[k] = p at *
          cases hc : txB key p.k
          · have hq : (!Op.bytesLess p.k.toList key.toList && !(p.k.toList == key.toList)) = false := by rw [gtr_tx, hc]
            go_wp2
            go_roundw
            case rel => exact ⟨k + 1, va, vc, L, by omega, by go_num, rfl, by rw [HF.out, hc, HL.out]; simp, HO.out, HB.out⟩
            case measure => simp [RowKit.intOf]; omega
          · have hq : (!Op.bytesLess p.k.toList key.toList && !(p.k.toList == key.toList)) = true := by rw [gtr_tx, hc]
            have HF2 : Hid (M ++ (ps.take (k + 1)).filter (fun p => txB key p.k) = L ++ [p]) := by
              show _ = _
              rw [HF.out, hc, HL.out, List.append_assoc]; rfl
            clear HF
            go_wp2_with (at_builtin; refine wpl_appendG prLaw rfl (.tmp 53) (.tmp 58) rfl p (HO.out.below ((Below.refl _ _).alloc (Nat.le_refl _) _)) rfl wr.heap.size 1 (range_new' wr (prC p) 135) rfl (by omega) (by simp; omega) ?_; intro v3 w3 ho3 hg3; obtain ⟨a3, cap3, rfl⟩ := ho3.shape; have HO3 : Hid (OwnPr w3 w.heap.size (.slice a3 (L ++ [p]).length cap3) (L ++ [p])) := ho3; have HB3 : Hid (Below w.heap.size w w3) := (HB.out.alloc hsz _).trans (growG hg3 (HO.out.below ((Below.refl _ _).alloc (Nat.le_refl _) _)) (by simp; omega)); clear ho3 hg3)
            go_roundw
            case rel => exact ⟨k + 1, a3, cap3, L ++ [p], by omega, by go_num, by simp, HF2.out.symm, HO3.out, HB3.out⟩
            case measure => simp [RowKit.intOf]; omega
        · obtain rfl : k = ps.length := by omega
          have HE : Hid (withR ps key true val = L) := by
            show _ = _
            rw [HL.out, List.take_length, HLM.out]
            unfold withR
            simp
          go_wp2
          go_ret
          rw [HE.out]
          exact ⟨va, vc, rfl, HO.out, HB.out⟩

set_option maxHeartbeats 8000000 in
set_option maxRecDepth 100000 in
theorem l5with_del (v : Value) (ps : List Pr) (key val : ByteArray) (w : World) (hv : Ps w v ps) (hn : ps.length ≤ 400000) :
    Calls Try.prog 73 #[v, .string key, .bool false, .string val] w fun e w' => ∃ va vc, e = .returned (.slice va (withR ps key false val).length vc) ∧ OwnPr w' w.heap.size (.slice va (withR ps key false val).length vc) (withR ps key false val) ∧ Below w.heap.size w w' := by
  obtain ⟨a, cap, rfl⟩ : ∃ a cap, v = .slice a ps.length cap := by obtain ⟨_, a, cap, e, _⟩ := hv; exact ⟨a, cap, e⟩
  have HV : Hid (Ps w (.slice a ps.length cap) ps) := hv
  clear hv
  go_enter Try.func73, Try.ntmps73
  go_wp2
  go_loopw [9, 10] (fun x i wr => ∃ (k : Nat) (va : Option Addr) (vc : Nat) (L : List Pr), k ≤ ps.length ∧ i = .int .i64 k ∧ x = .slice va L.length vc ∧ L = (ps.take k).filter (fun p => txB p.k key) ∧ OwnPr wr w.heap.size (.slice va L.length vc) L ∧ Below w.heap.size w wr) (fun _ i _ => ps.length - (RowKit.intOf i).toNat)
  case atStart => exact ⟨0, _, _, [], Nat.zero_le _, rfl, rfl, rfl, OwnG.made _ _ _ _ _ (Nat.le_refl _), (Below.refl _ _).alloc (Nat.le_refl _) _⟩
  case round =>
    obtain ⟨k, va, vc, L, hk, rfl, rfl, hL, hO, hB⟩ := hrel
    have hLl : L.length ≤ k := by rw [hL]; exact Nat.le_trans (List.length_filter_le _ _) (by rw [List.length_take]; omega)
    have HO : Hid (OwnPr wr w.heap.size (.slice va L.length vc) L) := hO
    have HB : Hid (Below w.heap.size w wr) := hB
    have HL : Hid (L = (ps.take k).filter (fun p => txB p.k key)) := hL
    have hsz := hB.size
    clear hO hB hL
    by_cases hlt : k < ps.length
    · obtain ⟨b, off, rfl, hj⟩ := Ps.at_ (HV.out.below HB.out) hlt
      obtain ⟨c0, c1⟩ := hj k hlt
      have HF : Hid ((ps.take (k + 1)).filter (fun p => txB p.k key) = (ps.take k).filter (fun p => txB p.k key) ++ (if txB ps[k].k key then [ps[k]] else [])) := filt_snoc (fun p : Pr => txB p.k key) ps k hlt
      clear hj
      generalize ps[k] = p at *
      cases hc : txB p.k key
      · have hq : Op.bytesLess p.k.toList key.toList = false := by rw [less_tx, hc]
        go_wp2
        go_roundw
        case rel => exact ⟨k + 1, va, vc, L, by omega, by go_num, rfl, by rw [HF.out, hc, ← HL.out]; simp, HO.out, HB.out⟩
        case measure => simp [RowKit.intOf]; omega
      · have hq : Op.bytesLess p.k.toList key.toList = true := by rw [less_tx, hc]
        have HF2 : Hid ((ps.take (k + 1)).filter (fun p => txB p.k key) = L ++ [p]) := by
          show _ = _
          rw [HF.out, hc, ← HL.out]; rfl
        clear HF
        go_wp2_with (at_builtin; refine wpl_appendG prLaw rfl (.tmp 26) (.tmp 31) rfl p (HO.out.below ((Below.refl _ _).alloc (Nat.le_refl _) _)) rfl wr.heap.size 1 (range_new' wr (prC p) 135) rfl (by omega) (by simp; omega) ?_; intro v3 w3 ho3 hg3; obtain ⟨a3, cap3, rfl⟩ := ho3.shape; have HO3 : Hid (OwnPr w3 w.heap.size (.slice a3 (L ++ [p]).length cap3) (L ++ [p])) := ho3; have HB3 : Hid (Below w.heap.size w w3) := (HB.out.alloc hsz _).trans (growG hg3 (HO.out.below ((Below.refl _ _).alloc (Nat.le_refl _) _)) (by simp; omega)); clear ho3 hg3)
        go_roundw
        case rel => exact ⟨k + 1, a3, cap3, L ++ [p], by omega, by go_num, by simp, HF2.out.symm, HO3.out, HB3.out⟩
        case measure => simp [RowKit.intOf]; omega
    · obtain rfl : k = ps.length := by omega
      have HLA : Hid (L = ps.filter (fun p => txB p.k key)) := by
        have h := HL.out
        rw [List.take_length] at h
        exact h
      clear HL
      go_wp2
      have HLM : Hid (L = (ps.filter fun p => txB p.k key) ++ []) := by
        show _ = _
        rw [HLA.out, List.append_nil]
      have hLM : L.length ≤ 400001 := by omega
      obtain ⟨M, hM⟩ : ∃ M, M = L := ⟨_, rfl⟩
      subst hM
      clear HLA
      go_loopw [9, 11] (fun x i wr => ∃ (k : Nat) (va : Option Addr) (vc : Nat) (L : List Pr), k ≤ ps.length ∧ i = .int .i64 k ∧ x = .slice va L.length vc ∧ L = M ++ (ps.take k).filter (fun p => txB key p.k) ∧ OwnPr wr w.heap.size (.slice va L.length vc) L ∧ Below w.heap.size w wr) (fun _ i _ => ps.length - (RowKit.intOf i).toNat)
      case atStart => exact ⟨0, _, _, M, Nat.zero_le _, rfl, rfl, by simp, HO.out, HB.out⟩
      case round =>
        obtain ⟨k, va, vc, L, hk, rfl, rfl, hL, hO, hB⟩ := hrel
        have hLl : L.length ≤ 400001 + k := by
          have h1 : ((ps.take k).filter (fun p => txB key p.k)).length ≤ k := Nat.le_trans (List.length_filter_le _ _) (by rw [List.length_take]; omega)
          rw [hL, List.length_append]; omega
        have HO : Hid (OwnPr wr w.heap.size (.slice va L.length vc) L) := hO
        have HB : Hid (Below w.heap.size w wr) := hB
        have HL : Hid (L = M ++ (ps.take k).filter (fun p => txB key p.k)) := hL
        have hsz := hB.size
        clear hO hB hL
        by_cases hlt : k < ps.length
        · obtain ⟨b, off, e, hj⟩ := Ps.at_ (HV.out.below HB.out) hlt
          subst e
          obtain ⟨c0, c1⟩ := hj k hlt
          have HF : Hid ((ps.take (k + 1)).filter (fun p => txB key p.k) = (ps.take k).filter (fun p => txB key p.k) ++ (if txB key ps[k].k then [ps[k]] else [])) := filt_snoc (fun p : Pr => txB key p.k) ps k hlt
          clear hj
          generalize ps[k] = p at *
          cases hc : txB key p.k
          · have hq : (!Op.bytesLess p.k.toList key.toList && !(p.k.toList == key.toList)) = false := by rw [gtr_tx, hc]
            go_wp2
            go_roundw
            case rel => exact ⟨k + 1, va, vc, L, by omega, by go_num, rfl, by rw [HF.out, hc, HL.out]; simp, HO.out, HB.out⟩
            case measure => simp [RowKit.intOf]; omega
          · have hq : (!Op.bytesLess p.k.toList key.toList && !(p.k.toList == key.toList)) = true := by rw [gtr_tx, hc]
            have HF2 : Hid (M ++ (ps.take (k + 1)).filter (fun p => txB key p.k) = L ++ [p]) := by
              show _ = _
              rw [HF.out, hc, HL.out, List.append_assoc]; rfl
            clear HF
            go_wp2_with (at_builtin; refine wpl_appendG prLaw rfl (.tmp 53) (.tmp 58) rfl p (HO.out.below ((Below.refl _ _).alloc (Nat.le_refl _) _)) rfl wr.heap.size 1 (range_new' wr (prC p) 135) rfl (by omega) (by simp; omega) ?_; intro v3 w3 ho3 hg3; obtain ⟨a3, cap3, rfl⟩ := ho3.shape; have HO3 : Hid (OwnPr w3 w.heap.size (.slice a3 (L ++ [p]).length cap3) (L ++ [p])) := ho3; have HB3 : Hid (Below w.heap.size w w3) := (HB.out.alloc hsz _).trans (growG hg3 (HO.out.below ((Below.refl _ _).alloc (Nat.le_refl _) _)) (by simp; omega)); clear ho3 hg3)
            go_roundw
            case rel => exact ⟨k + 1, a3, cap3, L ++ [p], by omega, by go_num, by simp, HF2.out.symm, HO3.out, HB3.out⟩
            case measure => simp [RowKit.intOf]; omega
        · obtain rfl : k = ps.length := by omega
          have HE : Hid (withR ps key false val = L) := by
            show _ = _
            rw [HL.out, List.take_length, HLM.out]
            unfold withR
            simp
          go_wp2
          go_ret
          rw [HE.out]
          exact ⟨va, vc, rfl, HO.out, HB.out⟩
end Go.Proofs.Ytnoihfincifphaa
