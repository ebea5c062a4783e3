/-
  impl.framesOf.
-/
import Derived.Test.YtmbiccmndcchhagDoorChHard
import Derived.Test.YtmbiccmndcchhagDoorChAdd
import Derived.Test.YtmbiccmndcchhagDoorChCut
import Derived.Deep.QuietTactic
import Derived.BigQuiet
namespace Go.Proofs.YtmbiccmndcchhagDoor
open Go.RowKit
set_option linter.unusedVariables false

theorem wpl_store_new' {w : World} {ops : Array Oper} {rest : List Oper} {o : Oper} {a : Act} {Q : Exit → Act → World → Prop} (hgd : o.guard = none) (ty : TypeId) (x y : Operand) (ho : o.op = .store ty x y)
    (c c' : Array Value) (hx : a.eval x = .pointer (some ⟨w.heap.size, 0, none⟩)) (hy : a.eval y = .agg c') (hi : (Tryd.prog.info? ty).map (·.size) = some c'.size) (hc : c.size = c'.size) (h1 : c'.all (·.oneCell') = true)
    (h : wpList Tryd.prog ops Q rest (a.put o.dst undef) (w.alloc (.cells c' ty))) : wpList Tryd.prog ops Q (o :: rest) a (w.alloc (.cells c ty)) :=
  wpList_plain hgd fun K hK => by
    unfold Oper.wp execOp
    simp only [ho, hx, hy, Sem.run_bind, Sem.run_pure, Result.andThen_ok, run_storeAt_new w ty c c' hi hc h1]
    exact hK _ _ h

theorem changeOf_other (ki tm vo ix t cl sq op : Int) (k v o : ByteArray) (h1 : ki ≠ 1) (h2 : ki ≠ 2) (h3 : ki ≠ 3) (A : Addr) (w : World) (hG : w.cell? ⟨0, 0, none⟩ = some (sentR A)) :
    Calls Tryd.prog 67 #[.agg #[.int .i64 ki, .int .i64 tm, .int .i64 vo, .int .i64 ix, .int .i64 t, .int .i64 cl, .int .i64 sq, .int .i64 op, .string k, .string v, .string o]] w fun x w' => x = .returned (chAns A ⟨ki, tm, vo, ix, ⟨t, cl, sq, op, k, v, o⟩⟩) ∧ Below w.heap.size w w' := by
  have hgl := cell_lt hG
  have hR : recB ⟨ki, tm, vo, ix, ⟨t, cl, sq, op, k, v, o⟩⟩ = false := by
    have b3 : (ki == 3) = false := by simpa using h3
    unfold recB
    simp only [h1, h2, if_false, b3, Bool.false_and]
    split <;> rfl
  have hC : chAns A ⟨ki, tm, vo, ix, ⟨t, cl, sq, op, k, v, o⟩⟩ = .tuple #[.nilIface, .iface 111 (.agg #[sentR A, .int .i64 0])] := by unfold chAns; rw [hR]; rfl
  rw [hC]
  have b1 : (ki == 1) = false := by simpa using h1
  have b2 : (ki == 2) = false := by simpa using h2
  have b3 : (ki == 3) = false := by simpa using h3
  clear hC hR
  have hG1 := ((bcell ((Below.refl w.heap.size w).alloc (Nat.le_refl _) (.cells #[.int .i64 ki, .int .i64 tm, .int .i64 vo, .int .i64 ix, .int .i64 t, .int .i64 cl, .int .i64 sq, .int .i64 op, .string k, .string v, .string o] 93))).1 _ 0 hgl).trans hG
  go_enter Tryd.func67, Tryd.ntmps67
  go_wp2
  go_quiet (fail)
  go_wp2
  go_ret2
  exact ⟨rfl, ch_below ((Below.refl _ _).alloc (Nat.le_refl _) _)⟩

theorem changeOf_any (r : Rec) (hf : r.e.fits) (A : Addr) (w : World) (hG : w.cell? ⟨0, 0, none⟩ = some (sentR A)) :
    Calls Tryd.prog 67 #[.agg r.cells.toArray] w fun x w' => x = .returned (chAns A r) ∧ Below w.heap.size w w' := by
  obtain ⟨ki, tm, vo, ix, ⟨t, cl, sq, op, k, v, o⟩⟩ := r
  by_cases h1 : ki = 1
  · subst h1; exact changeOf_hard tm vo ix t cl sq op k v o hf A w hG
  · by_cases h2 : ki = 2
    · subst h2; exact changeOf_add tm vo ix t cl sq op k v o hf A w hG
    · by_cases h3 : ki = 3
      · subst h3; exact changeOf_cut tm vo ix t cl sq op k v o hf A w hG
      · exact changeOf_other ki tm vo ix t cl sq op k v o h1 h2 h3 A w hG

/-- the encoder of a change that was made of a well-formed record -/
theorem encode_of (r : Rec) (h : recB r = true) : (∃ x, chV r = .iface 135 x ∧ ∀ w, Calls Tryd.prog 139 #[x, .slice none 0 0] w fun e w' => ∃ v', e = .returned v' ∧ Own w' w.heap.size v' (recL r) ∧ Below w.heap.size w w') ∨
    (∃ x, chV r = .iface 137 x ∧ ∀ w, Calls Tryd.prog 146 #[x, .slice none 0 0] w fun e w' => ∃ v', e = .returned v' ∧ Own w' w.heap.size v' (recL r) ∧ Below w.heap.size w w') ∨
    (∃ x, chV r = .iface 139 x ∧ ∀ w, Calls Tryd.prog 158 #[x, .slice none 0 0] w fun e w' => ∃ v', e = .returned v' ∧ Own w' w.heap.size v' (recL r) ∧ Below w.heap.size w w') := by
  rcases recB_kinds h with ⟨k1, h1, h2, h3, h4, h5, h6, h7⟩ | ⟨k2, h1, h2, h3, h4, h5⟩ | ⟨k3, h1, h2, h3, h4, h5⟩
  · obtain ⟨ki, tm, vo, ix, e⟩ := r
    simp only at k1 h1 h2 h3 h4 h5 h6
    subst k1 h1 h2
    obtain ⟨tm, rfl⟩ := Int.eq_ofNat_of_zero_le h3
    obtain ⟨vo, rfl⟩ := Int.eq_ofNat_of_zero_le h5
    exact .inl ⟨_, rfl, fun w => hardEncode_any tm vo (by omega) (by omega) w⟩
  · obtain ⟨ki, tm, vo, ix, e⟩ := r
    simp only at k2 h1 h2 h3 h4 h5
    subst k2 h1 h2
    obtain ⟨ix, rfl⟩ := Int.eq_ofNat_of_zero_le (show 0 ≤ ix by omega)
    obtain ⟨t, cl, sq, op, k, vl, o, rfl, a1, a2, a3, a4, a5, a6, a7, _⟩ := entB_nat h5
    exact .inr (.inl ⟨_, rfl, fun w => addEncode_any ix t cl sq op k vl o (by omega) a1 a2 a3 a4 a5 a6 a7 w⟩)
  · obtain ⟨ki, tm, vo, ix, e⟩ := r
    simp only at k3 h1 h2 h3 h4 h5
    subst k3 h1 h2 h3
    obtain ⟨ix, rfl⟩ := Int.eq_ofNat_of_zero_le h4
    exact .inr (.inr ⟨_, rfl, fun w => cutEncode_any ix (by omega) w⟩)


theorem recsB_no {l : List Rec} {k : Nat} (h : k < l.length) (hk : recB l[k] = false) : recsB l = false := by
  rw [recsB, all_take_false h hk, Bool.and_false]

set_option maxHeartbeats 8000000 in
set_option maxRecDepth 100000 in
theorem framesOf_any (v : Value) (l : List Rec) (w : World) (hv : Sl Rec.cells 11 w v l) (hf : ∀ r ∈ l, r.e.fits) (A : Addr) (hG : w.cell? ⟨0, 0, none⟩ = some (sentR A)) :
    Calls Tryd.prog 38 #[v] w fun x w' =>
      ((recsB l = true ∧ ∃ v', x = .returned (.tuple #[v', .nilIface]) ∧ Own w' w.heap.size v' (framesL l)) ∨ (recsB l = false ∧ x = .returned (.tuple #[.slice none 0 0, .iface 111 (.agg #[sentR A, .int .i64 0])]))) ∧ Below w.heap.size w w' := by
  have hgl := cell_lt hG
  obtain ⟨hl, a, cap, rfl, hc⟩ := hv
  unfold maxLen at hl
  by_cases h8 : (8192 : Int) < l.length
  · have e : recsB l = false := by simp [recsB]; omega
    have HE : Hid (recsB l = false) := e
    clear hc e
    go_enter Tryd.func38, Tryd.ntmps38
    go_wp2
    go_quiet (fail)
    go_wp2
    go_ret2
    exact ⟨.inr ⟨HE.out, rfl⟩, ch_below (Below.refl _ _)⟩
  · have h8' : l.length ≤ 8192 := by omega
    go_enter Tryd.func38, Tryd.ntmps38
    go_wp2
    go_loopw [4, 17] (fun o i wr => ∃ k : Nat, k ≤ l.length ∧ i = .int .i64 k ∧ (∀ r ∈ l.take k, recB r = true) ∧ Own wr w.heap.size o (framesL (l.take k)) ∧ Below w.heap.size w wr) (fun _ i _ => l.length - (intOf i).toNat)
    case atStart => exact ⟨0, Nat.zero_le _, rfl, by simp, Own.nil _ _, Below.refl _ _⟩
    case round =>
      obtain ⟨k, hk, rfl, hal, ho, hB⟩ := hrel
      have HA : Hid (∀ r ∈ l.take k, recB r = true) := hal
      clear hal
      have hz := hB.size
      by_cases hlt : k < l.length
      · obtain ⟨b, off, rfl, hj⟩ := hc k hlt
        have hra := range_below (hj k hlt) hB
        have hfk := hf l[k] (List.getElem_mem hlt)
        have hnew := range_new' wr l[k].cells 93
        have hGr : (wr.alloc (.cells l[k].cells.toArray 93)).cell? ⟨0, 0, none⟩ = some (sentR A) := ((bcell ((Below.refl wr.heap.size wr).alloc (Nat.le_refl _) (.cells l[k].cells.toArray 93))).1 _ 0 (by omega)).trans ((hB.cell (p := ⟨0, 0, none⟩) hgl).trans hG)
        clear hc hj
        cases hrk : recB l[k]
        · have HN : Hid (recsB l = false) := recsB_no hlt hrk
          have hca : chAns A l[k] = .tuple #[.nilIface, .iface 111 (.agg #[sentR A, .int .i64 0])] := by unfold chAns; rw [hrk]; rfl
          go_wp2_with (first
          | (refine gate_load' 93 (.tmp 19) rfl ?_; refine wpList_load_mid rfl 93 (.tmp 19) rfl b (off + k * 11) rfl l[k].cells _ hra Tryd.underlying93 rfl sizeRec ?_)
          | (refine gate_store' 93 (.tmp 6) (.tmp 20) rfl ?_; refine wpl_store_new' rfl 93 (.tmp 6) (.tmp 20) rfl #[.int .i64 0, .int .i64 0, .int .i64 0, .int .i64 0, .int .i64 0, .int .i64 0, .int .i64 0, .int .i64 0, .string ⟨#[]⟩, .string ⟨#[]⟩, .string ⟨#[]⟩] l[k].cells.toArray rfl rfl sizeRec rfl (by simp [Rec.cells, Value.oneCell']) ?_)
          | (refine gate_load' 93 (.tmp 6) rfl ?_; refine wpList_load_mid rfl 93 (.tmp 6) rfl wr.heap.size 0 rfl l[k].cells _ hnew Tryd.underlying93 rfl sizeRec ?_)
          | (go_at_call 67; refine (changeOf_any l[k] hfk A _ hGr).mono ?_; rintro x w1 ⟨rfl, hb1⟩; rw [hca]; have hz1 : wr.heap.size < w1.heap.size := (by have := hb1.size; simp at this; omega); have hB1 : Below w.heap.size w w1 := (hB.alloc hz _).trans (hb1.mono (by simp; omega))))
          go_ret2
          exact ⟨.inr ⟨HN.out, rfl⟩, hB1⟩
        · obtain ⟨p1, p2, p3⟩ := recL_len hrk
          have q1 : 0 < (frameL (recL l[k])).length := by simp [frameL, wordL]
          have hfl : (framesL (l.take k)).length ≤ 408 * 8192 := by
            have h := framesL_len (l := l.take k) (by rw [List.all_eq_true]; exact HA.out)
            have h2 : (l.take k).length ≤ 8192 := by rw [List.length_take]; omega
            omega
          have HT : Hid (framesL (l.take (k + 1)) = framesL (l.take k) ++ frameL (recL l[k])) := framesL_take l k hlt
          have HA' : Hid (∀ r ∈ l.take (k + 1), recB r = true) := by
            intro r hr
            rw [List.take_succ_eq_append_getElem hlt, List.mem_append] at hr
            rcases hr with hr | hr
            · exact HA.out r hr
            · rw [List.mem_singleton] at hr; rw [hr]; exact hrk
          rcases encode_of l[k] hrk with ⟨x, hch, hcc⟩ | ⟨x, hch, hcc⟩ | ⟨x, hch, hcc⟩
          · have HCC : Hid (∀ w, Calls Tryd.prog 139 #[x, .slice none 0 0] w fun e w' => ∃ v', e = .returned v' ∧ Own w' w.heap.size v' (recL l[k]) ∧ Below w.heap.size w w') := hcc
            have hm := fun w => meth_hard_encode x w
            have hca : chAns A l[k] = .tuple #[.iface 135 x, .nilIface] := by unfold chAns; rw [hrk, if_pos rfl, hch]
            clear hcc hch
            go_wp2_with (first
            | (refine gate_load' 93 (.tmp 19) rfl ?_; refine wpList_load_mid rfl 93 (.tmp 19) rfl b (off + k * 11) rfl l[k].cells _ hra Tryd.underlying93 rfl sizeRec ?_)
            | (refine gate_store' 93 (.tmp 6) (.tmp 20) rfl ?_; refine wpl_store_new' rfl 93 (.tmp 6) (.tmp 20) rfl #[.int .i64 0, .int .i64 0, .int .i64 0, .int .i64 0, .int .i64 0, .int .i64 0, .int .i64 0, .int .i64 0, .string ⟨#[]⟩, .string ⟨#[]⟩, .string ⟨#[]⟩] l[k].cells.toArray rfl rfl sizeRec rfl (by simp [Rec.cells, Value.oneCell']) ?_)
            | (refine gate_load' 93 (.tmp 6) rfl ?_; refine wpList_load_mid rfl 93 (.tmp 6) rfl wr.heap.size 0 rfl l[k].cells _ hnew Tryd.underlying93 rfl sizeRec ?_)
            | (go_at_call 67; refine (changeOf_any l[k] hfk A _ hGr).mono ?_; rintro x w1 ⟨rfl, hb1⟩; rw [hca]; have hz1 : wr.heap.size < w1.heap.size := (by have := hb1.size; simp at this; omega); have hB1 : Below w.heap.size w w1 := (hB.alloc hz _).trans (hb1.mono (by simp; omega)))
            | (go_at_call 139; refine Calls.mono (HCC.out _) ?_; rintro e w2 ⟨v2, rfl, ho2, hb2⟩; have hz2 := hb2.size; replace hB1 := hB1.trans (hb2.mono (by omega)))
            | (go_at_call 68; refine (sealFrame_any _ _ _ (ho2.bs (by unfold maxLen; omega)) p1 (by omega)).mono ?_; rintro e w3 ⟨v3, rfl, ho3, hb3⟩; have hz3 := hb3.size; have hoo := ((ho.below ((Below.refl _ _).alloc (Nat.le_refl _) (.cells l[k].cells.toArray 93))).below hb1).below (hb2.trans (hb3.mono hb2.size)); replace hB1 := hB1.trans (hb3.mono (by omega)))
            | (at_builtin; refine wpl_append rfl (.tmp 29) (.tmp 32) rfl hoo rfl (ho3.bs (by unfold maxLen; omega)) rfl q1 (by omega) (by omega) ?_; intro v4 w4 ho4 hg4; replace hB1 := hB1.trans (hg4.below hoo (by omega))))
            go_roundw
            case rel => exact ⟨k + 1, by omega, by go_num, HA'.out, by rw [HT.out]; exact ho4, hB1⟩
            case measure => simp [intOf]; omega
          · have HCC : Hid (∀ w, Calls Tryd.prog 146 #[x, .slice none 0 0] w fun e w' => ∃ v', e = .returned v' ∧ Own w' w.heap.size v' (recL l[k]) ∧ Below w.heap.size w w') := hcc
            have hm := fun w => meth_add_encode x w
            have hca : chAns A l[k] = .tuple #[.iface 137 x, .nilIface] := by unfold chAns; rw [hrk, if_pos rfl, hch]
            clear hcc hch
            go_wp2_with (first
            | (refine gate_load' 93 (.tmp 19) rfl ?_; refine wpList_load_mid rfl 93 (.tmp 19) rfl b (off + k * 11) rfl l[k].cells _ hra Tryd.underlying93 rfl sizeRec ?_)
            | (refine gate_store' 93 (.tmp 6) (.tmp 20) rfl ?_; refine wpl_store_new' rfl 93 (.tmp 6) (.tmp 20) rfl #[.int .i64 0, .int .i64 0, .int .i64 0, .int .i64 0, .int .i64 0, .int .i64 0, .int .i64 0, .int .i64 0, .string ⟨#[]⟩, .string ⟨#[]⟩, .string ⟨#[]⟩] l[k].cells.toArray rfl rfl sizeRec rfl (by simp [Rec.cells, Value.oneCell']) ?_)
            | (refine gate_load' 93 (.tmp 6) rfl ?_; refine wpList_load_mid rfl 93 (.tmp 6) rfl wr.heap.size 0 rfl l[k].cells _ hnew Tryd.underlying93 rfl sizeRec ?_)
            | (go_at_call 67; refine (changeOf_any l[k] hfk A _ hGr).mono ?_; rintro x w1 ⟨rfl, hb1⟩; rw [hca]; have hz1 : wr.heap.size < w1.heap.size := (by have := hb1.size; simp at this; omega); have hB1 : Below w.heap.size w w1 := (hB.alloc hz _).trans (hb1.mono (by simp; omega)))
            | (go_at_call 146; refine Calls.mono (HCC.out _) ?_; rintro e w2 ⟨v2, rfl, ho2, hb2⟩; have hz2 := hb2.size; replace hB1 := hB1.trans (hb2.mono (by omega)))
            | (go_at_call 68; refine (sealFrame_any _ _ _ (ho2.bs (by unfold maxLen; omega)) p1 (by omega)).mono ?_; rintro e w3 ⟨v3, rfl, ho3, hb3⟩; have hz3 := hb3.size; have hoo := ((ho.below ((Below.refl _ _).alloc (Nat.le_refl _) (.cells l[k].cells.toArray 93))).below hb1).below (hb2.trans (hb3.mono hb2.size)); replace hB1 := hB1.trans (hb3.mono (by omega)))
            | (at_builtin; refine wpl_append rfl (.tmp 29) (.tmp 32) rfl hoo rfl (ho3.bs (by unfold maxLen; omega)) rfl q1 (by omega) (by omega) ?_; intro v4 w4 ho4 hg4; replace hB1 := hB1.trans (hg4.below hoo (by omega))))
            go_roundw
            case rel => exact ⟨k + 1, by omega, by go_num, HA'.out, by rw [HT.out]; exact ho4, hB1⟩
            case measure => simp [intOf]; omega
          · have HCC : Hid (∀ w, Calls Tryd.prog 158 #[x, .slice none 0 0] w fun e w' => ∃ v', e = .returned v' ∧ Own w' w.heap.size v' (recL l[k]) ∧ Below w.heap.size w w') := hcc
            have hm := fun w => meth_cut_encode x w
            have hca : chAns A l[k] = .tuple #[.iface 139 x, .nilIface] := by unfold chAns; rw [hrk, if_pos rfl, hch]
            clear hcc hch
            go_wp2_with (first
            | (refine gate_load' 93 (.tmp 19) rfl ?_; refine wpList_load_mid rfl 93 (.tmp 19) rfl b (off + k * 11) rfl l[k].cells _ hra Tryd.underlying93 rfl sizeRec ?_)
            | (refine gate_store' 93 (.tmp 6) (.tmp 20) rfl ?_; refine wpl_store_new' rfl 93 (.tmp 6) (.tmp 20) rfl #[.int .i64 0, .int .i64 0, .int .i64 0, .int .i64 0, .int .i64 0, .int .i64 0, .int .i64 0, .int .i64 0, .string ⟨#[]⟩, .string ⟨#[]⟩, .string ⟨#[]⟩] l[k].cells.toArray rfl rfl sizeRec rfl (by simp [Rec.cells, Value.oneCell']) ?_)
            | (refine gate_load' 93 (.tmp 6) rfl ?_; refine wpList_load_mid rfl 93 (.tmp 6) rfl wr.heap.size 0 rfl l[k].cells _ hnew Tryd.underlying93 rfl sizeRec ?_)
            | (go_at_call 67; refine (changeOf_any l[k] hfk A _ hGr).mono ?_; rintro x w1 ⟨rfl, hb1⟩; rw [hca]; have hz1 : wr.heap.size < w1.heap.size := (by have := hb1.size; simp at this; omega); have hB1 : Below w.heap.size w w1 := (hB.alloc hz _).trans (hb1.mono (by simp; omega)))
            | (go_at_call 158; refine Calls.mono (HCC.out _) ?_; rintro e w2 ⟨v2, rfl, ho2, hb2⟩; have hz2 := hb2.size; replace hB1 := hB1.trans (hb2.mono (by omega)))
            | (go_at_call 68; refine (sealFrame_any _ _ _ (ho2.bs (by unfold maxLen; omega)) p1 (by omega)).mono ?_; rintro e w3 ⟨v3, rfl, ho3, hb3⟩; have hz3 := hb3.size; have hoo := ((ho.below ((Below.refl _ _).alloc (Nat.le_refl _) (.cells l[k].cells.toArray 93))).below hb1).below (hb2.trans (hb3.mono hb2.size)); replace hB1 := hB1.trans (hb3.mono (by omega)))
            | (at_builtin; refine wpl_append rfl (.tmp 29) (.tmp 32) rfl hoo rfl (ho3.bs (by unfold maxLen; omega)) rfl q1 (by omega) (by omega) ?_; intro v4 w4 ho4 hg4; replace hB1 := hB1.trans (hg4.below hoo (by omega))))
            go_roundw
            case rel => exact ⟨k + 1, by omega, by go_num, HA'.out, by rw [HT.out]; exact ho4, hB1⟩
            case measure => simp [intOf]; omega
      · have e : l.take k = l := List.take_of_length_le (by omega)
        rw [e] at ho HA
        have HR : Hid (recsB l = true) := by
          show _ = _
          simp only [recsB, Bool.and_eq_true, decide_eq_true_eq, List.all_eq_true]
          exact ⟨h8', HA.out⟩
        go_wp2
        go_ret2
        exact ⟨.inl ⟨HR.out, _, rfl, ho⟩, hB⟩

end Go.Proofs.YtmbiccmndcchhagDoor
