/-
  (impl.table).put, (impl.table).carryOut.
-/
import Derived.Test.YtnoihfincifphaaTbLook
import Derived.BigQuiet
namespace Go.Proofs.Ytnoihfincifphaa
open Go.RowKit Go.Maps
set_option linter.unusedVariables false
set_option linter.unusedSimpArgs false

theorem find_key (ps : List Pr) (k : ByteArray) : (ps.find? fun a => (prK a).sameKey (txK k)) = prOf ps k := by
  unfold prOf
  congr 1
  funext a
  exact same_tx a.k k
theorem any_key (ps : List Pr) (k : ByteArray) : (ps.any fun a => (prK a).sameKey (txK k)) = (prOf ps k).isSome := by
  rw [← find_key]
  induction ps with
  | nil => rfl
  | cons a r ih =>
    rw [List.any_cons, List.find?_cons]
    cases (prK a).sameKey (txK k)
    · simpa using ih
    · rfl
/-- what put does -/
def putR (ps : List Pr) (k v : ByteArray) : Int × List Pr := if prOf ps k = none ∧ ps.length = 256 then (4, ps) else (1, kPut prK ⟨k, v⟩ ps)

set_option maxHeartbeats 4000000 in
set_option maxRecDepth 100000 in
theorem put_any (b c : Nat) (ps : List Pr) (cl sq op : Int) (k v o : ByteArray) (w : World) (hP : MP w b ps) (hr : KRise prK ps) (h256 : ps.length ≤ 256) (hk : k.size ≤ 1048576) :
    Calls Try.prog 98 #[.agg #[.map (some b), .map (some c)], .agg #[.int .i64 cl, .int .i64 sq, .int .i64 op, .string k, .string v, .string o]] w fun e w' => e = .returned (.int .i64 (putR ps k v).1) ∧ MP w' b (putR ps k v).2 ∧ w.grownBy w' (some b) := by
  have hbw := hP.lt
  have HP : Hid (MP w b ps) := hP
  have HR : Hid (KRise prK ps) := hr
  have hkey := keyS hk
  clear hP hr
  cases hf : prOf ps k with
  | none =>
    have HF : Hid ((ps.find? fun a => (prK a).sameKey (txK k)).elim (.agg #[.string ⟨#[]⟩, .string ⟨#[]⟩]) prV = .agg #[.string ⟨#[]⟩, .string ⟨#[]⟩]) := by
      show _ = _
      rw [find_key, hf]; rfl
    have HA : Hid ((ps.any fun a => (prK a).sameKey (txK k)) = false) := by
      show _ = _
      rw [any_key, hf]; rfl
    by_cases hl : ps.length = 256
    · have HE : Hid (putR ps k v = (4, ps)) := by
        show _ = _
        unfold putR; rw [if_pos ⟨hf, hl⟩]
      have hlen : ∀ o1 o2 o3 : Obj, Sem.run Try.prog (Builtin.len_ #[96] 3 #[.map (some b)]) (((w.alloc o1).alloc o2).alloc o3) = .ok (.int .i64 256) (((w.alloc o1).alloc o2).alloc o3) := fun o1 o2 o3 => by
        have h := World.ownsMap.len (((HP.out.alloc o1).alloc o2).alloc o3) Try.underlying96 3
        rw [size_kMap, hl] at h
        exact h
      clear hf
      go_enter Try.func98, Try.ntmps98
      go_wp2_with (at_lookup; refine wpl_lookOk _ rfl _ _ 96 rfl 9 135 lawS Try.underlying96 (zeroPr _) b ps.length ps rfl ((HP.out.alloc _).alloc _) _ _ rfl hkey _ HF.out _ HA.out ?_)
      go_ret
      rw [HE.out]
      exact ⟨rfl, ((HP.out.alloc _).alloc _).alloc _, grownBy_trans (grownBy_trans (World.grownBy_alloc _ _ _) (World.grownBy_alloc _ _ _)) (World.grownBy_alloc _ _ _)⟩
    · have HE : Hid (putR ps k v = (1, kPut prK ⟨k, v⟩ ps)) := by
        show _ = _
        unfold putR; rw [if_neg fun h => hl h.2]
      have hlen : ∀ o1 o2 o3 : Obj, Sem.run Try.prog (Builtin.len_ #[96] 3 #[.map (some b)]) (((w.alloc o1).alloc o2).alloc o3) = .ok (.int .i64 ps.length) (((w.alloc o1).alloc o2).alloc o3) := fun o1 o2 o3 => by
        have h := World.ownsMap.len (((HP.out.alloc o1).alloc o2).alloc o3) Try.underlying96 3
        rw [size_kMap] at h
        exact h
      have hd : decide ((ps.length : Int) = 256) = false := by simp; omega
      clear hf
      go_enter Try.func98, Try.ntmps98
      go_wp2_with (first
        | (at_lookup; refine wpl_lookOk _ rfl _ _ 96 rfl 9 135 lawS Try.underlying96 (zeroPr _) b ps.length ps rfl ((HP.out.alloc _).alloc _) _ _ rfl hkey _ HF.out _ HA.out ?_)
        | (at_mapUpdate; refine wpList_mapUpdate_own _ rfl _ _ _ 96 rfl 9 135 lawS Try.underlying96 heldE b ps.length _ rfl (((HP.out.alloc _).alloc _).alloc _) (by unfold maxLen; omega) _ _ _ rfl rfl hkey _ [] rfl ?_; intro w1 hown1 hgrow1))
      go_ret
      rw [HE.out]
      exact ⟨rfl, MP.put HR.out ⟨k, v⟩ hown1, grownBy_trans (grownBy_trans (grownBy_trans (World.grownBy_alloc _ _ _) (World.grownBy_alloc _ _ _)) (World.grownBy_alloc _ _ _)) hgrow1⟩
  | some p =>
    have HF : Hid ((ps.find? fun a => (prK a).sameKey (txK k)).elim (.agg #[.string ⟨#[]⟩, .string ⟨#[]⟩]) prV = .agg #[.string p.k, .string p.v]) := by
      show _ = _
      rw [find_key, hf]; rfl
    have HA : Hid ((ps.any fun a => (prK a).sameKey (txK k)) = true) := by
      show _ = _
      rw [any_key, hf]; rfl
    have HE : Hid (putR ps k v = (1, kPut prK ⟨k, v⟩ ps)) := by
      show _ = _
      unfold putR; rw [if_neg fun h => by rw [hf] at h; cases h.1]
    clear hf
    go_enter Try.func98, Try.ntmps98
    go_wp2_with (first
      | (at_lookup; refine wpl_lookOk _ rfl _ _ 96 rfl 9 135 lawS Try.underlying96 (zeroPr _) b ps.length ps rfl ((HP.out.alloc _).alloc _) _ _ rfl hkey _ HF.out _ HA.out ?_)
      | (at_mapUpdate; refine wpList_mapUpdate_own _ rfl _ _ _ 96 rfl 9 135 lawS Try.underlying96 heldE b ps.length _ rfl (((HP.out.alloc _).alloc _).alloc _) (by unfold maxLen; omega) _ _ _ rfl rfl hkey _ [] rfl ?_; intro w1 hown1 hgrow1))
    go_ret
    rw [HE.out]
    exact ⟨rfl, MP.put HR.out ⟨k, v⟩ hown1, grownBy_trans (grownBy_trans (grownBy_trans (World.grownBy_alloc _ _ _) (World.grownBy_alloc _ _ _)) (World.grownBy_alloc _ _ _)) hgrow1⟩

theorem MP.del {w' : World} {b n : Nat} {ps : List Pr} (hr : KRise prK ps) (k : ByteArray) (h : w'.ownsMap Try.prog 9 heldE b n ((kMap prK prV ps).del (txK k))) : MP w' b (kDel prK (txK k) ps) := by
  have e := del_rise prOrd prV hr ⟨k, tx0⟩
  rw [show prK ⟨k, tx0⟩ = txK k from rfl] at e
  rw [e] at h
  exact MP.of h
theorem eq_tx (a b : ByteArray) : (a.toList == b.toList) = decide (a = b) := by
  by_cases e : a = b
  · subst e; simp
  · rw [decide_eq_false e, ByteArray.toList_eq, ByteArray.toList_eq, beq_eq_false_iff_ne]
    exact fun h => e (WideShapes.bytes_inj h)

theorem grownBy_drew {w w' : World} {row : Option Nat} (h : w.grownBy w' row) : w.grownBy w'.drew row := ⟨h.os, h.tape, h.output, h.size, h.block⟩

set_option maxHeartbeats 4000000 in
set_option maxRecDepth 100000 in
theorem carry_any (b c : Nat) (ps : List Pr) (cl sq op : Int) (k v o : ByteArray) (w : World) (hP : MP w b ps) (hr : KRise prK ps) (h256 : ps.length ≤ 256) (hk : k.size ≤ 1048576) :
    Calls Try.prog 80 #[.agg #[.map (some b), .map (some c)], .agg #[.int .i64 cl, .int .i64 sq, .int .i64 op, .string k, .string v, .string o]] w fun e w' => e = .returned (.tuple #[.int .i64 (carry ps op k v o).1, .string (carry ps op k v o).2.1]) ∧ MP w' b (carry ps op k v o).2.2 ∧ w.grownBy w' (some b) := by
  have hbw := hP.lt
  have HP : Hid (MP w b ps) := hP
  have HR : Hid (KRise prK ps) := hr
  have hkey := keyS hk
  have HU : Hid (∀ w', MP w' b ps → Calls Try.prog 98 #[.agg #[.map (some b), .map (some c)], .agg #[.int .i64 cl, .int .i64 sq, .int .i64 op, .string k, .string v, .string o]] w' fun e w'' => e = .returned (.int .i64 (putR ps k v).1) ∧ MP w'' b (putR ps k v).2 ∧ w'.grownBy w'' (some b)) := fun w' h => put_any b c ps cl sq op k v o w' h hr h256 hk
  clear hP hr
  by_cases h2 : op = 2
  · have HE : Hid (carry ps op k v o = ((putR ps k v).1, tx0, (putR ps k v).2)) := by
      show _ = _
      unfold carry putR; rw [if_pos h2]; split <;> rfl
    subst h2
    go_enter Try.func80, Try.ntmps80
    go_wp2_with (go_at_call 98; refine (HU.out _ ((HP.out.alloc _).alloc _)).mono ?_; rintro e w1 ⟨rfl, hm1, hg1⟩; have HM1 : Hid (MP w1 b (putR ps k v).2) := hm1; have HG1 : Hid (World.grownBy _ w1 (some b)) := hg1; clear hm1 hg1)
    refine bodyPost_ret (v := .tuple #[.int .i64 (putR ps k v).1, .string ⟨#[]⟩]) (by simp [results, Try.results80, go_sem, *]) rfl ?_
    rw [HE.out]
    exact ⟨rfl, HM1.out, grownBy_trans (grownBy_trans (World.grownBy_alloc _ _ _) (World.grownBy_alloc _ _ _)) HG1.out⟩
  · have hd2 : decide (op = 2) = false := by simpa using h2
    have hd2' : (op == 2) = false := by simpa using h2
    cases hf : prOf ps k with
    | none =>
      have HF : Hid ((ps.find? fun a => (prK a).sameKey (txK k)).elim (.agg #[.string ⟨#[]⟩, .string ⟨#[]⟩]) prV = .agg #[.string ⟨#[]⟩, .string ⟨#[]⟩]) := by
        show _ = _
        rw [find_key, hf]; rfl
      have HA : Hid ((ps.any fun a => (prK a).sameKey (txK k)) = false) := by
        show _ = _
        rw [any_key, hf]; rfl
      have HE : Hid (carry ps op k v o = (2, tx0, ps)) := by
        show _ = _
        unfold carry; rw [if_neg h2, hf]
      clear hf
      go_enter Try.func80, Try.ntmps80
      go_wp2_with (at_lookup; refine wpl_lookOk _ rfl _ _ 96 rfl 9 135 lawS Try.underlying96 (zeroPr _) b ps.length ps rfl ((HP.out.alloc _).alloc _) _ _ rfl hkey _ HF.out _ HA.out ?_)
      refine bodyPost_ret (v := .tuple #[.int .i64 2, .string ⟨#[]⟩]) (by simp [results, Try.results80, go_sem, *]) rfl ?_
      rw [HE.out]
      exact ⟨rfl, ((HP.out.alloc _).alloc _).alloc _, grownBy_trans (grownBy_trans (World.grownBy_alloc _ _ _) (World.grownBy_alloc _ _ _)) (World.grownBy_alloc _ _ _)⟩
    | some p =>
      have HF : Hid ((ps.find? fun a => (prK a).sameKey (txK k)).elim (.agg #[.string ⟨#[]⟩, .string ⟨#[]⟩]) prV = .agg #[.string p.k, .string p.v]) := by
        show _ = _
        rw [find_key, hf]; rfl
      have HA : Hid ((ps.any fun a => (prK a).sameKey (txK k)) = true) := by
        show _ = _
        rw [any_key, hf]; rfl
      have HPU : Hid (putR ps k v = (1, kPut prK ⟨k, v⟩ ps)) := by
        show _ = _
        unfold putR; rw [if_neg fun h => by rw [hf] at h; cases h.1]
      have HC : Hid (carry ps op k v o = if op = 3 then (1, p.v, kDel prK (txK k) ps) else if op = 4 then (if p.v = o then (1, tx0, kPut prK ⟨k, v⟩ ps) else (3, p.v, ps)) else (1, p.v, ps)) := by
        show _ = _
        unfold carry; rw [if_neg h2, hf]
      clear hf
      by_cases h3 : op = 3
      · have HE : Hid (carry ps op k v o = (1, p.v, kDel prK (txK k) ps)) := HC.out.trans (if_pos h3)
        subst h3
        go_enter Try.func80, Try.ntmps80
        go_wp2_with (first
          | (at_lookup; refine wpl_lookOk _ rfl _ _ 96 rfl 9 135 lawS Try.underlying96 (zeroPr _) b ps.length ps rfl ((HP.out.alloc _).alloc _) _ _ rfl hkey _ HF.out _ HA.out ?_)
          | (at_delete; refine wpList_delete_own _ rfl _ _ 96 9 rfl 135 lawS Try.underlying96 heldE b ps.length _ rfl (((HP.out.alloc _).alloc _).alloc _) _ _ rfl hkey ?_; intro w1 hown1 hturn1; have hg1 := hturn1.grown; have hz1 : w.heap.size + 1 + 1 + 1 ≤ w1.heap.size := (by have := hg1.size; simpa using this); have y1 : w1.cell? ⟨w.heap.size + 1 + 1, 1, none⟩ = some (.string p.v) := (World.cell?_of_block (hg1.block (w.heap.size + 1 + 1) (by simp) (by simp; omega))).trans (by simp [go_sem]); have HM1 : Hid (MP w1 b (kDel prK (txK k) ps)) := MP.del HR.out k hown1; have HG1 : Hid (World.grownBy _ w1 (some b)) := hg1; clear hown1 hturn1 hg1))
        all_goals go_region
        all_goals go_wp2
        all_goals refine bodyPost_ret (v := .tuple #[.int .i64 1, .string p.v]) (by simp [results, Try.results80, go_sem, *]) rfl ?_
        all_goals
          rw [HE.out]
          exact ⟨rfl, HM1.out.keep rfl, grownBy_drew (grownBy_trans (grownBy_trans (grownBy_trans (World.grownBy_alloc _ _ _) (World.grownBy_alloc _ _ _)) (World.grownBy_alloc _ _ _)) HG1.out)⟩
      · have hd3 : decide (op = 3) = false := by simpa using h3
        have hd3' : (op == 3) = false := by simpa using h3
        by_cases h4 : op = 4
        · by_cases hv : p.v = o
          · have HE : Hid (carry ps op k v o = (1, tx0, kPut prK ⟨k, v⟩ ps)) := by
              show _ = _
              rw [HC.out, if_neg h3, if_pos h4, if_pos hv]
            have hq : (p.v.toList == o.toList) = true := by rw [eq_tx]; simpa using hv
            have HU2 : Hid (∀ w', MP w' b ps → Calls Try.prog 98 #[.agg #[.map (some b), .map (some c)], .agg #[.int .i64 cl, .int .i64 sq, .int .i64 op, .string k, .string v, .string o]] w' fun e w'' => e = .returned (.int .i64 1) ∧ MP w'' b (kPut prK ⟨k, v⟩ ps) ∧ w'.grownBy w'' (some b)) := fun w' h => by
              have h' := HU.out w' h
              rw [HPU.out] at h'
              exact h'
            subst h4
            clear hv
            go_enter Try.func80, Try.ntmps80
            go_wp2_with (first
              | (at_lookup; refine wpl_lookOk _ rfl _ _ 96 rfl 9 135 lawS Try.underlying96 (zeroPr _) b ps.length ps rfl ((HP.out.alloc _).alloc _) _ _ rfl hkey _ HF.out _ HA.out ?_)
              | (go_at_call 98; refine (HU2.out _ (((HP.out.alloc _).alloc _).alloc _)).mono ?_; rintro e w1 ⟨rfl, hm1, hg1⟩; have HM1 : Hid (MP w1 b (kPut prK ⟨k, v⟩ ps)) := hm1; have HG1 : Hid (World.grownBy _ w1 (some b)) := hg1; clear hm1 hg1))
            refine bodyPost_ret (v := .tuple #[.int .i64 1, .string ⟨#[]⟩]) (by simp [results, Try.results80, go_sem, *]) rfl ?_
            rw [HE.out]
            exact ⟨rfl, HM1.out, grownBy_trans (grownBy_trans (grownBy_trans (World.grownBy_alloc _ _ _) (World.grownBy_alloc _ _ _)) (World.grownBy_alloc _ _ _)) HG1.out⟩
          · have HE : Hid (carry ps op k v o = (3, p.v, ps)) := by
              show _ = _
              rw [HC.out, if_neg h3, if_pos h4, if_neg hv]
            have hq : (p.v.toList == o.toList) = false := by rw [eq_tx]; simpa using hv
            subst h4
            clear hv
            go_enter Try.func80, Try.ntmps80
            go_wp2_with (at_lookup; refine wpl_lookOk _ rfl _ _ 96 rfl 9 135 lawS Try.underlying96 (zeroPr _) b ps.length ps rfl ((HP.out.alloc _).alloc _) _ _ rfl hkey _ HF.out _ HA.out ?_)
            all_goals go_region
            all_goals go_wp2
            all_goals refine bodyPost_ret (v := .tuple #[.int .i64 3, .string p.v]) (by simp [results, Try.results80, go_sem, *]) rfl ?_
            all_goals
              rw [HE.out]
              exact ⟨rfl, (((HP.out.alloc _).alloc _).alloc _).keep rfl, grownBy_drew (grownBy_trans (grownBy_trans (World.grownBy_alloc _ _ _) (World.grownBy_alloc _ _ _)) (World.grownBy_alloc _ _ _))⟩
        · have HE : Hid (carry ps op k v o = (1, p.v, ps)) := by
            show _ = _
            rw [HC.out, if_neg h3, if_neg h4]
          have hd4 : decide (op = 4) = false := by simpa using h4
          have hd4' : (op == 4) = false := by simpa using h4
          go_enter Try.func80, Try.ntmps80
          go_wp2_with (at_lookup; refine wpl_lookOk _ rfl _ _ 96 rfl 9 135 lawS Try.underlying96 (zeroPr _) b ps.length ps rfl ((HP.out.alloc _).alloc _) _ _ rfl hkey _ HF.out _ HA.out ?_)
          all_goals go_region
          all_goals go_wp2
          all_goals refine bodyPost_ret (v := .tuple #[.int .i64 1, .string p.v]) (by simp [results, Try.results80, go_sem, *]) rfl ?_
          all_goals
            rw [HE.out]
            exact ⟨rfl, (((HP.out.alloc _).alloc _).alloc _).keep rfl, grownBy_drew (grownBy_trans (grownBy_trans (World.grownBy_alloc _ _ _) (World.grownBy_alloc _ _ _)) (World.grownBy_alloc _ _ _))⟩
end Go.Proofs.Ytnoihfincifphaa
