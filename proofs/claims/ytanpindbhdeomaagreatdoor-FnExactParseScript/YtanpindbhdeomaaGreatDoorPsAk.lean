/-
  spec.l7askLine: the words behind "ask".
-/
import Derived.Test.YtanpindbhdeomaaGreatDoorPsNu
import Derived.Test.YtanpindbhdeomaaGreatDoorSkSW
import Derived.Test.YtanpindbhdeomaaGreatDoorSkStA
import Derived.Test.YtanpindbhdeomaaGreatDoorMidBase
import Derived.Deep.RegionWith
import Derived.Deep.RegionHeld3
import Derived.Deep.DeepCutAuto
namespace Go.Proofs.YtanpindbhdeomaaGreatDoor
open Go.RowKit
set_option linter.unusedVariables false
set_option linter.unusedSimpArgs false

theorem sizeStP : (Tryz.prog.info? 48).map (·.size) = some 10 := by kernel_rfl
theorem sizeCmP : (Tryz.prog.info? 46).map (·.size) = some 6 := by kernel_rfl
def zS : Stp := ⟨0, 0, 0, 0, 0, 0, 0, ⟨#[]⟩, ⟨#[]⟩, ⟨#[]⟩⟩
/-- an ask's words: the code, the step -/
def askQ (sv cc : Int) (ws : List (List UInt8)) : Int × Stp :=
  if ws.length < 3 then (5, zS)
  else if opW (ws.getD 2 []) = 0 ∨ ws.length ≠ 3 + nTx (opW (ws.getD 2 [])) then (5, zS)
  else if numOk (ws.getD 1 []) = false then (6, zS)
  else if stOk sv cc (askS ws (opW (ws.getD 2 []))) = true then (0, askS ws (opW (ws.getD 2 []))) else (7, zS)
set_option maxHeartbeats 1000000 in
theorem l7opWords_any (op : Int) (w : World) :
    Calls Tryz.prog 54 #[.int .i64 op] w fun e w' => e = .returned (.int .i64 (nTx op : Int)) ∧ w' = w := by
  by_cases h2 : op = 2
  · subst h2
    go_enter Tryz.func54, Tryz.ntmps54
    go_wp2
    go_ret
    exact ⟨rfl, rfl⟩
  · have h2' : (op == 2) = false := by simpa using h2
    by_cases h4 : op = 4
    · subst h4
      go_enter Tryz.func54, Tryz.ntmps54
      go_wp2
      go_ret
      exact ⟨rfl, rfl⟩
    · have h4' : (op == 4) = false := by simpa using h4
      have e : nTx op = 1 := by unfold nTx; rw [if_neg h2, if_neg h4]
      go_enter Tryz.func54, Tryz.ntmps54
      go_wp2
      go_ret
      exact ⟨by rw [e]; rfl, rfl⟩
/-- the operation among the first k -/
def opU (x : List UInt8) (k : Nat) : Int := if 1 < k ∧ x = opK 1 then 1 else if 2 < k ∧ x = opK 2 then 2 else if 3 < k ∧ x = opK 3 then 3 else if 4 < k ∧ x = opK 4 then 4 else 0
theorem opU_1 (x : List UInt8) : opU x 1 = 0 := by unfold opU; simp
theorem opU_5 (x : List UInt8) : opU x 5 = opW x := by unfold opU opW; simp
theorem opU_hit (k : Nat) (h1 : 1 ≤ k) (h4 : k ≤ 4) : opU (opK (k : Int)) (k + 1) = k := by
  rcases (show k = 1 ∨ k = 2 ∨ k = 3 ∨ k = 4 by omega) with rfl | rfl | rfl | rfl <;> decide
theorem opU_miss (x : List UInt8) (k : Nat) (h1 : 1 ≤ k) (h4 : k ≤ 4) (h : x ≠ opK (k : Int)) : opU x (k + 1) = opU x k := by
  rcases (show k = 1 ∨ k = 2 ∨ k = 3 ∨ k = 4 by omega) with rfl | rfl | rfl | rfl
  · have h' : ¬ x = opK 1 := h
    unfold opU; simp [h']
  · have h' : ¬ x = opK 2 := h
    unfold opU; simp [h']
  · have h' : ¬ x = opK 3 := h
    unfold opU; simp [h']
  · have h' : ¬ x = opK 4 := h
    unfold opU; simp [h']
theorem opW_le (x : List UInt8) : 0 ≤ opW x ∧ opW x ≤ 4 := by unfold opW; (repeat' split) <;> omega
theorem sOf_inj {a b : List UInt8} (h : (sOf a).toList = (sOf b).toList) : a = b := by
  rw [ByteArray.toList_eq, ByteArray.toList_eq, list_sOf, list_sOf] at h
  exact h
theorem byA_size (l : List UInt8) : (byA l).size = l.length := by show l.toArray.size = _; simp
theorem cmdF_ok (op k v o : Int) (h1 : 1 ≤ op) (h4 : op ≤ 4) : (cmdF 1 1 op k v o == 0) = (decide (1 ≤ k) && decide (k ≤ 64) && decide (v ≤ if op = 2 ∨ op = 4 then 64 else 0) && decide (o ≤ if op = 4 then 64 else 0)) := by
  unfold cmdF
  generalize (if op = 2 ∨ op = 4 then (64 : Int) else 0) = m5
  generalize (if op = 4 then (64 : Int) else 0) = m6
  rw [if_neg (by omega), if_neg (by omega), if_neg (by omega), if_neg (by omega)]
  by_cases q4 : k < 1 ∨ 64 < k
  · rw [if_pos q4]
    rcases q4 with q | q
    · rw [decide_eq_false (p := 1 ≤ k) (by omega)]; rfl
    · rw [decide_eq_false (p := k ≤ 64) (by omega)]; simp
  · rw [if_neg q4, decide_eq_true (p := 1 ≤ k) (by omega), decide_eq_true (p := k ≤ 64) (by omega)]
    by_cases q5 : m5 < v
    · rw [if_pos q5, decide_eq_false (p := v ≤ m5) (by omega)]; rfl
    · rw [if_neg q5, decide_eq_true (p := v ≤ m5) (by omega)]
      by_cases q6 : m6 < o
      · rw [if_pos q6, decide_eq_false (p := o ≤ m6) (by omega)]; rfl
      · rw [if_neg q6, decide_eq_true (p := o ≤ m6) (by omega)]; rfl
theorem ask_ok (sv cc : Int) (ws : List (List UInt8)) (op : Int) (h1 : 1 ≤ op) (h4 : op ≤ 4) (hl : ws.length = 3 + nTx op) (hw : ∀ x ∈ ws, x ≠ []) :
    stOk sv cc (askS ws op) = (inB (numV (ws.getD 1 [])) 1 cc && (ws.drop 3).all fun x => decide (x.length ≤ 64)) := by
  have hcm : cmOk (askS ws op) = ((ws.drop 3).all fun x => decide (x.length ≤ 64)) := by
    unfold cmOk
    rw [if_pos (show (askS ws op).kd = 11 from rfl)]
    rw [callF_b]
    show (decide ((0 : Int) = 0) && decide ((0 : Int) = 0) && ((cmdF 1 1 op ((byA (ws.getD 3 [])).size : Int) ((byA (if op = 2 then ws.getD 4 [] else if op = 4 then ws.getD 5 [] else [])).size : Int) ((byA (if op = 4 then ws.getD 4 [] else [])).size : Int) == 0) && !(op == 0))) = _
    rw [cmdF_ok _ _ _ _ h1 h4]
    simp only [decide_true, Bool.true_and, byA_size]
    rcases (show op = 1 ∨ op = 3 ∨ op = 2 ∨ op = 4 by omega) with rfl | rfl | rfl | rfl
    · match ws, hl with
      | [a, b, c, d], _ =>
        have hd : 0 < d.length := List.length_pos_iff.2 (hw d (by simp))
        rw [Bool.eq_iff_iff]
        simp
        omega
    · match ws, hl with
      | [a, b, c, d], _ =>
        have hd : 0 < d.length := List.length_pos_iff.2 (hw d (by simp))
        rw [Bool.eq_iff_iff]
        simp
        omega
    · match ws, hl with
      | [a, b, c, d, e], _ =>
        have hd : 0 < d.length := List.length_pos_iff.2 (hw d (by simp))
        rw [Bool.eq_iff_iff]
        simp
        omega
    · match ws, hl with
      | [a, b, c, d, e, f], _ =>
        have hd : 0 < d.length := List.length_pos_iff.2 (hw d (by simp))
        rw [Bool.eq_iff_iff]
        simp
        omega
  unfold stOk
  rw [hcm]
  have e1 : inB (askS ws op).kd 1 14 = true := rfl
  have e2 : nIn sv cc (askS ws op).a (nk0 (askS ws op).kd) = inB (numV (ws.getD 1 [])) 1 cc := rfl
  have e3 : nIn sv cc (askS ws op).b (nk1 (askS ws op).kd) = true := rfl
  have e4 : nIn sv cc (askS ws op).c (nk2 (askS ws op).kd) = true := rfl
  rw [e1, e2, e3, e4]
  simp
set_option maxHeartbeats 8000000 in
set_option maxRecDepth 100000 in
theorem l7askLine_op (sv cc el b r d : Int) (v : Value) (ws : List (List UInt8)) (w : World) (hv : Sl txC 1 w v (ws.map sOf)) (hl : ws.length ≤ 70000) (hw : ∀ x ∈ ws, x.length ≤ 65536 ∧ x ≠ []) :
    Calls Tryz.prog 34 #[.agg #[.int .i64 sv, .int .i64 cc, .int .i64 el, .int .i64 b, .int .i64 r, .int .i64 d], v] w fun e w' => e = .returned (.tuple #[.agg #[.int .i64 (askQ sv cc ws).2.kd, .int .i64 (askQ sv cc ws).2.a, .int .i64 (askQ sv cc ws).2.b, .int .i64 (askQ sv cc ws).2.c, .int .i64 (askQ sv cc ws).2.cl, .int .i64 (askQ sv cc ws).2.sq, .int .i64 (askQ sv cc ws).2.op, .string (askQ sv cc ws).2.k, .string (askQ sv cc ws).2.v, .string (askQ sv cc ws).2.o], .int .i64 (askQ sv cc ws).1]) ∧ Below w.heap.size w w' := by
  obtain ⟨hlm, a, cap, rfl, hc⟩ := hv
  have hml : (ws.map sOf).length = ws.length := List.length_map ..
  have HC : Hid (∀ z, Below w.heap.size w z → ∀ j (h : j < ws.length), ∃ q off, a = some ⟨q, off, none⟩ ∧ z.cell? ⟨q, off + j, none⟩ = some (.string (sOf ws[j]))) := fun z hb j h => by
    obtain ⟨q, off, e, hj⟩ := hc j (by omega)
    have h2 := hj j (by omega) 0 _ rfl
    have h3 : w.cell? ⟨q, off + j, none⟩ = some (.string (sOf ws[j])) := by simpa using h2
    exact ⟨q, off, e, (hb.cell (p := ⟨q, off + j, none⟩) (cell_lt h3)).trans h3⟩
  have HW : Hid (∀ x ∈ ws, x.length ≤ 65536 ∧ x ≠ []) := hw
  rw [hml]
  clear hc hw hlm hml
  have HQ : Hid (askQ sv cc ws = if ws.length < 3 then (5, zS) else if opW (ws.getD 2 []) = 0 ∨ ws.length ≠ 3 + nTx (opW (ws.getD 2 [])) then (5, zS) else if numOk (ws.getD 1 []) = false then (6, zS) else if stOk sv cc (askS ws (opW (ws.getD 2 []))) = true then (0, askS ws (opW (ws.getD 2 []))) else (7, zS)) := rfl
  generalize askQ sv cc ws = AQ at HQ ⊢
  obtain ⟨ac, ax⟩ := AQ
  dsimp only
  have G1 : Hid True := trivial
  have G2 : Hid True := trivial
  have G3 : Hid True := trivial
  by_cases h3 : ws.length < 3
  · have HQ2 : Hid ((ac, ax) = (5, zS)) := by unfold Hid; rw [HQ.out, if_pos h3]
    obtain ⟨rfl, rfl⟩ := Prod.mk.inj HQ2.out
    have h3' : (ws.length : Int) < 3 := by omega
    clear HQ HQ2
    go_enter Tryz.func34, Tryz.ntmps34
    go_wp2_with (first
      | (have hBA := G1; refine gate_st 48 (.tmp 6) _ rfl ?_; clear hBA; refine wpl_store_last rfl 48 (.tmp 6) _ rfl (w.heap.size + 1 + 1) rfl (by simp) rfl sizeStP rfl rfl (by simp [Value.oneCell']) ?_; clear G1)
      | (have hBA := G2; refine gate_ld 48 (.tmp 6) rfl ?_; clear hBA; refine wpl_load_blk rfl 48 (.tmp 6) rfl (w.heap.size + 1 + 1) rfl (Blk.new' _ _ _ (by simp)) Tryz.underlying48 rfl sizeStP rfl ?_; clear G2)
      | (have hBA := G3; refine gate_st 48 (.tmp 4) _ rfl ?_; clear hBA; refine wpl_store_blk rfl 48 (.tmp 4) _ rfl (w.heap.size + 1) rfl rfl ((Blk.new' _ _ _ (by simp)).alloc _) sizeStP rfl rfl (by simp [Value.oneCell']) ?_; clear G3))
    have BR := ((Blk.new' (w.alloc (.cells #[.int .i64 sv, .int .i64 cc, .int .i64 el, .int .i64 b, .int .i64 r, .int .i64 d] 23)) #[.int .i64 0, .int .i64 0, .int .i64 0, .int .i64 0, .int .i64 0, .int .i64 0, .int .i64 0, .string ⟨#[]⟩, .string ⟨#[]⟩, .string ⟨#[]⟩] 48 (k := w.heap.size + 1) (by simp)).alloc (.cells #[.int .i64 0, .int .i64 0, .int .i64 0, .int .i64 0, .int .i64 0, .int .i64 0, .int .i64 0, .string ⟨#[]⟩, .string ⟨#[]⟩, .string ⟨#[]⟩] 48)).row #[.int .i64 0, .int .i64 0, .int .i64 0, .int .i64 0, .int .i64 0, .int .i64 0, .int .i64 0, .string ⟨#[]⟩, .string ⟨#[]⟩, .string ⟨#[]⟩]
    have cb := BR.cell
    exact bodyPost_ret (v := .tuple #[.agg #[.int .i64 0, .int .i64 0, .int .i64 0, .int .i64 0, .int .i64 0, .int .i64 0, .int .i64 0, .string ⟨#[]⟩, .string ⟨#[]⟩, .string ⟨#[]⟩], .int .i64 5]) (by simp [results, Tryz.results34, go_sem, cb]) rfl ⟨rfl, below_row ((((Below.refl _ _).alloc (Nat.le_refl _) _).alloc (by simp) _).alloc (by simp <;> omega) _) (by omega) _⟩
  have h3' : ¬ (ws.length : Int) < 3 := by omega
  have h2l : (2 : Int) < (ws.length : Int) := by omega
  rw [if_neg h3] at HQ
  have e2 : ws.getD 2 [] = ws[2] := by rw [List.getD_eq_getElem?_getD, List.getElem?_eq_getElem (by omega)]; rfl
  have e1 : ws.getD 1 [] = ws[1] := by rw [List.getD_eq_getElem?_getD, List.getElem?_eq_getElem (by omega)]; rfl
  rw [e1, e2] at HQ
  obtain ⟨q, off, rfl, hc2⟩ := HC.out w (Below.refl _ _) 2 (by omega)
  have HCl : Hid (∀ z, Below w.heap.size w z → ∀ j (h : j < ws.length), z.cell? ⟨q, off + j, none⟩ = some (.string (sOf ws[j]))) := fun z hb j h => by
    obtain ⟨q', off', e, hj⟩ := HC.out z hb j h
    cases e
    exact hj
  have hql : q < w.heap.size := cell_lt hc2
  have HOp : Hid (∀ (k : Nat), 1 ≤ k → k ≤ 4 → ∀ z, Calls Tryz.prog 53 #[.int .i64 (k : Int)] z fun e w' => e = .returned (.string (sOf (opK (k : Int)))) ∧ Below z.heap.size z w') := fun k h1 h4 z => l7opWord_any (k : Int) (by omega) (by omega) z
  clear HC hc2
  go_enter Tryz.func34, Tryz.ntmps34
  go_wp2_with (first
    | (have hBA := G1; refine gate_st 48 (.tmp 6) _ rfl ?_; clear hBA; refine wpl_store_last rfl 48 (.tmp 6) _ rfl (w.heap.size + 1 + 1) rfl (by simp) rfl sizeStP rfl rfl (by simp [Value.oneCell']) ?_; clear G1))
  have BS : Hid (Blk (((w.alloc (.cells #[.int .i64 sv, .int .i64 cc, .int .i64 el, .int .i64 b, .int .i64 r, .int .i64 d] 23)).alloc (.cells #[.int .i64 0, .int .i64 0, .int .i64 0, .int .i64 0, .int .i64 0, .int .i64 0, .int .i64 0, .string ⟨#[]⟩, .string ⟨#[]⟩, .string ⟨#[]⟩] 48)).alloc (.cells #[.int .i64 0, .int .i64 0, .int .i64 0, .int .i64 0, .int .i64 0, .int .i64 0, .int .i64 0, .string ⟨#[]⟩, .string ⟨#[]⟩, .string ⟨#[]⟩] 48)) w.heap.size #[.int .i64 sv, .int .i64 cc, .int .i64 el, .int .i64 b, .int .i64 r, .int .i64 d] 23) := ((Blk.new _ _ _).alloc _).alloc _
  have BR : Hid (Blk (((w.alloc (.cells #[.int .i64 sv, .int .i64 cc, .int .i64 el, .int .i64 b, .int .i64 r, .int .i64 d] 23)).alloc (.cells #[.int .i64 0, .int .i64 0, .int .i64 0, .int .i64 0, .int .i64 0, .int .i64 0, .int .i64 0, .string ⟨#[]⟩, .string ⟨#[]⟩, .string ⟨#[]⟩] 48)).alloc (.cells #[.int .i64 0, .int .i64 0, .int .i64 0, .int .i64 0, .int .i64 0, .int .i64 0, .int .i64 0, .string ⟨#[]⟩, .string ⟨#[]⟩, .string ⟨#[]⟩] 48)) (w.heap.size + 1) #[.int .i64 0, .int .i64 0, .int .i64 0, .int .i64 0, .int .i64 0, .int .i64 0, .int .i64 0, .string ⟨#[]⟩, .string ⟨#[]⟩, .string ⟨#[]⟩] 48) := (Blk.new' _ _ _ (by simp)).alloc _
  have BN : Hid (Blk (((w.alloc (.cells #[.int .i64 sv, .int .i64 cc, .int .i64 el, .int .i64 b, .int .i64 r, .int .i64 d] 23)).alloc (.cells #[.int .i64 0, .int .i64 0, .int .i64 0, .int .i64 0, .int .i64 0, .int .i64 0, .int .i64 0, .string ⟨#[]⟩, .string ⟨#[]⟩, .string ⟨#[]⟩] 48)).alloc (.cells #[.int .i64 0, .int .i64 0, .int .i64 0, .int .i64 0, .int .i64 0, .int .i64 0, .int .i64 0, .string ⟨#[]⟩, .string ⟨#[]⟩, .string ⟨#[]⟩] 48)) (w.heap.size + 1 + 1) #[.int .i64 0, .int .i64 0, .int .i64 0, .int .i64 0, .int .i64 0, .int .i64 0, .int .i64 0, .string ⟨#[]⟩, .string ⟨#[]⟩, .string ⟨#[]⟩] 48) := Blk.new' _ _ _ (by simp)
  have HB3 : Hid (Below w.heap.size w (((w.alloc (.cells #[.int .i64 sv, .int .i64 cc, .int .i64 el, .int .i64 b, .int .i64 r, .int .i64 d] 23)).alloc (.cells #[.int .i64 0, .int .i64 0, .int .i64 0, .int .i64 0, .int .i64 0, .int .i64 0, .int .i64 0, .string ⟨#[]⟩, .string ⟨#[]⟩, .string ⟨#[]⟩] 48)).alloc (.cells #[.int .i64 0, .int .i64 0, .int .i64 0, .int .i64 0, .int .i64 0, .int .i64 0, .int .i64 0, .string ⟨#[]⟩, .string ⟨#[]⟩, .string ⟨#[]⟩] 48))) := (((Below.refl _ _).alloc (Nat.le_refl _) _).alloc (by simp) _).alloc (by simp <;> omega) _
  have hz3 : (((w.alloc (.cells #[.int .i64 sv, .int .i64 cc, .int .i64 el, .int .i64 b, .int .i64 r, .int .i64 d] 23)).alloc (.cells #[.int .i64 0, .int .i64 0, .int .i64 0, .int .i64 0, .int .i64 0, .int .i64 0, .int .i64 0, .string ⟨#[]⟩, .string ⟨#[]⟩, .string ⟨#[]⟩] 48)).alloc (.cells #[.int .i64 0, .int .i64 0, .int .i64 0, .int .i64 0, .int .i64 0, .int .i64 0, .int .i64 0, .string ⟨#[]⟩, .string ⟨#[]⟩, .string ⟨#[]⟩] 48)).heap.size = w.heap.size + 3 := by simp
  generalize (((w.alloc (.cells #[.int .i64 sv, .int .i64 cc, .int .i64 el, .int .i64 b, .int .i64 r, .int .i64 d] 23)).alloc (.cells #[.int .i64 0, .int .i64 0, .int .i64 0, .int .i64 0, .int .i64 0, .int .i64 0, .int .i64 0, .string ⟨#[]⟩, .string ⟨#[]⟩, .string ⟨#[]⟩] 48)).alloc (.cells #[.int .i64 0, .int .i64 0, .int .i64 0, .int .i64 0, .int .i64 0, .int .i64 0, .int .i64 0, .string ⟨#[]⟩, .string ⟨#[]⟩, .string ⟨#[]⟩] 48)) = w3 at *
  go_loopw [7, 8] (fun ov kv wr => ∃ k : Nat, 1 ≤ k ∧ k ≤ 5 ∧ kv = .int .i64 k ∧ ov = .int .i64 (opU ws[2] k) ∧ Below w3.heap.size w3 wr) (fun _ kv _ => 5 - (intOf kv).toNat)
  case atStart => exact ⟨1, by omega, by omega, rfl, by rw [opU_1], Below.refl _ _⟩
  case round =>
    obtain ⟨k, hk1, hk5, rfl, rfl, hB⟩ := hrel
    have HB : Hid (Below w3.heap.size w3 wr) := hB
    have HBw : Hid (Below w.heap.size w wr) := HB3.out.trans (hB.mono (by omega))
    have hzr := hB.size
    clear hB
    by_cases hk4 : k ≤ 4
    · have hkl : (k : Int) ≤ 4 := by omega
      have hc2 := HCl.out wr HBw.out 2 (by omega)
      have HOk : Hid (∀ z, Calls Tryz.prog 53 #[.int .i64 (k : Int)] z fun e w' => e = .returned (.string (sOf (opK (k : Int)))) ∧ Below z.heap.size z w') := HOp.out k hk1 hk4
      have hqr : q < wr.heap.size := by omega
      have HHit : Hid (ws[2] = opK (k : Int) → opU ws[2] (k + 1) = k) := fun h => by rw [h]; exact opU_hit k hk1 hk4
      have HMis : Hid (ws[2] ≠ opK (k : Int) → opU ws[2] (k + 1) = opU ws[2] k) := opU_miss ws[2] k hk1 hk4
      by_cases he : ws[2] = opK (k : Int)
      · have hE : Hid (opU ws[2] (k + 1) = k) := HHit.out he
        have hsame : sOf ws[2] = sOf (opK (k : Int)) := by rw [he]
        rw [hsame] at hc2
        clear HHit HMis he hsame
        generalize sOf (opK (k : Int)) = A at *
        generalize opU ws[2] k = OU at *
        go_wp2
        go_region_held3 (fun w' => w'.cell? ⟨q, off + 2, none⟩ = some (.string A)) (simp [*, go_sem])
          (first
            | (go_at_call 53; refine Calls.mono (HOk.out _) ?_; rintro e w5 ⟨rfl, hb5⟩; have z1 := hb5.cell (p := ⟨q, off + 2, none⟩) hqr))
        have HB5 : Hid (Below w3.heap.size w3 w5) := HB.out.trans ((((Below.refl _ _).drew).trans (hb5.mono (Nat.le_refl _))).mono hzr)
        go_wp2
        go_roundw
        case rel => exact ⟨k + 1, by omega, by omega, by go_num, by rw [hE.out], HB5.out⟩
        case measure => simp [intOf]; omega
      · have hE : Hid (opU ws[2] (k + 1) = opU ws[2] k) := HMis.out he
        have hneq : ((sOf ws[2]).toList == (sOf (opK (k : Int))).toList) = false := by
          rw [beq_eq_false_iff_ne]
          exact fun e => he (sOf_inj e)
        clear HHit HMis he
        generalize sOf (opK (k : Int)) = A at *
        generalize hS2 : sOf ws[2] = S2 at hc2 hneq
        clear hS2
        generalize hOU : opU ws[2] k = OU at *
        go_wp2
        go_region_held3 (fun w' => w'.cell? ⟨q, off + 2, none⟩ = some (.string S2)) (simp [*, go_sem])
          (first
            | (go_at_call 53; refine Calls.mono (HOk.out _) ?_; rintro e w5 ⟨rfl, hb5⟩; have z1 := hb5.cell (p := ⟨q, off + 2, none⟩) hqr))
        have HB5 : Hid (Below w3.heap.size w3 w5) := HB.out.trans ((((Below.refl _ _).drew).trans (hb5.mono (Nat.le_refl _))).mono hzr)
        go_wp2
        go_roundw
        case rel => exact ⟨k + 1, by omega, by omega, by go_num, by rw [hE.out], HB5.out⟩
        case measure => simp [intOf]; omega
    · obtain rfl : k = 5 := by omega
      rw [opU_5]
      clear HOp
      have BS1 : Hid (Blk wr w.heap.size #[.int .i64 sv, .int .i64 cc, .int .i64 el, .int .i64 b, .int .i64 r, .int .i64 d] 23) := BS.out.below HB.out BS.out.lt
      have BR1 : Hid (Blk wr (w.heap.size + 1) #[.int .i64 0, .int .i64 0, .int .i64 0, .int .i64 0, .int .i64 0, .int .i64 0, .int .i64 0, .string ⟨#[]⟩, .string ⟨#[]⟩, .string ⟨#[]⟩] 48) := BR.out.below HB.out BR.out.lt
      have BN1 : Hid (Blk wr (w.heap.size + 1 + 1) #[.int .i64 0, .int .i64 0, .int .i64 0, .int .i64 0, .int .i64 0, .int .i64 0, .int .i64 0, .string ⟨#[]⟩, .string ⟨#[]⟩, .string ⟨#[]⟩] 48) := BN.out.below HB.out BN.out.lt
      clear BS BR BN HB HB3
      have hop := opW_le ws[2]
      have HCr : Hid (∀ j (h : j < ws.length), wr.cell? ⟨q, off + j, none⟩ = some (.string (sOf ws[j]))) := HCl.out wr HBw.out
      have HWs : Hid (∀ z, Calls Tryz.prog 54 #[.int .i64 (opW ws[2])] z fun e w' => e = .returned (.int .i64 (nTx (opW ws[2]) : Int)) ∧ w' = z) := fun z => l7opWords_any _ z
      have HNu : Hid (∀ z, Calls Tryz.prog 37 #[.string (sOf ws[1])] z fun e w' => e = .returned (.tuple #[.int .i64 (if numOk ws[1] = true then numV ws[1] else 0), .bool (numOk ws[1])]) ∧ w' = z) := fun z => l7number_any ws[1] (HW.out _ (List.getElem_mem (by omega))).1 z
      have hnT : nTx (opW ws[2]) ≤ 3 := by unfold nTx; (repeat' split) <;> omega
      clear HCl
      generalize hOP : opW ws[2] = OP at *
      by_cases hO0 : OP = 0
      · have HQ2 : (ac, ax) = (5, zS) := by rw [HQ.out, if_pos (.inl hO0)]
        obtain ⟨rfl, rfl⟩ := Prod.mk.inj HQ2
        subst hO0
        clear HQ HQ2 hOP
        go_wp2_with (first
          | (have hBA := G2; refine gate_ld 48 (.tmp 6) rfl ?_; clear hBA; refine wpl_load_blk rfl 48 (.tmp 6) rfl (w.heap.size + 1 + 1) rfl BN1.out Tryz.underlying48 rfl sizeStP rfl ?_; clear G2)
          | (have hBA := G3; refine gate_st 48 (.tmp 4) _ rfl ?_; clear hBA; refine wpl_store_blk rfl 48 (.tmp 4) _ rfl (w.heap.size + 1) rfl rfl BR1.out sizeStP rfl rfl (by simp [Value.oneCell']) ?_; clear G3))
        have cb := (BR1.out.row #[.int .i64 0, .int .i64 0, .int .i64 0, .int .i64 0, .int .i64 0, .int .i64 0, .int .i64 0, .string ⟨#[]⟩, .string ⟨#[]⟩, .string ⟨#[]⟩]).cell
        exact bodyPost_ret (v := .tuple #[.agg #[.int .i64 0, .int .i64 0, .int .i64 0, .int .i64 0, .int .i64 0, .int .i64 0, .int .i64 0, .string ⟨#[]⟩, .string ⟨#[]⟩, .string ⟨#[]⟩], .int .i64 5]) (by simp [results, Tryz.results34, go_sem, cb]) rfl ⟨rfl, below_row HBw.out (by omega) _⟩
      have hO0' : (OP == 0) = false := by simpa using hO0
      by_cases hcn : ws.length = 3 + nTx OP
      case neg =>
        have HQ2 : (ac, ax) = (5, zS) := by rw [HQ.out, if_pos (.inr hcn)]
        obtain ⟨rfl, rfl⟩ := Prod.mk.inj HQ2
        have hcn' : ¬ (ws.length : Int) = 3 + (nTx OP : Int) := by omega
        clear HQ HQ2 hOP
        go_wp2_with (first
          | (go_at_call 54; refine (HWs.out _).mono ?_; rintro e w' ⟨rfl, hww⟩; have hww2 := hww.symm; subst hww2)
          | (have hBA := G2; refine gate_ld 48 (.tmp 6) rfl ?_; clear hBA; refine wpl_load_blk rfl 48 (.tmp 6) rfl (w.heap.size + 1 + 1) rfl BN1.out Tryz.underlying48 rfl sizeStP rfl ?_; clear G2)
          | (have hBA := G3; refine gate_st 48 (.tmp 4) _ rfl ?_; clear hBA; refine wpl_store_blk rfl 48 (.tmp 4) _ rfl (w.heap.size + 1) rfl rfl BR1.out sizeStP rfl rfl (by simp [Value.oneCell']) ?_; clear G3))
        have cb := (BR1.out.row #[.int .i64 0, .int .i64 0, .int .i64 0, .int .i64 0, .int .i64 0, .int .i64 0, .int .i64 0, .string ⟨#[]⟩, .string ⟨#[]⟩, .string ⟨#[]⟩]).cell
        exact bodyPost_ret (v := .tuple #[.agg #[.int .i64 0, .int .i64 0, .int .i64 0, .int .i64 0, .int .i64 0, .int .i64 0, .int .i64 0, .string ⟨#[]⟩, .string ⟨#[]⟩, .string ⟨#[]⟩], .int .i64 5]) (by simp [results, Tryz.results34, go_sem, cb]) rfl ⟨rfl, below_row HBw.out (by omega) _⟩
      rw [if_neg (fun h => h.elim hO0 (fun h => h hcn))] at HQ
      have hcn' : (ws.length : Int) = 3 + (nTx OP : Int) := by omega
      have h1l : (1 : Int) < (ws.length : Int) := by omega
      have c1 := HCr.out 1 (by omega)
      cases hn1 : numOk ws[1]
      · have HQ2 : (ac, ax) = (6, zS) := by rw [HQ.out, if_pos hn1]
        obtain ⟨rfl, rfl⟩ := Prod.mk.inj HQ2
        rw [hn1] at HNu
        simp only [if_neg (show ¬ (false = true) by decide)] at HNu
        clear HQ HQ2 hOP
        generalize sOf ws[1] = S1 at *
        go_wp2_with (first
          | (go_at_call 54; refine (HWs.out _).mono ?_; rintro e w' ⟨rfl, hww⟩; have hww2 := hww.symm; subst hww2)
          | (go_at_call 37; refine (HNu.out _).mono ?_; rintro e w' ⟨rfl, hww⟩; have hww2 := hww.symm; subst hww2)
          | (have hBA := G2; refine gate_ld 48 (.tmp 6) rfl ?_; clear hBA; refine wpl_load_blk rfl 48 (.tmp 6) rfl (w.heap.size + 1 + 1) rfl BN1.out Tryz.underlying48 rfl sizeStP rfl ?_; clear G2)
          | (have hBA := G3; refine gate_st 48 (.tmp 4) _ rfl ?_; clear hBA; refine wpl_store_blk rfl 48 (.tmp 4) _ rfl (w.heap.size + 1) rfl rfl BR1.out sizeStP rfl rfl (by simp [Value.oneCell']) ?_; clear G3))
        have cb := (BR1.out.row #[.int .i64 0, .int .i64 0, .int .i64 0, .int .i64 0, .int .i64 0, .int .i64 0, .int .i64 0, .string ⟨#[]⟩, .string ⟨#[]⟩, .string ⟨#[]⟩]).cell
        exact bodyPost_ret (v := .tuple #[.agg #[.int .i64 0, .int .i64 0, .int .i64 0, .int .i64 0, .int .i64 0, .int .i64 0, .int .i64 0, .string ⟨#[]⟩, .string ⟨#[]⟩, .string ⟨#[]⟩], .int .i64 6]) (by simp [results, Tryz.results34, go_sem, cb]) rfl ⟨rfl, below_row HBw.out (by omega) _⟩
      rw [if_neg (by rw [hn1]; decide)] at HQ
      rw [hn1] at HNu
      simp only [if_pos] at HNu
      have hOP1 : 1 ≤ OP := by omega
      have hasks := ask_ok sv cc ws OP hOP1 hop.2 hcn (fun x hx => (HW.out x hx).2)
      rw [hasks, e1] at HQ
      have cS1 : wr.cell? ⟨w.heap.size, 1, none⟩ = some (.int .i64 cc) := BS1.out.cell 1
      have HLi : Hid (∀ z, Calls Tryz.prog 39 #[.int .i64 (numV ws[1]), .int .i64 1, .int .i64 cc] z fun e w' => e = .returned (.bool (inB (numV ws[1]) 1 cc)) ∧ w' = z) := fun z => l1in_any _ _ _ z
      clear hasks hn1
      cases hin : inB (numV ws[1]) 1 cc
      · rw [hin] at HQ HLi
        have HQ2 : (ac, ax) = (7, zS) := by rw [HQ.out]; rfl
        obtain ⟨rfl, rfl⟩ := Prod.mk.inj HQ2
        clear HQ HQ2 hOP hin
        generalize sOf ws[1] = S1 at *
        generalize numV ws[1] = n1 at *
        go_wp2_with (first
          | (go_at_call 54; refine (HWs.out _).mono ?_; rintro e w' ⟨rfl, hww⟩; have hww2 := hww.symm; subst hww2)
          | (go_at_call 37; refine (HNu.out _).mono ?_; rintro e w' ⟨rfl, hww⟩; have hww2 := hww.symm; subst hww2)
          | (go_at_call 39; refine (HLi.out _).mono ?_; rintro e w' ⟨rfl, hww⟩; have hww2 := hww.symm; subst hww2)
          | (have hBA := G2; refine gate_ld 48 (.tmp 6) rfl ?_; clear hBA; refine wpl_load_blk rfl 48 (.tmp 6) rfl (w.heap.size + 1 + 1) rfl BN1.out Tryz.underlying48 rfl sizeStP rfl ?_; clear G2)
          | (have hBA := G3; refine gate_st 48 (.tmp 4) _ rfl ?_; clear hBA; refine wpl_store_blk rfl 48 (.tmp 4) _ rfl (w.heap.size + 1) rfl rfl BR1.out sizeStP rfl rfl (by simp [Value.oneCell']) ?_; clear G3))
        have cb := (BR1.out.row #[.int .i64 0, .int .i64 0, .int .i64 0, .int .i64 0, .int .i64 0, .int .i64 0, .int .i64 0, .string ⟨#[]⟩, .string ⟨#[]⟩, .string ⟨#[]⟩]).cell
        exact bodyPost_ret (v := .tuple #[.agg #[.int .i64 0, .int .i64 0, .int .i64 0, .int .i64 0, .int .i64 0, .int .i64 0, .int .i64 0, .string ⟨#[]⟩, .string ⟨#[]⟩, .string ⟨#[]⟩], .int .i64 7]) (by simp [results, Tryz.results34, go_sem, cb]) rfl ⟨rfl, below_row HBw.out (by omega) _⟩
      rw [hin] at HQ HLi
      clear hin
      have HQ3 : Hid ((ac, ax) = if ((ws.drop 3).all fun x => decide (x.length ≤ 64)) = true then (0, askS ws OP) else (7, zS)) := by unfold Hid; rw [HQ.out]; simp
      have HSx : Hid (askS ws OP = ⟨11, numV ws[1], 0, 0, 0, 0, OP, byA (ws.getD 3 []), byA (if OP = 2 then ws.getD 4 [] else if OP = 4 then ws.getD 5 [] else []), byA (if OP = 4 then ws.getD 4 [] else [])⟩) := by unfold Hid askS; rw [e1]
      clear HQ hOP
      generalize sOf ws[1] = S1 at *
      generalize numV ws[1] = n1 at *
      go_wp2_with (first
          | (go_at_call 54; refine (HWs.out _).mono ?_; rintro e w' ⟨rfl, hww⟩; have hww2 := hww.symm; subst hww2)
          | (go_at_call 37; refine (HNu.out _).mono ?_; rintro e w' ⟨rfl, hww⟩; have hww2 := hww.symm; subst hww2)
          | (go_at_call 39; refine (HLi.out _).mono ?_; rintro e w' ⟨rfl, hww⟩; have hww2 := hww.symm; subst hww2))
      go_loopw [11] (fun iv wz => ∃ i : Nat, 3 ≤ i ∧ i ≤ ws.length ∧ iv = .int .i64 i ∧ ((ws.take i).drop 3).all (fun x => decide (x.length ≤ 64)) = true ∧ wz = wr) (fun iv _ => ws.length - (intOf iv).toNat)
      case atStart => exact ⟨3, by omega, by omega, rfl, by rw [List.drop_of_length_le (by rw [List.length_take]; omega)]; rfl, rfl⟩
      case round =>
        obtain ⟨i, hi3, hil, rfl, hA, rfl⟩ := hrel
        have HA : Hid (((ws.take i).drop 3).all (fun x => decide (x.length ≤ 64)) = true) := hA
        clear hA
        by_cases hlt : i < ws.length
        · have ci := HCr.out i hlt
          have hisz : (sOf ws[i]).size = ws[i].length := sOf_size _
          have hiw : ws[i].length ≤ 65536 := (HW.out _ (List.getElem_mem hlt)).1
          have hilt : (i : Int) < (ws.length : Int) := by omega
          have hE : Hid ((ws.take (i + 1)).drop 3 = (ws.take i).drop 3 ++ [ws[i]]) := by
            unfold Hid
            rw [List.take_succ_eq_append_getElem hlt, List.drop_append_of_le_length (by rw [List.length_take]; omega)]
          by_cases h64 : ws[i].length ≤ 64
          · have HA2 : Hid (((ws.take (i + 1)).drop 3).all (fun x => decide (x.length ≤ 64)) = true) := by
              unfold Hid
              rw [hE.out, List.all_append, HA.out]
              simp [h64]
            have h64' : ¬ (64 : Int) < (ws[i].length : Int) := by omega
            generalize sOf ws[i] = Si at *
            generalize ws[i].length = li at *
            go_wp2
            go_roundw
            case rel => exact ⟨i + 1, by omega, by omega, by go_num, HA2.out, by trivial⟩
            case measure => simp [intOf]; omega
          · have hno : ((ws.drop 3).all fun x => decide (x.length ≤ 64)) = false := by
              rw [List.all_eq_false]
              refine ⟨ws[i], ?_, by simpa using h64⟩
              rw [List.mem_drop_iff_getElem]
              exact ⟨i - 3, by omega, by congr 1; omega⟩
            have HQ2 : (ac, ax) = (7, zS) := by rw [HQ3.out, hno]; rfl
            obtain ⟨rfl, rfl⟩ := Prod.mk.inj HQ2
            have h64' : (64 : Int) < (ws[i].length : Int) := by omega
            clear HQ3 HQ2 hno hE
            generalize sOf ws[i] = Si at *
            generalize ws[i].length = li at *
            go_wp2_with (first
          | (have hBA := G2; refine gate_ld 48 (.tmp 6) rfl ?_; clear hBA; refine wpl_load_blk rfl 48 (.tmp 6) rfl (w.heap.size + 1 + 1) rfl BN1.out Tryz.underlying48 rfl sizeStP rfl ?_; clear G2)
          | (have hBA := G3; refine gate_st 48 (.tmp 4) _ rfl ?_; clear hBA; refine wpl_store_blk rfl 48 (.tmp 4) _ rfl (w.heap.size + 1) rfl rfl BR1.out sizeStP rfl rfl (by simp [Value.oneCell']) ?_; clear G3))
            have cb := (BR1.out.row #[.int .i64 0, .int .i64 0, .int .i64 0, .int .i64 0, .int .i64 0, .int .i64 0, .int .i64 0, .string ⟨#[]⟩, .string ⟨#[]⟩, .string ⟨#[]⟩]).cell
            exact bodyPost_ret (v := .tuple #[.agg #[.int .i64 0, .int .i64 0, .int .i64 0, .int .i64 0, .int .i64 0, .int .i64 0, .int .i64 0, .string ⟨#[]⟩, .string ⟨#[]⟩, .string ⟨#[]⟩], .int .i64 7]) (by simp [results, Tryz.results34, go_sem, cb]) rfl ⟨rfl, below_row HBw.out (by omega) _⟩
        · obtain rfl : i = ws.length := by omega
          rw [List.take_length] at HA
          have HQ4 : (ac, ax) = (0, askS ws OP) := by rw [HQ3.out, HA.out]; rfl
          obtain ⟨rfl, rfl⟩ := Prod.mk.inj HQ4
          clear HQ4 HQ3 HA
          have h3l : (3 : Int) < (ws.length : Int) := by have : 1 ≤ nTx OP := (by unfold nTx; (repeat' split) <;> omega); omega
          have c3 := HCr.out 3 (by omega)
          have g3 : ws.getD 3 [] = ws[3]'(by omega) := by rw [List.getD_eq_getElem?_getD, List.getElem?_eq_getElem (by omega)]; rfl
          rw [g3] at HSx
          rcases (show OP = 1 ∨ OP = 3 ∨ OP = 2 ∨ OP = 4 by omega) with rfl | rfl | rfl | rfl
          · have hlen : ws.length = 4 := hcn
            obtain ⟨S3, hS3⟩ : ∃ S, S = sOf (ws[3]'(by omega)) := ⟨_, rfl⟩
            rw [← hS3] at c3
            have d3 : ∀ ob : Obj, (wr.alloc ob).cell? ⟨q, off + 3, none⟩ = some (.string S3) := fun ob => (((Below.refl _ _).alloc (Nat.le_refl _) ob).cell (p := ⟨q, off + 3, none⟩) (show q < wr.heap.size by omega)).trans c3
            have HXe : Hid (askS ws 1 = ⟨11, n1, 0, 0, 0, 0, 1, S3, ⟨#[]⟩, ⟨#[]⟩⟩) := by unfold Hid; rw [HSx.out, hS3]; rfl
            clear HSx hS3
            have G4 : Hid True := trivial
            go_wp2_with (first
              | (have hBA := G4; refine gate_st 46 (.tmp 12) _ rfl ?_; clear hBA; refine wpl_store_last rfl 46 (.tmp 12) _ rfl (wr.heap.size) rfl rfl rfl sizeCmP rfl rfl (by simp [Value.oneCell']) ?_; clear G4)
              | (have hBA := G3; refine gate_st 48 (.tmp 4) _ rfl ?_; clear hBA; refine wpl_store_blk rfl 48 (.tmp 4) _ rfl (w.heap.size + 1) rfl rfl (BR1.out.alloc _) sizeStP rfl rfl (by simp [Value.oneCell']) ?_; clear G3))
            have cb := ((BR1.out.alloc (.cells #[.int .i64 0, .int .i64 0, .int .i64 1, .string S3, .string ⟨#[]⟩, .string ⟨#[]⟩] 46)).row #[.int .i64 11, .int .i64 n1, .int .i64 0, .int .i64 0, .int .i64 0, .int .i64 0, .int .i64 1, .string S3, .string ⟨#[]⟩, .string ⟨#[]⟩]).cell
            exact bodyPost_ret (v := .tuple #[.agg #[.int .i64 11, .int .i64 n1, .int .i64 0, .int .i64 0, .int .i64 0, .int .i64 0, .int .i64 1, .string S3, .string ⟨#[]⟩, .string ⟨#[]⟩], .int .i64 0]) (by simp [results, Tryz.results34, go_sem, cb]) rfl ⟨by rw [HXe.out], below_row (HBw.out.alloc (by omega) _) (by omega) _⟩
          · have hlen : ws.length = 4 := hcn
            obtain ⟨S3, hS3⟩ : ∃ S, S = sOf (ws[3]'(by omega)) := ⟨_, rfl⟩
            rw [← hS3] at c3
            have d3 : ∀ ob : Obj, (wr.alloc ob).cell? ⟨q, off + 3, none⟩ = some (.string S3) := fun ob => (((Below.refl _ _).alloc (Nat.le_refl _) ob).cell (p := ⟨q, off + 3, none⟩) (show q < wr.heap.size by omega)).trans c3
            have HXe : Hid (askS ws 3 = ⟨11, n1, 0, 0, 0, 0, 3, S3, ⟨#[]⟩, ⟨#[]⟩⟩) := by unfold Hid; rw [HSx.out, hS3]; rfl
            clear HSx hS3
            have G4 : Hid True := trivial
            go_wp2_with (first
              | (have hBA := G4; refine gate_st 46 (.tmp 12) _ rfl ?_; clear hBA; refine wpl_store_last rfl 46 (.tmp 12) _ rfl (wr.heap.size) rfl rfl rfl sizeCmP rfl rfl (by simp [Value.oneCell']) ?_; clear G4)
              | (have hBA := G3; refine gate_st 48 (.tmp 4) _ rfl ?_; clear hBA; refine wpl_store_blk rfl 48 (.tmp 4) _ rfl (w.heap.size + 1) rfl rfl (BR1.out.alloc _) sizeStP rfl rfl (by simp [Value.oneCell']) ?_; clear G3))
            have cb := ((BR1.out.alloc (.cells #[.int .i64 0, .int .i64 0, .int .i64 3, .string S3, .string ⟨#[]⟩, .string ⟨#[]⟩] 46)).row #[.int .i64 11, .int .i64 n1, .int .i64 0, .int .i64 0, .int .i64 0, .int .i64 0, .int .i64 3, .string S3, .string ⟨#[]⟩, .string ⟨#[]⟩]).cell
            exact bodyPost_ret (v := .tuple #[.agg #[.int .i64 11, .int .i64 n1, .int .i64 0, .int .i64 0, .int .i64 0, .int .i64 0, .int .i64 3, .string S3, .string ⟨#[]⟩, .string ⟨#[]⟩], .int .i64 0]) (by simp [results, Tryz.results34, go_sem, cb]) rfl ⟨by rw [HXe.out], below_row (HBw.out.alloc (by omega) _) (by omega) _⟩
          · have hlen : ws.length = 5 := hcn
            have h4l : (4 : Int) < (ws.length : Int) := by omega
            have c4 := HCr.out 4 (by omega)
            have g4 : ws.getD 4 [] = ws[4]'(by omega) := by rw [List.getD_eq_getElem?_getD, List.getElem?_eq_getElem (by omega)]; rfl
            rw [g4] at HSx
            obtain ⟨S3, hS3⟩ : ∃ S, S = sOf (ws[3]'(by omega)) := ⟨_, rfl⟩
            rw [← hS3] at c3
            obtain ⟨S4, hS4⟩ : ∃ S, S = sOf (ws[4]'(by omega)) := ⟨_, rfl⟩
            rw [← hS4] at c4
            have d3 : ∀ ob : Obj, (wr.alloc ob).cell? ⟨q, off + 3, none⟩ = some (.string S3) := fun ob => (((Below.refl _ _).alloc (Nat.le_refl _) ob).cell (p := ⟨q, off + 3, none⟩) (show q < wr.heap.size by omega)).trans c3
            have d4 : ∀ ob : Obj, (wr.alloc ob).cell? ⟨q, off + 4, none⟩ = some (.string S4) := fun ob => (((Below.refl _ _).alloc (Nat.le_refl _) ob).cell (p := ⟨q, off + 4, none⟩) (show q < wr.heap.size by omega)).trans c4
            have HXe : Hid (askS ws 2 = ⟨11, n1, 0, 0, 0, 0, 2, S3, S4, ⟨#[]⟩⟩) := by unfold Hid; rw [HSx.out, hS3, hS4]; rfl
            clear HSx hS3 hS4
            have G4 : Hid True := trivial
            go_wp2_with (first
              | (have hBA := G4; refine gate_st 46 (.tmp 12) _ rfl ?_; clear hBA; refine wpl_store_last rfl 46 (.tmp 12) _ rfl (wr.heap.size) rfl rfl rfl sizeCmP rfl rfl (by simp [Value.oneCell']) ?_; clear G4)
              | (have hBA := G3; refine gate_st 48 (.tmp 4) _ rfl ?_; clear hBA; refine wpl_store_blk rfl 48 (.tmp 4) _ rfl (w.heap.size + 1) rfl rfl (BR1.out.alloc _) sizeStP rfl rfl (by simp [Value.oneCell']) ?_; clear G3))
            have cb := ((BR1.out.alloc (.cells #[.int .i64 0, .int .i64 0, .int .i64 2, .string S3, .string S4, .string ⟨#[]⟩] 46)).row #[.int .i64 11, .int .i64 n1, .int .i64 0, .int .i64 0, .int .i64 0, .int .i64 0, .int .i64 2, .string S3, .string S4, .string ⟨#[]⟩]).cell
            exact bodyPost_ret (v := .tuple #[.agg #[.int .i64 11, .int .i64 n1, .int .i64 0, .int .i64 0, .int .i64 0, .int .i64 0, .int .i64 2, .string S3, .string S4, .string ⟨#[]⟩], .int .i64 0]) (by simp [results, Tryz.results34, go_sem, cb]) rfl ⟨by rw [HXe.out], below_row (HBw.out.alloc (by omega) _) (by omega) _⟩
          · have hlen : ws.length = 6 := hcn
            have h4l : (4 : Int) < (ws.length : Int) := by omega
            have c4 := HCr.out 4 (by omega)
            have g4 : ws.getD 4 [] = ws[4]'(by omega) := by rw [List.getD_eq_getElem?_getD, List.getElem?_eq_getElem (by omega)]; rfl
            rw [g4] at HSx
            have h5l : (5 : Int) < (ws.length : Int) := by omega
            have c5 := HCr.out 5 (by omega)
            have g5 : ws.getD 5 [] = ws[5]'(by omega) := by rw [List.getD_eq_getElem?_getD, List.getElem?_eq_getElem (by omega)]; rfl
            rw [g5] at HSx
            obtain ⟨S3, hS3⟩ : ∃ S, S = sOf (ws[3]'(by omega)) := ⟨_, rfl⟩
            rw [← hS3] at c3
            obtain ⟨S4, hS4⟩ : ∃ S, S = sOf (ws[4]'(by omega)) := ⟨_, rfl⟩
            rw [← hS4] at c4
            obtain ⟨S5, hS5⟩ : ∃ S, S = sOf (ws[5]'(by omega)) := ⟨_, rfl⟩
            rw [← hS5] at c5
            have d3 : ∀ ob : Obj, (wr.alloc ob).cell? ⟨q, off + 3, none⟩ = some (.string S3) := fun ob => (((Below.refl _ _).alloc (Nat.le_refl _) ob).cell (p := ⟨q, off + 3, none⟩) (show q < wr.heap.size by omega)).trans c3
            have d4 : ∀ ob : Obj, (wr.alloc ob).cell? ⟨q, off + 4, none⟩ = some (.string S4) := fun ob => (((Below.refl _ _).alloc (Nat.le_refl _) ob).cell (p := ⟨q, off + 4, none⟩) (show q < wr.heap.size by omega)).trans c4
            have d5 : ∀ ob : Obj, (wr.alloc ob).cell? ⟨q, off + 5, none⟩ = some (.string S5) := fun ob => (((Below.refl _ _).alloc (Nat.le_refl _) ob).cell (p := ⟨q, off + 5, none⟩) (show q < wr.heap.size by omega)).trans c5
            have HXe : Hid (askS ws 4 = ⟨11, n1, 0, 0, 0, 0, 4, S3, S5, S4⟩) := by unfold Hid; rw [HSx.out, hS3, hS4, hS5]; rfl
            clear HSx hS3 hS4 hS5
            have G4 : Hid True := trivial
            go_wp2_with (first
              | (have hBA := G4; refine gate_st 46 (.tmp 12) _ rfl ?_; clear hBA; refine wpl_store_last rfl 46 (.tmp 12) _ rfl (wr.heap.size) rfl rfl rfl sizeCmP rfl rfl (by simp [Value.oneCell']) ?_; clear G4)
              | (have hBA := G3; refine gate_st 48 (.tmp 4) _ rfl ?_; clear hBA; refine wpl_store_blk rfl 48 (.tmp 4) _ rfl (w.heap.size + 1) rfl rfl (BR1.out.alloc _) sizeStP rfl rfl (by simp [Value.oneCell']) ?_; clear G3))
            have cb := ((BR1.out.alloc (.cells #[.int .i64 0, .int .i64 0, .int .i64 4, .string S3, .string S5, .string S4] 46)).row #[.int .i64 11, .int .i64 n1, .int .i64 0, .int .i64 0, .int .i64 0, .int .i64 0, .int .i64 4, .string S3, .string S5, .string S4]).cell
            exact bodyPost_ret (v := .tuple #[.agg #[.int .i64 11, .int .i64 n1, .int .i64 0, .int .i64 0, .int .i64 0, .int .i64 0, .int .i64 4, .string S3, .string S5, .string S4], .int .i64 0]) (by simp [results, Tryz.results34, go_sem, cb]) rfl ⟨by rw [HXe.out], below_row (HBw.out.alloc (by omega) _) (by omega) _⟩
end Go.Proofs.YtanpindbhdeomaaGreatDoor
