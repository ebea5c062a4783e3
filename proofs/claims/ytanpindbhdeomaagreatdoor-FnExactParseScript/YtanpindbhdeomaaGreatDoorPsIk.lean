/-
  impl.readAsk.
-/
import Derived.Test.YtanpindbhdeomaaGreatDoorPsSt
import Derived.Test.YtanpindbhdeomaaGreatDoorPsIc
import Derived.Test.YtanpindbhdeomaaGreatDoorSkNo
import Derived.Test.YtanpindbhdeomaaGreatDoorGrow
import Derived.Deep.AppendLies
namespace Go.Proofs.YtanpindbhdeomaaGreatDoor
open Go.RowKit
set_option linter.unusedVariables false
set_option linter.unusedSimpArgs false

def stA (op : Int) (k v o : ByteArray) : Array Value := #[.int .i64 11, .int .i64 0, .int .i64 0, .int .i64 0, .int .i64 0, .int .i64 0, .int .i64 op, .string k, .string v, .string o]
def fillA (C : Array Value) (L : List (Nat × List UInt8)) : Array Value := L.foldl (fun C x => C.setIfInBounds x.1 (.string (sOf x.2))) C
theorem fillA_size (L : List (Nat × List UInt8)) : ∀ C : Array Value, (fillA C L).size = C.size := by
  induction L with
  | nil => intro C; rfl
  | cons x L ih => intro C; exact (ih _).trans (by simp)
theorem fillA_next (C : Array Value) (L : List (Nat × List UInt8)) (k : Nat) (h : k < L.length) : fillA C (L.take (k + 1)) = (fillA C (L.take k)).setIfInBounds L[k].1 (.string (sOf L[k].2)) := by
  unfold fillA; rw [List.take_succ_eq_append_getElem h, List.foldl_append]; rfl
def askG (ws : List (List UInt8)) : Prop := 2 ≤ ws.length ∧ opW (ws.getD 1 []) ≠ 0 ∧ ws.length = 2 + nTx (opW (ws.getD 1 []))
def askV (ws : List (List UInt8)) (op : Int) : ByteArray := byA (if op = 2 then ws.getD 3 [] else if op = 4 then ws.getD 4 [] else [])
def askO (ws : List (List UInt8)) (op : Int) : ByteArray := byA (if op = 4 then ws.getD 3 [] else [])
theorem askP_len {op : Int} (h1 : 1 ≤ op) (h4 : op ≤ 4) : (askP op).length = nTx op := by
  rcases (show op = 1 ∨ op = 2 ∨ op = 3 ∨ op = 4 by omega) with rfl | rfl | rfl | rfl <;> rfl
theorem askP_mem {op : Int} {j : Nat} (h : j ∈ askP op) : j < 10 := by
  unfold askP at h
  split at h
  · simp at h; omega
  · split at h
    · simp at h; omega
    · split at h
      · simp at h; omega
      · simp at h
theorem fill_end {ws : List (List UInt8)} {op : Int} (h1 : 1 ≤ op) (h4 : op ≤ 4) (hl : ws.length = 2 + nTx op) : fillA (stA op ⟨#[]⟩ ⟨#[]⟩ ⟨#[]⟩) ((askP op).zip (ws.drop 2)) = stA op (byA (ws.getD 2 [])) (askV ws op) (askO ws op) := by
  rcases (show op = 1 ∨ op = 2 ∨ op = 3 ∨ op = 4 by omega) with rfl | rfl | rfl | rfl
  · match ws, hl with
    | [a, b, c], _ => rfl
  · match ws, hl with
    | [a, b, c, d], _ => rfl
  · match ws, hl with
    | [a, b, c], _ => rfl
  · match ws, hl with
    | [a, b, c, d, e], _ => rfl
theorem grown_below {w w' : World} (row : Option Nat) (h : Below w.heap.size w w') : w.grownBy w' row := ⟨h.os, h.tape, h.output, h.size, fun k hk _ => h.block k hk⟩
theorem row_pts {q : Nat} {T : TypeId} {S : TypeId} (L : GLaw (ptC q) 1 T S) {z : World} {B : Nat} {v : Value} {l : List Nat} (h : OwnG (ptC q) 1 T z B v l) (hl : l.length ≤ 70000) :
    ∃ a c, v = .slice a l.length c ∧ ∀ j (h : j < l.length), ∃ g, a = some ⟨g, 0, none⟩ ∧ B ≤ g ∧ g < z.heap.size ∧ z.cell? ⟨g, j, none⟩ = some (.pointer (some ⟨q, l[j], none⟩)) := by
  obtain ⟨a, c, e⟩ := h.shape
  refine ⟨a, c, e, fun j hj => ?_⟩
  obtain ⟨g, cg, rfl⟩ := h.shape' (by omega)
  cases e
  obtain ⟨hq1, hq2⟩ := h.lts g rfl
  have hsl := h.sl L (by unfold maxLen; omega)
  refine ⟨g, rfl, hq1, hq2, ?_⟩
  obtain ⟨-, a, c, e, hc⟩ := hsl
  simp only [Value.slice.injEq] at e
  obtain ⟨rfl, -, rfl⟩ := e
  obtain ⟨b, o, e, hj'⟩ := hc 0 (by omega)
  cases e
  have h2 := hj' j hj 0 _ rfl
  simpa using h2
set_option maxHeartbeats 1000000 in
set_option maxRecDepth 100000 in
theorem readAsk_any (q p off n c : Nat) (ws : List (List UInt8)) (hn : n = ws.length) (w : World) (hb : Blk w q (stA 0 ⟨#[]⟩ ⟨#[]⟩ ⟨#[]⟩) 48) (hp : ∀ j (h : j < ws.length), w.cell? ⟨p, off + j, none⟩ = some (.string (sOf ws[j]))) (hpq : p ≠ q) (hnc : n ≤ c) (hl : n ≤ 70000) (hww : ∀ x ∈ ws, x.length ≤ 65536 ∧ x ≠ []) (he : Tabs2 w) :
    Calls Tryz.prog 48 #[.pointer (some ⟨q, 4, none⟩), .slice (some ⟨p, off, none⟩) n c] w fun e w' => ∃ (v' : Value) (op : Int) (k1 k2 k3 : ByteArray), e = .returned v' ∧ Blk w' q (stA op k1 k2 k3) 48 ∧
      ((askG ws ∧ op = opW (ws.getD 1 []) ∧ k1 = byA (ws.getD 2 []) ∧ k2 = askV ws op ∧ k3 = askO ws op ∧ v' = .slice (some ⟨p, off, none⟩) 1 c) ∨ (¬ askG ws ∧ v' = .slice none 0 0)) ∧ w.grownBy w' (some q) := by
  have HB : Hid (Blk w q (stA 0 ⟨#[]⟩ ⟨#[]⟩ ⟨#[]⟩) 48) := hb
  have HP : Hid (∀ j (h : j < ws.length), w.cell? ⟨p, off + j, none⟩ = some (.string (sOf ws[j]))) := hp
  have HW : Hid (∀ x ∈ ws, x.length ≤ 65536 ∧ x ≠ []) := hww
  have HT : Hid (Tabs2 w) := he
  have hql := hb.lt
  clear hb hp hww he
  by_cases h2 : n < 2
  · have h2i : (n : Int) < 2 := by omega
    have HN : Hid (¬ askG ws) := fun h => by have := h.1; omega
    clear HP HW HT
    go_enter Tryz.func48, Tryz.ntmps48
    go_wp2
    go_ret
    exact ⟨_, _, _, _, _, rfl, HB.out, .inr ⟨HN.out, rfl⟩, grownBy_refl _ _⟩
  have h2i : ¬ (n : Int) < 2 := by omega
  have h1n : (1 : Int) < (n : Int) := by omega
  have h1l : 1 < ws.length := by omega
  have hc1 := HP.out 1 h1l
  have hx1 := HW.out _ (List.getElem_mem h1l)
  have hg1 : ws.getD 1 [] = ws[1] := by simp [List.getD_eq_getElem?_getD, h1l]
  have HO : Hid (Calls Tryz.prog 64 #[.string (sOf ws[1])] w fun e w' => e = .returned (.int .i64 (opW ws[1])) ∧ w' = w) := opOf_any _ hx1.2 w HT.out
  have hop := opW_le ws[1]
  have HG : Hid (askG ws ↔ opW ws[1] ≠ 0 ∧ ws.length = 2 + nTx (opW ws[1])) := by
    unfold Hid askG
    rw [hg1]
    exact ⟨fun h => h.2, fun h => ⟨by omega, h⟩⟩
  rw [hg1]
  clear hg1 hx1
  generalize sOf ws[1] = X1 at *
  generalize opW ws[1] = op at *
  have x6 : w.cell? ⟨q, 6, none⟩ = some (.int .i64 0) := HB.out.cell 6
  have f6 : w.frozen? ⟨q, 6, none⟩ = false := HB.out.free 6
  have HB1 : Hid (Blk (w.setCell ⟨q, 6, none⟩ (.int .i64 op)) q (stA op ⟨#[]⟩ ⟨#[]⟩ ⟨#[]⟩) 48) := HB.out.set 6 (.int .i64 op)
  have HGr1 : Hid (w.grownBy (w.setCell ⟨q, 6, none⟩ (.int .i64 op)) (some q)) := Rd.frame _ _
  have HAT : Hid (Calls Tryz.prog 65 #[.pointer (some ⟨q, 4, none⟩)] (w.setCell ⟨q, 6, none⟩ (.int .i64 op)) fun e w' => ∃ v, e = .returned v ∧ OwnG (ptC q) 1 96 w' (w.setCell ⟨q, 6, none⟩ (.int .i64 op)).heap.size v (askP op) ∧ Below (w.setCell ⟨q, 6, none⟩ (.int .i64 op)).heap.size (w.setCell ⟨q, 6, none⟩ (.int .i64 op)) w') := askTexts_any op q _ (HB1.out.cell 6) hop.1 hop.2
  have G1 : Hid True := trivial
  by_cases h0 : op = 0
  · subst h0
    have HN : Hid (¬ askG ws) := fun h => (HG.out.1 h).1 rfl
    clear HP HW HT HG
    go_enter Tryz.func48, Tryz.ntmps48
    go_wp2_with (first
      | (go_at_call 64; refine HO.out.mono ?_; rintro e w' ⟨rfl, hw⟩; have hw2 := hw.symm; subst hw2)
      | (go_at_call 65; refine HAT.out.mono ?_; rintro e w5 ⟨v5, rfl, hO5, hb5⟩; have BS5 : Hid (Blk w5 q (stA 0 ⟨#[]⟩ ⟨#[]⟩ ⟨#[]⟩) 48) := HB1.out.below hb5 HB1.out.lt; have y6 : w5.cell? ⟨q, 6, none⟩ = some (.int .i64 0) := BS5.out.cell 6; have HGr5 : Hid (w.grownBy w5 (some q)) := grownBy_trans HGr1.out (grown_below _ hb5); clear hO5 hb5))
    go_ret
    exact ⟨_, _, _, _, _, rfl, BS5.out, .inr ⟨HN.out, rfl⟩, HGr5.out⟩
  have h0b : (op == 0) = false := by simpa using h0
  have hpl := askP_len (op := op) (by omega) hop.2
  have hM : nTx op ≤ 3 := by unfold nTx; (repeat' split) <;> omega
  by_cases hlen : n = 2 + nTx op
  case neg =>
    have HN : Hid (¬ askG ws) := fun h => hlen (hn.trans (HG.out.1 h).2)
    have hne : ¬ (n : Int) = 2 + (nTx op : Int) := by omega
    clear HP HW HT HG hlen h0
    generalize nTx op = M at *
    generalize askP op = AP at *
    go_enter Tryz.func48, Tryz.ntmps48
    go_wp2_with (first
      | (go_at_call 64; refine HO.out.mono ?_; rintro e w' ⟨rfl, hw⟩; have hw2 := hw.symm; subst hw2)
      | (go_at_call 65; refine HAT.out.mono ?_; rintro e w5 ⟨v5, rfl, hO5, hb5⟩; have BS5 : Hid (Blk w5 q (stA op ⟨#[]⟩ ⟨#[]⟩ ⟨#[]⟩) 48) := HB1.out.below hb5 HB1.out.lt; have y6 : w5.cell? ⟨q, 6, none⟩ = some (.int .i64 op) := BS5.out.cell 6; have HGr5 : Hid (w.grownBy w5 (some q)) := grownBy_trans HGr1.out (grown_below _ hb5); obtain ⟨a5, c5, e5⟩ := hO5.shape; rw [hpl] at e5; subst e5; clear hO5 hb5))
    go_ret
    exact ⟨_, _, _, _, _, rfl, BS5.out, .inr ⟨HN.out, rfl⟩, HGr5.out⟩
  have HY : Hid (askG ws) := HG.out.2 ⟨h0, hn.symm.trans hlen⟩
  have HE : Hid (fillA (stA op ⟨#[]⟩ ⟨#[]⟩ ⟨#[]⟩) ((askP op).zip (ws.drop 2)) = stA op (byA (ws.getD 2 [])) (askV ws op) (askO ws op)) := fill_end (by omega) hop.2 (hn.symm.trans hlen)
  have HZ : Hid (((askP op).zip (ws.drop 2)).length = nTx op ∧ ∀ k (h : k < ((askP op).zip (ws.drop 2)).length) (h1 : k < (askP op).length) (h2 : 2 + k < ws.length), ((askP op).zip (ws.drop 2))[k] = ((askP op)[k], ws[2 + k])) := by
    refine ⟨?_, fun k h h1 h2 => ?_⟩
    · rw [List.length_zip, hpl, List.length_drop]; omega
    · simp
  have HAM : Hid (∀ k (h : k < (askP op).length), (askP op)[k] < 10) := fun k h => askP_mem (List.getElem_mem h)
  have hn5 : ((ws.length : Int) != 2 + (nTx op : Int)) = false := by rw [bne_eq_false_iff_eq]; omega
  clear HG HT h0
  generalize nTx op = M at *
  generalize askP op = AP at *
  generalize AP.zip (ws.drop 2) = ZL at *
  go_enter Tryz.func48, Tryz.ntmps48
  go_wp2_with (first
      | (go_at_call 64; refine HO.out.mono ?_; rintro e w' ⟨rfl, hw⟩; have hw2 := hw.symm; subst hw2)
      | (go_at_call 65; refine HAT.out.mono ?_; rintro e w5 ⟨v5, rfl, hO5, hb5⟩; have BS5 : Hid (Blk w5 q (stA op ⟨#[]⟩ ⟨#[]⟩ ⟨#[]⟩) 48) := HB1.out.below hb5 HB1.out.lt; have y6 : w5.cell? ⟨q, 6, none⟩ = some (.int .i64 op) := BS5.out.cell 6; have HGr5 : Hid (w.grownBy w5 (some q)) := grownBy_trans HGr1.out (grown_below _ hb5); obtain ⟨a5, c5, e5, hc5⟩ := row_pts (ptTLaw q) hO5 (by omega); rw [hpl] at e5; subst e5; have HC5 : Hid (∀ j (h : j < AP.length), ∃ g, a5 = some ⟨g, 0, none⟩ ∧ w.heap.size ≤ g ∧ g < w5.heap.size ∧ w5.cell? ⟨g, j, none⟩ = some (.pointer (some ⟨q, AP[j], none⟩))) := (by intro j h; have h9 := hc5 j h; simpa using h9); have hs5 : w.heap.size ≤ w5.heap.size := HGr5.out.size; clear hO5 hb5 hc5))
  clear x6 f6 y6 HB1 HGr1 HAT HO hc1
  go_loopw [6, 7, 35] (fun _ _ i wr => ∃ k : Nat, k ≤ M ∧ i = .int .i64 k ∧ Blk wr q (fillA (stA op ⟨#[]⟩ ⟨#[]⟩ ⟨#[]⟩) (ZL.take k)) 48 ∧ w5.grownBy wr (some q)) (fun _ _ i _ => M - (intOf i).toNat)
  case atStart => exact ⟨0, Nat.zero_le _, rfl, by simpa [fillA] using BS5.out, grownBy_refl _ _⟩
  case round =>
    obtain ⟨k, hk, rfl, hBk, hGk⟩ := hrel
    have HBk : Hid (Blk wr q (fillA (stA op ⟨#[]⟩ ⟨#[]⟩ ⟨#[]⟩) (ZL.take k)) 48) := hBk
    have HGk : Hid (w5.grownBy wr (some q)) := hGk
    clear hBk hGk
    by_cases hlt : k < M
    · have hki : (k : Int) < (M : Int) := by omega
      have hkA : k < AP.length := by omega
      obtain ⟨g, rfl, hg1, hg2, hg3⟩ := HC5.out k hkA
      have hcp : wr.cell? ⟨g, k, none⟩ = some (.pointer (some ⟨q, AP[k], none⟩)) := (HGk.out.cell_far ⟨g, k, none⟩ hg2 (by simp; omega)).trans hg3
      have hkw : 2 + k < ws.length := by omega
      have hpw := HP.out (2 + k) hkw
      have hpl2 : p < w.heap.size := cell_lt hpw
      have hcw : wr.cell? ⟨p, off + (2 + k), none⟩ = some (.string (sOf ws[2 + k])) := ((HGk.out.cell_far ⟨p, off + (2 + k), none⟩ (show p < w5.heap.size by omega) (by simp; omega)).trans (HGr5.out.cell_far ⟨p, off + (2 + k), none⟩ hpl2 (by simp; omega))).trans hpw
      have hZk := HZ.out.2 k (by rw [HZ.out.1]; exact hlt) hkA hkw
      have HNx : Hid (fillA (stA op ⟨#[]⟩ ⟨#[]⟩ ⟨#[]⟩) (ZL.take (k + 1)) = (fillA (stA op ⟨#[]⟩ ⟨#[]⟩ ⟨#[]⟩) (ZL.take k)).setIfInBounds AP[k] (.string (sOf ws[2 + k]))) := by
        have h9 := fillA_next (stA op ⟨#[]⟩ ⟨#[]⟩ ⟨#[]⟩) ZL k (by rw [HZ.out.1]; exact hlt)
        rw [hZk] at h9
        exact h9
      have hxl := (HW.out _ (List.getElem_mem hkw)).1
      have HCl : Hid (∀ z, Calls Tryz.prog 66 #[.string (sOf ws[2 + k])] z fun e w' => e = .returned (.string (sOf ws[2 + k])) ∧ Below z.heap.size z w') := fun z => cloneI_any _ (by rw [sOf_size]; exact hxl) z
      have hA10 := HAM.out k hkA
      have hfs : (fillA (stA op ⟨#[]⟩ ⟨#[]⟩ ⟨#[]⟩) (ZL.take k)).size = 10 := fillA_size _ _
      have HOld : Hid (∃ vo, (fillA (stA op ⟨#[]⟩ ⟨#[]⟩ ⟨#[]⟩) (ZL.take k))[AP[k]]? = some vo) := ⟨_, Array.getElem?_eq_getElem (by omega)⟩
      clear hZk hxl hpw hg3 hfs HC5 HAM HZ
      generalize AP[k] = J at *
      generalize sOf ws[2 + k] = XS at *
      generalize fillA (stA op ⟨#[]⟩ ⟨#[]⟩ ⟨#[]⟩) (ZL.take k) = FC at *
      have h2k : (2 : Int) + (k : Int) < (n : Int) := by omega
      have hk3 : k ≤ 3 := by omega
      go_wp2_with (first
        | (go_at_call 66; refine (HCl.out _).mono ?_; rintro e w7 ⟨rfl, hb7⟩; have BS7 : Hid (Blk w7 q FC 48) := HBk.out.below hb7 HBk.out.lt; obtain ⟨vo, hvo⟩ := HOld.out; have y7 : w7.cell? ⟨q, J, none⟩ = some vo := (BS7.out.cell J).trans hvo; have f7 : w7.frozen? ⟨q, J, none⟩ = false := BS7.out.free J; have HG7 : Hid (w5.grownBy w7 (some q)) := grownBy_trans HGk.out (grown_below _ hb7); clear hb7 hvo))
      go_roundw
      case rel =>
        refine ⟨k + 1, by omega, by go_num, ?_, grownBy_trans HG7.out (Rd.frame _ _)⟩
        rw [HNx.out]
        exact BS7.out.set J _
      case measure => simp [intOf]; omega
    · obtain rfl : k = M := by omega
      have HEx : Hid (Blk wr q (stA op (byA (ws.getD 2 [])) (askV ws op) (askO ws op)) 48) := by
        have h9 := HBk.out
        rw [List.take_of_length_le (by rw [HZ.out.1]; exact Nat.le_refl _), HE.out] at h9
        exact h9
      have HGx : Hid (w.grownBy wr (some q)) := grownBy_trans HGr5.out HGk.out
      have h1c : (1 : Int) ≤ (c : Int) := by omega
      clear HBk HE
      go_wp2
      go_ret
      exact ⟨_, _, _, _, _, rfl, HEx.out, .inl ⟨HY.out, rfl, rfl, rfl, rfl, rfl⟩, HGx.out⟩
end Go.Proofs.YtanpindbhdeomaaGreatDoor
