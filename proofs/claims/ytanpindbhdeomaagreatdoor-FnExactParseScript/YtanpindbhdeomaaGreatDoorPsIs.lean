/-
  impl.readStep.
-/
import Derived.Test.YtanpindbhdeomaaGreatDoorPsIp
import Derived.Test.YtanpindbhdeomaaGreatDoorPsIr0
import Derived.Test.YtanpindbhdeomaaGreatDoorPsQ
import Derived.Test.YtanpindbhdeomaaGreatDoorRegInv
import Derived.Deep.RegionLaw
namespace Go.Proofs.YtanpindbhdeomaaGreatDoor
open Go.RowKit
set_option linter.unusedVariables false
set_option linter.unusedSimpArgs false

theorem Gr2.app {w wy w2 w3 : World} {b : Nat} {v v' : Value} (h1 : Below w.heap.size w wy) (h2 : Below wy.heap.size wy w2) (hg : Grew w2 v w3 v') (x : Value) : Gr2 w b v (w3.setCell ⟨b, 7, none⟩ x) v' := by
  have s1 := h1.size
  have s2 := h2.size
  have s3 := hg.g.size
  refine ⟨hg.g.os.trans (h2.os.trans h1.os), hg.g.tape.trans (h2.tape.trans h1.tape), hg.g.output.trans (h2.output.trans h1.output), by simp [World.setCell]; omega, fun k hk hn hv => ?_, ?_⟩
  · exact (Below.heap_setCell _ _ _ _ hn).trans ((hg.g.block k (by omega) hv).trans ((h2.block k (by omega)).trans (h1.block k hk)))
  · exact hg.at'.imp id fun ⟨k, e, hk⟩ => ⟨k, e, by omega⟩
set_option maxHeartbeats 1500000 in
set_option maxRecDepth 100000 in
theorem readStep_any (b : Nat) (u : Sup) (ad : Option Addr) (nd cd : Nat) (ss : List Stp) (av : Option Addr) (cv : Nat) (v : Value) (ws : List (List UInt8)) (w : World) (B Bs : Nat) (hb : Blk w b #[.int .i64 u.s, .int .i64 u.c, .int .i64 u.el, .int .i64 u.b, .int .i64 u.r, .int .i64 u.d, .slice ad nd cd, .slice av ss.length cv] 27) (hv : OwnG txC 1 9 w B v (ws.map sOf)) (hs : OwnG stC 10 48 w Bs (.slice av ss.length cv) ss) (hBs : Bs ≤ w.heap.size) (hsl : ss.length ≤ 4096) (hwl : ws.length ≤ 70000) (hw1 : 1 ≤ ws.length) (hww : ∀ x ∈ ws, x.length ≤ 65536 ∧ x ≠ []) (he : EnvP w) :
    Calls Tryz.prog 25 #[.pointer (some ⟨b, 0, none⟩), v] w fun e w' => ∃ a' n' c', e = .returned (.int .i64 (stepQ u.s u.c ss.length ws).1) ∧ Blk w' b #[.int .i64 u.s, .int .i64 u.c, .int .i64 u.el, .int .i64 u.b, .int .i64 u.r, .int .i64 u.d, .slice ad nd cd, .slice a' n' c'] 27 ∧ OwnG stC 10 48 w' Bs (.slice a' n' c') (if (stepQ u.s u.c ss.length ws).1 = 0 then ss ++ [(stepQ u.s u.c ss.length ws).2] else ss) ∧ Gr2 w b (.slice av ss.length cv) w' (.slice a' n' c') := by
  obtain ⟨p, cq, rfl, hcq, hpl, hpB, hcw⟩ := row_words hv hw1 hwl
  have HB : Hid (Blk w b #[.int .i64 u.s, .int .i64 u.c, .int .i64 u.el, .int .i64 u.b, .int .i64 u.r, .int .i64 u.d, .slice ad nd cd, .slice av ss.length cv] 27) := hb
  have HS : Hid (OwnG stC 10 48 w Bs (.slice av ss.length cv) ss) := hs
  have HW : Hid (∀ x ∈ ws, x.length ≤ 65536 ∧ x ≠ []) := hww
  have HE : Hid (EnvP w) := he
  have HCW : Hid (∀ j (h : j < ws.length), w.cell? ⟨p, j, none⟩ = some (.string (sOf ws[j]))) := hcw
  have hbl := hb.lt
  have hc0 := hcw 0 hw1
  have hg0 : ws.getD 0 [] = ws[0] := by rw [List.getD_eq_getElem?_getD, List.getElem?_eq_getElem (by omega)]; rfl
  have HKo : Hid (Calls Tryz.prog 47 #[.string (sOf ws[0])] w fun e w' => e = .returned (.int .i64 (kindK ws[0])) ∧ Below w.heap.size w w') := kindOf_any _ (hww _ (List.getElem_mem hw1)).2 w he.t
  have hkl := kindK_le ws[0]
  have HKd : Hid (kindK (ws.getD 0 []) = kindK ws[0]) := by unfold Hid; rw [hg0]
  clear hb hv hs hww he hcw hg0 hpB
  obtain ⟨QL, hQL⟩ : ∃ q, q = stepQ u.s u.c ss.length ws := ⟨_, rfl⟩
  rw [← hQL]
  have HQ3 : Hid (QL = stepQ u.s u.c ss.length ws) := hQL
  clear hQL
  obtain ⟨qc, qx⟩ := QL
  dsimp only
  generalize sOf ws[0] = X0 at *
  generalize kindK ws[0] = kd at *
  obtain ⟨n, hn⟩ : ∃ n, n = ws.length := ⟨_, rfl⟩
  rw [← hn] at hcq ⊢
  have h0n : 1 ≤ n := by omega
  have h0i : (0 : Int) < (n : Int) := by omega
  have HTf : Hid (∃ off, (if cq = 1 then some ⟨p, 0, none⟩ else some ⟨p, 1, none⟩ : Option Addr) = some ⟨p, off, none⟩ ∧ ∀ j (h : j < ws.tail.length), w.cell? ⟨p, off + j, none⟩ = some (.string (sOf ws.tail[j]))) := by
    by_cases h9 : cq = 1
    · exact ⟨0, if_pos h9, fun j h => absurd h (by rw [List.length_tail]; omega)⟩
    · refine ⟨1, if_neg h9, fun j h => ?_⟩
      have h2 : 1 + j < ws.length := by rw [List.length_tail] at h; omega
      rw [HCW.out (1 + j) h2]
      simp [Nat.add_comm]
  have HTl : Hid (ws.tail.length = n - 1) := by unfold Hid; rw [List.length_tail, hn]
  have HNn : Hid (n = ws.length) := hn
  have hn7 : n ≤ 70000 := by omega
  clear hn hw1 hwl
  have G1 : Hid True := trivial
  by_cases hk0 : kd = 0
  · subst hk0
    obtain ⟨rfl, rfl⟩ := Prod.mk.inj (HQ3.out.trans (show stepQ u.s u.c ss.length ws = (4, zS) by unfold stepQ; rw [if_pos HKd.out]))
    clear HQ3 HKd HTf HTl HNn HCW HW HE
    go_enter Tryz.func25, Tryz.ntmps25
    go_wp2_with (first
      | (go_at_call 47; refine HKo.out.mono ?_; rintro e w1 ⟨rfl, hb1⟩; have HB1 : Hid (Below w.heap.size w w1) := hb1; have hz1 : w.heap.size ≤ w1.heap.size := hb1.size; clear hb1)
      | (have hBA := G1; refine gate_st 48 (.tmp 5) _ rfl ?_; clear hBA; refine wpl_store_last rfl 48 (.tmp 5) _ rfl (w1.heap.size) rfl rfl rfl sizeStP rfl rfl (by simp [Value.oneCell']) ?_; clear G1; have BS2 : Hid (Blk (w1.alloc (.cells #[.int .i64 0, .int .i64 0, .int .i64 0, .int .i64 0, .int .i64 0, .int .i64 0, .int .i64 0, .string ⟨#[]⟩, .string ⟨#[]⟩, .string ⟨#[]⟩] 48)) w1.heap.size (stX (zK 0)) 48) := Blk.new _ _ _; have HB12 : Hid (Below w1.heap.size w1 (w1.alloc (.cells #[.int .i64 0, .int .i64 0, .int .i64 0, .int .i64 0, .int .i64 0, .int .i64 0, .int .i64 0, .string ⟨#[]⟩, .string ⟨#[]⟩, .string ⟨#[]⟩] 48))) := (Below.refl _ _).alloc (Nat.le_refl _) _; have hz2 : (w1.alloc (.cells #[.int .i64 0, .int .i64 0, .int .i64 0, .int .i64 0, .int .i64 0, .int .i64 0, .int .i64 0, .string ⟨#[]⟩, .string ⟨#[]⟩, .string ⟨#[]⟩] 48)).heap.size = w1.heap.size + 1 := (by simp); generalize w1.alloc (.cells #[.int .i64 0, .int .i64 0, .int .i64 0, .int .i64 0, .int .i64 0, .int .i64 0, .int .i64 0, .string ⟨#[]⟩, .string ⟨#[]⟩, .string ⟨#[]⟩] 48) = w2 at *; have HB2 : Hid (Below w.heap.size w w2) := HB1.out.trans (HB12.out.mono hz1); have y0 : w2.cell? ⟨w1.heap.size, 0, none⟩ = some (.int .i64 0) := BS2.out.cell 0))
    go_ret
    exact ⟨rfl, _, _, _, HB.out.below HB2.out HB.out.lt, HS.out.below HB2.out, Gr2.below _ _ HB2.out⟩
  have hk0b : (kd == 0) = false := by simpa using hk0
  have HSQ : Hid (∀ X T, StepPre ws kd X T → (qc, qx) = if T.length ≠ cntK kd then (5, zS) else if ss.length = 4096 then (5, zS) else if T.all numOk = false then (6, zS) else if stOk u.s u.c (fillX X (T.map numV) (cntK kd)) = true then (0, fillX X (T.map numV) (cntK kd)) else (7, zS)) := fun X T h => HQ3.out.trans (stepQ_pre (by have := HNn.out; omega) HKd.out hk0 h _ _ _)
  clear HQ3 HKd
  go_enter Tryz.func25, Tryz.ntmps25
  go_upto_if 23 with (first
      | (go_at_call 47; refine HKo.out.mono ?_; rintro e w1 ⟨rfl, hb1⟩; have HB1 : Hid (Below w.heap.size w w1) := hb1; have hz1 : w.heap.size ≤ w1.heap.size := hb1.size; clear hb1)
      | (have hBA := G1; refine gate_st 48 (.tmp 5) _ rfl ?_; clear hBA; refine wpl_store_last rfl 48 (.tmp 5) _ rfl (w1.heap.size) rfl rfl rfl sizeStP rfl rfl (by simp [Value.oneCell']) ?_; clear G1; have BS2 : Hid (Blk (w1.alloc (.cells #[.int .i64 kd, .int .i64 0, .int .i64 0, .int .i64 0, .int .i64 0, .int .i64 0, .int .i64 0, .string ⟨#[]⟩, .string ⟨#[]⟩, .string ⟨#[]⟩] 48)) w1.heap.size (stX (zK kd)) 48) := Blk.new _ _ _; have HB12 : Hid (Below w1.heap.size w1 (w1.alloc (.cells #[.int .i64 kd, .int .i64 0, .int .i64 0, .int .i64 0, .int .i64 0, .int .i64 0, .int .i64 0, .string ⟨#[]⟩, .string ⟨#[]⟩, .string ⟨#[]⟩] 48))) := (Below.refl _ _).alloc (Nat.le_refl _) _; have hz2 : (w1.alloc (.cells #[.int .i64 kd, .int .i64 0, .int .i64 0, .int .i64 0, .int .i64 0, .int .i64 0, .int .i64 0, .string ⟨#[]⟩, .string ⟨#[]⟩, .string ⟨#[]⟩] 48)).heap.size = w1.heap.size + 1 := (by simp); generalize w1.alloc (.cells #[.int .i64 kd, .int .i64 0, .int .i64 0, .int .i64 0, .int .i64 0, .int .i64 0, .int .i64 0, .string ⟨#[]⟩, .string ⟨#[]⟩, .string ⟨#[]⟩] 48) = w2 at *; have HB2 : Hid (Below w.heap.size w w2) := HB1.out.trans (HB12.out.mono hz1); have y0 : w2.cell? ⟨w1.heap.size, 0, none⟩ = some (.int .i64 kd) := BS2.out.cell 0))
  obtain ⟨off, hoff, hTc⟩ := HTf.out
  have HTc : Hid (∀ j (h : j < ws.tail.length), w2.cell? ⟨p, off + j, none⟩ = some (.string (sOf ws.tail[j]))) := fun j h => (HB2.out.cell (p := ⟨p, off + j, none⟩) hpl).trans (hTc j h)
  rw [hoff]
  obtain ⟨ct, hctd⟩ : ∃ ct, ct = cq - 1 := ⟨_, rfl⟩
  have hct : n - 1 ≤ ct := by omega
  rw [← hctd]
  clear hoff hTc HTf hctd
  go_cut [1, 23] (fun s1 _ wx => ∃ (X : Stp) (T : List (List UInt8)) (xa : Option Addr) (xn xc : Nat), s1 = .slice xa xn xc ∧ xn = T.length ∧ T.length ≤ 70000 ∧ (∀ x ∈ T, x.length ≤ 65536) ∧ StepPre ws kd X T ∧ Sl txC 1 wx (.slice xa xn xc) (T.map sOf) ∧ Blk wx w1.heap.size (stX X) 48 ∧ Below w1.heap.size w1 wx ∧ w1.heap.size < wx.heap.size)
  case first =>
    by_cases h11 : kd = 11
    · subst h11
      have HRA : Hid (Calls Tryz.prog 48 #[.pointer (some ⟨w1.heap.size, 4, none⟩), .slice (some ⟨p, off, none⟩) (n - 1) ct] w2 _) := readAsk_any w1.heap.size p off (n - 1) ct ws.tail HTl.out.symm w2 BS2.out HTc.out (by omega) hct (by omega) (fun x hx => HW.out x (List.mem_of_mem_tail hx)) (HE.out.below HB2.out).t
      clear y0
      go_wp2_with (go_at_call 48; refine HRA.out.mono ?_; rintro e w3 ⟨v3, op3, k1, k2, k3, rfl, hB3, hor3, hg3⟩; have BS3 : Hid (Blk w3 w1.heap.size (stA op3 k1 k2 k3) 48) := hB3; have HOr3 : Hid _ := hor3; have HG3 : Hid (w2.grownBy w3 (some w1.heap.size)) := hg3; clear hB3 hor3 hg3)
      go_meet
      have hB3 : Below w1.heap.size w1 w3 := HB12.out.trans ⟨HG3.out.os, HG3.out.tape, HG3.out.output, HG3.out.size, fun k hk => HG3.out.block k (by omega) (by simp; omega)⟩
      have hz3 : w1.heap.size < w3.heap.size := by have := HG3.out.size; omega
      rcases HOr3.out with ⟨hG, rfl, rfl, rfl, rfl, rfl⟩ | ⟨hG, rfl⟩
      · have hl3 : 2 ≤ ws.tail.length := hG.1
        have h1w : 1 < ws.length := by rw [List.length_tail] at hl3; omega
        have hgd : ws.getD 1 [] = ws[1] := by simp [List.getD_eq_getElem?_getD, h1w]
        refine ⟨⟨11, 0, 0, 0, 0, 0, opW (ws.getD 2 []), byA (ws.getD 3 []), askV ws.tail (opW (ws.getD 2 [])), askO ws.tail (opW (ws.getD 2 []))⟩, [ws.getD 1 []], _, _, _, rfl, rfl, by simp, ?_, .inr (.inl ⟨rfl, hG, rfl, rfl⟩), ?_, ?_, hB3, hz3⟩
        · intro x hx
          rw [List.mem_singleton] at hx
          subst hx
          rw [hgd]
          exact (HW.out _ (List.getElem_mem h1w)).1
        · refine sl_cells (T := [ws.getD 1 []]) (by simp) fun j hj => ?_
          obtain rfl : j = 0 := by simpa using hj
          have h9 := HTc.out 0 (by omega)
          have e9 : ws.tail[0] = ws[1] := by simp
          rw [e9] at h9
          show w3.cell? _ = some (.string (sOf (ws.getD 1 [])))
          rw [hgd, HG3.out.cell_far ⟨p, off + 0, none⟩ (show p < w2.heap.size by omega) (by simp; omega)]
          exact h9
        · have h9 := BS3.out
          simp only [getD_tail] at h9
          exact h9
      · exact ⟨⟨11, 0, 0, 0, 0, 0, op3, k1, k2, k3⟩, [], _, _, _, rfl, rfl, by simp, by simp, .inr (.inr ⟨rfl, hG, rfl, _, _, _, _, rfl⟩), ⟨by simp [maxLen], _, _, rfl, fun i hi => absurd hi (by simp)⟩, BS3.out, hB3, hz3⟩
    · have h11b : (kd == 11) = false := by simpa using h11
      go_wp2_with fail
      go_meet
      refine ⟨zK kd, ws.tail, _, _, _, rfl, HTl.out.symm, by rw [HTl.out]; omega, fun x hx => (HW.out x (List.mem_of_mem_tail hx)).1, .inl ⟨h11, rfl, rfl⟩, ?_, BS2.out, HB12.out, by omega⟩
      have h9 := sl_cells (z := w2) (p := p) (off := off) (c := ct) (T := ws.tail) (by rw [HTl.out]; omega) HTc.out
      rw [HTl.out] at h9
      exact h9
  case rest =>
    obtain ⟨X, T, xa, xn, xc, rfl, hxn, hT7, hTw, hpre, hslT, hBX, hBx, hzx⟩ := hcut
    obtain ⟨wx, hwx⟩ : ∃ wx, wx = wc := ⟨_, rfl⟩
    rw [← hwx] at hslT hBX hBx hzx
    have HSx : Hid (Sl txC 1 wx (.slice xa xn xc) (T.map sOf)) := hslT
    have HBX : Hid (Blk wx w1.heap.size (stX X) 48) := hBX
    have HB0 : Hid (Below w.heap.size w wx) := HB1.out.trans (hBx.mono hz1)
    have HEx : Hid (EnvP wx) := HE.out.below HB0.out
    have HSQ2 := HSQ.out X T hpre
    have HSQ3 : Hid ((qc, qx) = if T.length ≠ cntK kd then (5, zS) else if ss.length = 4096 then (5, zS) else if T.all numOk = false then (6, zS) else if stOk u.s u.c (fillX X (T.map numV) (cntK kd)) = true then (0, fillX X (T.map numV) (cntK kd)) else (7, zS)) := HSQ2
    have hXkd := hpre.kd.1
    have HF0 : Hid (∀ L, stX X = stX (fillX X L 0)) := fillX_zero hpre
    have HSz : Hid (T.length = cntK kd → X.k.size ≤ 1048576 ∧ X.v.size ≤ 1048576 ∧ X.o.size ≤ 1048576) := fun h => pre_sizes hpre h HW.out
    have hC13 := cntK_13 kd
    have HNo : Hid (Calls Tryz.prog 49 #[.pointer (some ⟨w1.heap.size, 0, none⟩)] wx fun e w' => ∃ v, e = .returned v ∧ OwnG (ptC w1.heap.size) 1 77 w' wx.heap.size v ([1, 2, 3].take (cntK kd)) ∧ Below wx.heap.size wx w') := numbersOf_any kd (stX X) w1.heap.size wx HBX.out (by rw [← hXkd]; rfl) HEx.out.t.tabs (by omega) hkl.2
    have hTkl : ([1, 2, 3].take (cntK kd) : List Nat).length = cntK kd := by rw [List.length_take]; simp; omega
    have HTk : Hid (∀ k (h : k < ([1, 2, 3].take (cntK kd) : List Nat).length), ([1, 2, 3].take (cntK kd) : List Nat)[k] = k + 1) := fun k h => by
      have h3 : k < 3 := by omega
      rw [List.getElem_take]
      rcases (show k = 0 ∨ k = 1 ∨ k = 2 by omega) with rfl | rfl | rfl <;> rfl
    have HNu : Hid (∀ z, Below wx.heap.size wx z → Calls Tryz.prog 44 #[.slice xa xn xc] z fun e w' => ∃ v', e = .returned (.tuple #[v', .bool (T.all numOk)]) ∧ (T.all numOk = true → OwnG inC 1 3 w' z.heap.size v' (T.map numV)) ∧ Below z.heap.size z w') := fun z hz => readNumbers_any _ T z (HSx.out.below hz) hT7 hTw (HEx.out.below hz).e
    have HLm : Hid ((T.map numV).length = T.length) := List.length_map ..
    have hbn : b < wx.heap.size := by omega
    obtain ⟨q, hq⟩ : ∃ q, q = w1.heap.size := ⟨_, rfl⟩
    have hqw : w.heap.size ≤ q := by omega
    rw [← hq] at HBX HNo hzx hBx
    have HBk0 : Hid (Blk wx b #[.int .i64 u.s, .int .i64 u.c, .int .i64 u.el, .int .i64 u.b, .int .i64 u.r, .int .i64 u.d, .slice ad nd cd, .slice av ss.length cv] 27) := HB.out.below HB0.out HB.out.lt
    have HSk0 : Hid (OwnG stC 10 48 wx Bs (.slice av ss.length cv) ss) := HS.out.below HB0.out
    have hzw : w.heap.size ≤ wx.heap.size := HB0.out.size
    clear HSQ HSQ2 hpre hBX hBx hslT hTw HTc HB2 HB12 BS2 HKo HCW HW hct HNn HTl HSx HEx y0
    have HS0 : Hid (∀ j, (Value.slice av ss.length cv).ownBlock = some j → j < w.heap.size) := fun j h => (HS.out.lts j h).2
    have HEw : Hid (EnvP w) := HE.out
    clear HB HS HE
    generalize cntK kd = C at *
    generalize ([1, 2, 3].take C : List Nat) = PT at *
    subst hwx
    rw [← hq]
    clear hq
    by_cases hTC : T.length = C
    case neg =>
      obtain ⟨rfl, rfl⟩ := Prod.mk.inj (HSQ3.out.trans (if_pos hTC))
      have hne : ((xn : Int) != (C : Int)) = true := by rw [bne_iff_ne]; omega
      clear HSQ3 HNu HF0 HSz hxn hTC
      go_wp2_with (first
        | (go_at_call 49; refine HNo.out.mono ?_; rintro e w4 ⟨v4, rfl, hO4, hb4⟩; obtain ⟨ga, gc, e4, hc4⟩ := row_pts (ptILaw q) hO4 (by omega); rw [hTkl] at e4; subst e4; have HP4 : Hid (∀ j (h : j < PT.length), ∃ g, ga = some ⟨g, 0, none⟩ ∧ wx.heap.size ≤ g ∧ g < w4.heap.size ∧ w4.cell? ⟨g, j, none⟩ = some (.pointer (some ⟨q, PT[j], none⟩))) := hc4; have HB4 : Hid (Below wx.heap.size wx w4) := hb4; have hz4 : wx.heap.size ≤ w4.heap.size := hb4.size; have c7 : w4.cell? ⟨b, 7, none⟩ = some (.slice av ss.length cv) := (HBk0.out.below hb4 hbn).cell 7; clear hO4 hb4 hc4 HNo))
      go_ret
      exact ⟨rfl, _, _, _, HBk0.out.below HB4.out hbn, HSk0.out.below HB4.out, Gr2.below _ _ (HB0.out.trans (HB4.out.mono hzw))⟩
    have HQ4 : Hid ((qc, qx) = if ss.length = 4096 then (5, zS) else if T.all numOk = false then (6, zS) else if stOk u.s u.c (fillX X (T.map numV) C) = true then (0, fillX X (T.map numV) C) else (7, zS)) := HSQ3.out.trans (if_neg (fun h => h hTC))
    have hne : ((xn : Int) != (C : Int)) = false := by rw [bne_eq_false_iff_eq]; omega
    have HTC : Hid (T.length = C) := hTC
    clear HSQ3 hxn hTC
    by_cases h49 : ss.length = 4096
    · obtain ⟨rfl, rfl⟩ := Prod.mk.inj (HQ4.out.trans (if_pos h49))
      have h49b : True := trivial
      clear HQ4 HNu HF0 HSz h49b hsl HS0
      have H49 : Hid (∀ l, l = ss → l.length = 4096) := fun l e => by rw [e]; exact h49
      generalize ss.length = sn at *
      have h49c := h49.symm
      subst h49c
      go_wp2_with (first
        | (go_at_call 49; refine HNo.out.mono ?_; rintro e w4 ⟨v4, rfl, hO4, hb4⟩; obtain ⟨ga, gc, e4, hc4⟩ := row_pts (ptILaw q) hO4 (by omega); rw [hTkl] at e4; subst e4; have HP4 : Hid (∀ j (h : j < PT.length), ∃ g, ga = some ⟨g, 0, none⟩ ∧ wx.heap.size ≤ g ∧ g < w4.heap.size ∧ w4.cell? ⟨g, j, none⟩ = some (.pointer (some ⟨q, PT[j], none⟩))) := hc4; have HB4 : Hid (Below wx.heap.size wx w4) := hb4; have hz4 : wx.heap.size ≤ w4.heap.size := hb4.size; have c7 : w4.cell? ⟨b, 7, none⟩ = some (.slice av 4096 cv) := (HBk0.out.below hb4 hbn).cell 7; clear hO4 hb4 hc4 HNo))
      go_ret
      refine ⟨rfl, _, _, _, HBk0.out.below HB4.out hbn, HSk0.out.below HB4.out, ?_⟩
      rw [H49.out ss rfl]
      exact Gr2.below _ _ (HB0.out.trans (HB4.out.mono hzw))
    have HQ5 : Hid ((qc, qx) = if T.all numOk = false then (6, zS) else if stOk u.s u.c (fillX X (T.map numV) C) = true then (0, fillX X (T.map numV) C) else (7, zS)) := HQ4.out.trans (if_neg h49)
    have h49b : ((ss.length : Int) == 4096) = false := by rw [beq_eq_false_iff_ne]; omega
    clear HQ4 h49
    cases hall : T.all numOk
    · obtain ⟨rfl, rfl⟩ := Prod.mk.inj (HQ5.out.trans (if_pos hall))
      rw [hall] at HNu
      clear HQ5 hall HF0 HSz
      go_wp2_with (first
        | (go_at_call 49; refine HNo.out.mono ?_; rintro e w4 ⟨v4, rfl, hO4, hb4⟩; obtain ⟨ga, gc, e4, hc4⟩ := row_pts (ptILaw q) hO4 (by omega); rw [hTkl] at e4; subst e4; have HP4 : Hid (∀ j (h : j < PT.length), ∃ g, ga = some ⟨g, 0, none⟩ ∧ wx.heap.size ≤ g ∧ g < w4.heap.size ∧ w4.cell? ⟨g, j, none⟩ = some (.pointer (some ⟨q, PT[j], none⟩))) := hc4; have HB4 : Hid (Below wx.heap.size wx w4) := hb4; have hz4 : wx.heap.size ≤ w4.heap.size := hb4.size; have c7 : w4.cell? ⟨b, 7, none⟩ = some (.slice av ss.length cv) := (HBk0.out.below hb4 hbn).cell 7; clear hO4 hb4 hc4 HNo)
        | (go_at_call 44; refine (HNu.out _ HB4.out).mono ?_; rintro e w5 ⟨v5, rfl, hO5, hb5⟩; have HB5 : Hid (Below wx.heap.size wx w5) := HB4.out.trans (hb5.mono hz4); clear hb5 hO5 c7 HNu))
      go_ret
      exact ⟨rfl, _, _, _, HBk0.out.below HB5.out hbn, HSk0.out.below HB5.out, Gr2.below _ _ (HB0.out.trans (HB5.out.mono hzw))⟩
    have HQ6 : Hid ((qc, qx) = if stOk u.s u.c (fillX X (T.map numV) C) = true then (0, fillX X (T.map numV) C) else (7, zS)) := HQ5.out.trans (if_neg (by rw [hall]; decide))
    rw [hall] at HNu
    have HLl : Hid ((T.map numV).length = C) := HLm.out.trans HTC.out
    have HSz2 := HSz.out HTC.out
    have HSz3 : Hid (X.k.size ≤ 1048576 ∧ X.v.size ≤ 1048576 ∧ X.o.size ≤ 1048576) := HSz2
    clear HQ5 hall HSz HSz2 HLm
    generalize T.map numV = L at *
    go_wp2_with (first
        | (go_at_call 49; refine HNo.out.mono ?_; rintro e w4 ⟨v4, rfl, hO4, hb4⟩; obtain ⟨ga, gc, e4, hc4⟩ := row_pts (ptILaw q) hO4 (by omega); rw [hTkl] at e4; subst e4; have HP4 : Hid (∀ j (h : j < PT.length), ∃ g, ga = some ⟨g, 0, none⟩ ∧ wx.heap.size ≤ g ∧ g < w4.heap.size ∧ w4.cell? ⟨g, j, none⟩ = some (.pointer (some ⟨q, PT[j], none⟩))) := hc4; have HB4 : Hid (Below wx.heap.size wx w4) := hb4; have hz4 : wx.heap.size ≤ w4.heap.size := hb4.size; have c7 : w4.cell? ⟨b, 7, none⟩ = some (.slice av ss.length cv) := (HBk0.out.below hb4 hbn).cell 7; clear hO4 hb4 hc4 HNo)
        | (go_at_call 44; refine (HNu.out _ HB4.out).mono ?_; rintro e w5 ⟨v5, rfl, hO5, hb5⟩; have HB5 : Hid (Below wx.heap.size wx w5) := HB4.out.trans (hb5.mono hz4); obtain ⟨g5, c5, e5, hg51, hg52, hc5⟩ := row_ints (hO5 (by trivial)) (by rw [HLl.out]; omega) (by rw [HLl.out]; omega); rw [HLl.out] at e5; subst e5; have HN5 : Hid (∀ j (h : j < L.length), w5.cell? ⟨g5, j, none⟩ = some (.int .i64 L[j])) := hc5; have hz5 : w4.heap.size ≤ w5.heap.size := hb5.size; have HP5 : Hid (∀ j (h : j < PT.length), ∃ g, ga = some ⟨g, 0, none⟩ ∧ wx.heap.size ≤ g ∧ g < w5.heap.size ∧ w5.cell? ⟨g, j, none⟩ = some (.pointer (some ⟨q, PT[j], none⟩))) := (by intro j h; obtain ⟨g, e, h1, h2, h3⟩ := HP4.out j h; exact ⟨g, e, h1, by omega, (hb5.cell (p := ⟨g, j, none⟩) h2).trans h3⟩); clear hc5 HP4; clear hb5 hO5 c7 HNu))
    have BS5 : Hid (Blk w5 q (stX X) 48) := HBX.out.below HB5.out hzx
    clear HBX
    go_loopw [9, 10, 50] (fun _ _ i wr => ∃ k : Nat, k ≤ C ∧ i = .int .i64 k ∧ Blk wr q (stX (fillX X L k)) 48 ∧ w5.grownBy wr (some q)) (fun _ _ i _ => C - (intOf i).toNat)
    case atStart => exact ⟨0, Nat.zero_le _, rfl, by rw [← HF0.out L]; exact BS5.out, grownBy_refl _ _⟩
    case round =>
      obtain ⟨k, hk, rfl, hBk, hGk⟩ := hrel
      have HBk : Hid (Blk wr q (stX (fillX X L k)) 48) := hBk
      have HGk : Hid (w5.grownBy wr (some q)) := hGk
      clear hBk hGk
      by_cases hlt : k < C
      · have hki : (k : Int) < (C : Int) := by omega
        have hkP : k < PT.length := by omega
        have hkL : k < L.length := by rw [HLl.out]; exact hlt
        obtain ⟨g, rfl, hg1, hg2, hg3⟩ := HP5.out k hkP
        have hcp : wr.cell? ⟨g, k, none⟩ = some (.pointer (some ⟨q, k + 1, none⟩)) := by
          rw [HGk.out.cell_far ⟨g, k, none⟩ hg2 (by simp; omega), hg3, HTk.out k hkP]
        have hcn : wr.cell? ⟨g5, k, none⟩ = some (.int .i64 L[k]) := (HGk.out.cell_far ⟨g5, k, none⟩ hg51 (by simp; omega)).trans (HN5.out k hkL)
        have HNx : Hid ((stX (fillX X L k)).setIfInBounds (k + 1) (.int .i64 L[k]) = stX (fillX X L (k + 1))) := fillX_next X L k hkL (by omega)
        obtain ⟨vo, hvo⟩ : ∃ vo, wr.cell? ⟨q, k + 1, none⟩ = some vo := ⟨_, (HBk.out.cell (k + 1)).trans (Array.getElem?_eq_getElem (show k + 1 < (stX (fillX X L k)).size by show k + 1 < 10; omega))⟩
        have hfo : wr.frozen? ⟨q, k + 1, none⟩ = false := HBk.out.free (k + 1)
        clear hg3 HP5 HN5
        generalize L[k] = Lk at *
        have hk3 : k ≤ 3 := by omega
        go_wp2
        go_roundw
        case rel =>
          refine ⟨k + 1, by omega, by go_num, ?_, grownBy_trans HGk.out (Rd.frame _ _)⟩
          rw [← HNx.out]
          exact HBk.out.set (k + 1) _
        case measure => simp [intOf]; omega
      · obtain rfl : k = C := by omega
        clear HP5 HN5 BS5 HF0
        have HXs : Hid ((fillX X L k).k.size ≤ 1048576 ∧ (fillX X L k).v.size ≤ 1048576 ∧ (fillX X L k).o.size ≤ 1048576) := HSz3.out
        clear HSz3
        generalize fillX X L k = XF at *
        obtain ⟨w6, hw6⟩ : ∃ w6, w6 = wr := ⟨_, rfl⟩
        have HB6 : Hid (Below w.heap.size w w6) := by
          rw [hw6]
          exact (HB0.out.trans (HB5.out.mono hzw)).trans ⟨HGk.out.os, HGk.out.tape, HGk.out.output, HGk.out.size, fun j hj => HGk.out.block j (by have := HB5.out.size; omega) (by simp; omega)⟩
        rw [← hw6] at HBk
        have hz6 : w.heap.size ≤ w6.heap.size := HB6.out.size
        have BK6 : Hid (Blk w6 b #[.int .i64 u.s, .int .i64 u.c, .int .i64 u.el, .int .i64 u.b, .int .i64 u.r, .int .i64 u.d, .slice ad nd cd, .slice av ss.length cv] 27) := by
          refine (HBk0.out.below HB5.out hbn).keep ?_
          rw [hw6]
          exact HGk.out.block b (by have := HB5.out.size; omega) (by simp; omega)
        have HS6 : Hid (OwnG stC 10 48 w6 Bs (.slice av ss.length cv) ss) := by
          refine (HSk0.out.below HB5.out).block fun j hj => ?_
          rw [hw6]
          have h8 := (HS0.out j hj)
          exact HGk.out.block j (by have := HB5.out.size; omega) (by simp; omega)
        have hq6 : q < w6.heap.size := HBk.out.lt
        have HE6 : Hid (Tabs w6) := (HEw.out.below HB6.out).t.tabs
        clear HGk HBk0 HSk0 HB0 HB5 HB4
        subst hw6
        have z0 : w6.cell? ⟨q, 0, none⟩ = some (.int .i64 XF.kd) := HBk.out.cell 0
        have z1 : w6.cell? ⟨q, 1, none⟩ = some (.int .i64 XF.a) := HBk.out.cell 1
        have z2 : w6.cell? ⟨q, 2, none⟩ = some (.int .i64 XF.b) := HBk.out.cell 2
        have z3 : w6.cell? ⟨q, 3, none⟩ = some (.int .i64 XF.c) := HBk.out.cell 3
        have z4 : w6.cell? ⟨q, 4, none⟩ = some (.int .i64 XF.cl) := HBk.out.cell 4
        have z5 : w6.cell? ⟨q, 5, none⟩ = some (.int .i64 XF.sq) := HBk.out.cell 5
        have z6 : w6.cell? ⟨q, 6, none⟩ = some (.int .i64 XF.op) := HBk.out.cell 6
        have z7 : w6.cell? ⟨q, 7, none⟩ = some (.string XF.k) := HBk.out.cell 7
        have z8 : w6.cell? ⟨q, 8, none⟩ = some (.string XF.v) := HBk.out.cell 8
        have z9 : w6.cell? ⟨q, 9, none⟩ = some (.string XF.o) := HBk.out.cell 9
        have x0 : w6.cell? ⟨b, 0, none⟩ = some (.int .i64 u.s) := BK6.out.cell 0
        have x1 : w6.cell? ⟨b, 1, none⟩ = some (.int .i64 u.c) := BK6.out.cell 1
        have x2 : w6.cell? ⟨b, 2, none⟩ = some (.int .i64 u.el) := BK6.out.cell 2
        have x3 : w6.cell? ⟨b, 3, none⟩ = some (.int .i64 u.b) := BK6.out.cell 3
        have x4 : w6.cell? ⟨b, 4, none⟩ = some (.int .i64 u.r) := BK6.out.cell 4
        have x5 : w6.cell? ⟨b, 5, none⟩ = some (.int .i64 u.d) := BK6.out.cell 5
        obtain ⟨ok, hok⟩ : ∃ ok, ok = stOk u.s u.c XF := ⟨_, rfl⟩
        have HSF : Hid (∀ z, Below w6.heap.size w6 z → Calls Tryz.prog 50 #[.agg #[.int .i64 XF.kd, .int .i64 XF.a, .int .i64 XF.b, .int .i64 XF.c, .int .i64 XF.cl, .int .i64 XF.sq, .int .i64 XF.op, .string XF.k, .string XF.v, .string XF.o], .agg #[.int .i64 u.s, .int .i64 u.c, .int .i64 u.el, .int .i64 u.b, .int .i64 u.r, .int .i64 u.d]] z fun e w' => e = .returned (.bool ok) ∧ Below z.heap.size z w') := fun z hz => by
          rw [hok]
          exact stepFits_any _ _ _ _ _ _ _ _ _ _ HXs.out.1 HXs.out.2.1 HXs.out.2.2 _ _ _ _ _ _ z (HE6.out.below hz)
        rw [← hok] at HQ6
        clear hok
        go_upto_region 18 with fail
        go_cut [68] (fun s wy => s = .bool (!ok) ∧ Below w6.heap.size w6 wy)
        case first =>
          go_region_with (go_at_call 50; refine (HSF.out w6.drew (Below.refl _ _).drew).mono ?_; rintro e w7 ⟨rfl, hb7⟩; have HB7 : Hid (Below w6.heap.size w6 w7) := (Below.refl _ _).drew.trans hb7; clear hb7)
          all_goals (go_wp2_with fail; go_meet; exact ⟨rfl, HB7.out⟩)
        case rest =>
          obtain ⟨rfl, hB7⟩ := hcut
          obtain ⟨wy, hwy⟩ : ∃ wy, wy = wc := ⟨_, rfl⟩
          rw [← hwy] at hB7
          have HB7 : Hid (Below w.heap.size w wy) := HB6.out.trans (hB7.mono hz6)
          have BK7 : Hid (Blk wy b #[.int .i64 u.s, .int .i64 u.c, .int .i64 u.el, .int .i64 u.b, .int .i64 u.r, .int .i64 u.d, .slice ad nd cd, .slice av ss.length cv] 27) := BK6.out.below hB7 BK6.out.lt
          have BS7 : Hid (Blk wy q (stX XF) 48) := HBk.out.below hB7 hq6
          have HS7 : Hid (OwnG stC 10 48 wy Bs (.slice av ss.length cv) ss) := HS6.out.below hB7
          have hz7 : w6.heap.size ≤ wy.heap.size := hB7.size
          clear hB7 HB6 BK6 HBk HS6 HE6 HSF z0 z1 z2 z3 z4 z5 z6 z7 z8 z9 x0 x1 x2 x3 x4 x5
          subst hwy
          cases ok
          · obtain ⟨rfl, rfl⟩ := Prod.mk.inj (HQ6.out.trans (if_neg (by decide)))
            clear HQ6
            go_wp2
            go_ret
            exact ⟨rfl, _, _, _, BK7.out, HS7.out, Gr2.below _ _ HB7.out⟩
          · obtain ⟨rfl, rfl⟩ := Prod.mk.inj (HQ6.out.trans (if_pos rfl))
            clear HQ6
            have z0 : wy.cell? ⟨q, 0, none⟩ = some (.int .i64 qx.kd) := BS7.out.cell 0
            have z1 : wy.cell? ⟨q, 1, none⟩ = some (.int .i64 qx.a) := BS7.out.cell 1
            have z2 : wy.cell? ⟨q, 2, none⟩ = some (.int .i64 qx.b) := BS7.out.cell 2
            have z3 : wy.cell? ⟨q, 3, none⟩ = some (.int .i64 qx.c) := BS7.out.cell 3
            have z4 : wy.cell? ⟨q, 4, none⟩ = some (.int .i64 qx.cl) := BS7.out.cell 4
            have z5 : wy.cell? ⟨q, 5, none⟩ = some (.int .i64 qx.sq) := BS7.out.cell 5
            have z6 : wy.cell? ⟨q, 6, none⟩ = some (.int .i64 qx.op) := BS7.out.cell 6
            have z7 : wy.cell? ⟨q, 7, none⟩ = some (.string qx.k) := BS7.out.cell 7
            have z8 : wy.cell? ⟨q, 8, none⟩ = some (.string qx.v) := BS7.out.cell 8
            have z9 : wy.cell? ⟨q, 9, none⟩ = some (.string qx.o) := BS7.out.cell 9
            have x7 : wy.cell? ⟨b, 7, none⟩ = some (.slice av ss.length cv) := BK7.out.cell 7
            have pa : ∀ (o : Obj) (j : Nat), (wy.alloc o).cell? ⟨b, j, none⟩ = wy.cell? ⟨b, j, none⟩ := fun o j => World.cell?_alloc_lt _ _ _ (by show b < wy.heap.size; omega)
            have pa' : ∀ (o : Obj) (j : Nat), (wy.drew.alloc o).cell? ⟨b, j, none⟩ = wy.cell? ⟨b, j, none⟩ := fun o j => World.cell?_alloc_lt _ _ _ (by show b < wy.heap.size; omega)
            have hne1 : ¬ wy.heap.size = b := by omega
            have hne2 : ¬ b = wy.heap.size := by omega
            have HNO : Hid ((Value.slice av ss.length cv).ownBlock ≠ some b) := fun e => own_neBlk HS7.out BK7.out (by decide) e.symm
            have HLt : Hid (∀ j, (Value.slice av ss.length cv).ownBlock = some j → j < wy.heap.size) := fun j h => (HS7.out.lts j h).2
            go_wp2
            go_region_law
              (refine stp_appendG stpLaw rfl (.tmp 73) (.tmp 75) rfl qx (OwnG.below (OwnG.below HS7.out ((Below.refl _ _).drew)) ((Below.refl _ _).alloc (Nat.le_refl _) _)) rfl wy.heap.size 1 (range_new' wy.drew (stC qx) 48) rfl (by omega) (by simp; omega) ?_; intro v3 w3 ho3 hg3; have HO3 : Hid (OwnG stC 10 48 w3 Bs v3 (ss ++ [qx])) := ho3; obtain ⟨a2, c2, e3⟩ := ho3.shape; rw [List.length_append, List.length_singleton] at e3; subst e3; have HG3 : Hid (Grew _ (.slice av ss.length cv) w3 (.slice a2 (ss.length + 1) c2)) := hg3; have BK3 : Hid (Blk w3 b #[.int .i64 u.s, .int .i64 u.c, .int .i64 u.el, .int .i64 u.b, .int .i64 u.r, .int .i64 u.d, .slice ad nd cd, .slice av ss.length cv] 27) := (BK7.out.drew.alloc _).keep (hg3.g.block b (by simp; omega) (fun e => HNO.out e.symm)); have p7 : w3.cell? ⟨b, 7, none⟩ = some (.slice av ss.length cv) := BK3.out.cell 7; have pf := BK3.out.free; clear ho3 hg3)
            all_goals go_wp2
            all_goals go_ret
            all_goals (
              refine ⟨rfl, _, _, _, BK3.out.set 7 _, HO3.out.block (fun j e => Below.heap_setCell _ _ _ _ ?_), Gr2.app HB7.out ((Below.refl _ _).drew.alloc (Nat.le_refl _) _) HG3.out _⟩
              show j ≠ b
              rcases HG3.out.at' with e' | ⟨g, e', hg⟩
              · intro ej; rw [ej] at e; exact HNO.out (e'.symm.trans e)
              · rw [e'] at e; cases e; simp at hg; omega)

end Go.Proofs.YtanpindbhdeomaaGreatDoor
