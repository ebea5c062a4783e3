/-
  spec.l3bagCopy.
-/
import Derived.Test.YtfcmffdljfljkaaPkBagS
import Derived.Deep.RegionLaw
namespace Go.Proofs.Ytfcmffdljfljkaa
open Go.RowKit
set_option linter.unusedVariables false
set_option linter.unusedSimpArgs false

set_option maxHeartbeats 8000000 in
set_option maxRecDepth 100000 in
theorem l3bagCopy_any (n sk : Int) (a : Option Addr) (cap : Nat) (a2 : Option Addr) (cap2 : Nat) (l : List Pk) (ws : List Int) (w : World) (hv : Pks w (.slice a l.length cap) l) (hu : Ix w (.slice a2 ws.length cap2) ws) (hl : l.length ≤ 1048576) (hbl : ∀ p ∈ l, p.1.bs.length ≤ 1048576) (hw : ws.length ≤ 1048576) :
    Calls Try.prog 41 #[.agg #[.int .i64 n, .slice a l.length cap, .slice a2 ws.length cap2], .int .i64 sk] w fun e w' => ∃ va vc ua uc L, e = .returned (.agg #[.int .i64 n, .slice va L.length vc, .slice ua ws.length uc]) ∧ cont L = without sk (cont l) l.length ∧ OwnP w' w.heap.size (.slice va L.length vc) L ∧ OwnI w' w.heap.size (.slice ua ws.length uc) ws ∧ (∀ k, (Value.slice ua ws.length uc).ownBlock = some k → (Value.slice va L.length vc).ownBlock ≠ some k ∧ ∀ p ∈ L, p.2.ownBlock ≠ some k) ∧ Below w.heap.size w w' := by
  have HV : Hid (Pks w (.slice a l.length cap) l) := hv
  obtain ⟨_, _, a', cap', e, hc⟩ := hv
  injection e with e1 _ e3
  subst e1 e3
  have HC : Hid (∀ i, i < l.length → ∃ b off, a = some ⟨b, off, none⟩ ∧ ∀ j (h : j < l.length), PkAt w b (off + j * 4) l[j]) := hc
  obtain ⟨_, a2', cap2', e', hc2⟩ := hu
  injection e' with e1' _ e3'
  subst e1' e3'
  have HC2 : Hid (∀ i, i < ws.length → ∃ b off, a2 = some ⟨b, off, none⟩ ∧ ∀ j (h : j < ws.length), w.cell? ⟨b, off + j, none⟩ = some (.int .i64 ws[j])) := hc2
  clear hc hc2
  have HF : Hid (CopySt w (((w.alloc (.cells #[.int .i64 n, .slice a l.length cap, .slice a2 ws.length cap2] 29)).alloc (.cells #[.int .i64 0, .slice none 0 0, .slice none 0 0] 29)).alloc (.cells #[.int .i64 n, .slice none 0 0, .slice none 0 0] 29)) (w.heap.size + 1 + 1) #[.int .i64 n, .slice a l.length cap, .slice a2 ws.length cap2] #[.int .i64 0, .slice none 0 0, .slice none 0 0] #[.int .i64 n, .slice none 0 0, .slice none 0 0] (.slice none 0 0) []) := by
    refine ⟨((Blk.new w _ _).alloc _).alloc _, (Blk.new' (w.alloc _) _ _ (by simp)).alloc _, Blk.new' _ _ _ (by simp), by omega, OwnI.nil _ _, by simp [Value.ownBlock], (((Below.refl _ _).alloc (Nat.le_refl _) _).alloc (by simp) _).alloc (by simp; omega) _⟩
  go_enter Try.func41, Try.ntmps41
  go_wp2
  generalize (((w.alloc (.cells #[.int .i64 n, .slice a l.length cap, .slice a2 ws.length cap2] 29)).alloc (.cells #[.int .i64 0, .slice none 0 0, .slice none 0 0] 29)).alloc (.cells #[.int .i64 n, .slice none 0 0, .slice none 0 0] 29)) = W at *
  generalize w.heap.size + 1 + 1 = p at *
  go_loopw [6] (fun i wr => ∃ (k : Nat) (L : List Pk) (va : Option Addr) (vc : Nat), k ≤ l.length ∧ i = .int .i64 k ∧ cont L = without sk (cont l) k ∧ OwnP wr W.heap.size (.slice va L.length vc) L ∧ Blk wr p #[.int .i64 n, .slice va L.length vc, .slice none 0 0] 29 ∧ W.grownBy wr (some p)) (fun i _ => l.length - (intOf i).toNat)
  case atStart => exact ⟨0, [], none, 0, Nat.zero_le _, rfl, rfl, OwnP.nil _ _, HF.out.own, ⟨rfl, rfl, rfl, Nat.le_refl _, fun _ _ _ => rfl⟩⟩
  case round =>
    obtain ⟨k, L, va, vc, hk, rfl, hcL, hO, hP, hG⟩ := hrel
    have hLk : L.length ≤ k := by rw [← cont_len L, hcL]; exact without_len _ _ _
    have hsz := hG.size
    have hpW := HF.out.own.lt
    have hlo := HF.out.lo
    have HG : Hid (W.grownBy wr (some p)) := hG
    have HO : Hid (OwnP wr W.heap.size (.slice va L.length vc) L) := hO
    have HP : Hid (Blk wr p #[.int .i64 n, .slice va L.length vc, .slice none 0 0] 29) := hP
    have HLK : Hid (L.length ≤ k) := hLk
    have HCL : Hid (cont L = without sk (cont l) k) := hcL
    have HB : Hid (Below w.heap.size w wr) := ⟨hG.os.trans HF.out.below.os, hG.tape.trans HF.out.below.tape, hG.output.trans HF.out.below.output, Nat.le_trans HF.out.below.size hG.size, fun j hj => (hG.block j (Nat.lt_of_lt_of_le hj HF.out.below.size) (by intro e; injection e with e; omega)).trans (HF.out.below.block j hj)⟩
    have bR : Hid (Blk wr (w.heap.size + 1) #[.int .i64 0, .slice none 0 0, .slice none 0 0] 29) := HF.out.res.keep (hG.block _ HF.out.res.lt (by intro e; injection e with e; omega))
    have bX : Hid (Blk wr w.heap.size #[.int .i64 n, .slice a l.length cap, .slice a2 ws.length cap2] 29) := HF.out.box.keep (hG.block _ HF.out.box.lt (by intro e; injection e with e; omega))
    have hpw : p < wr.heap.size := by omega
    have cP := hP.cell
    have cP0 := cP 0
    have cP1 := cP 1
    have cP2 := cP 2
    have cX := bX.out.cell
    have cX0 := cX 0
    have cX1 := cX 1
    have cX2 := cX 2
    simp at cP0 cP1 cP2 cX0 cX1 cX2
    have fP := hP.free
    have hwr : w.heap.size < wr.heap.size := by omega
    clear hG hO hP hcL cP cX hLk
    by_cases hlt : k < l.length
    · have HT : Hid (without sk (cont l) (k + 1) = without sk (cont l) k ++ (if (k : Int) = sk then [] else [l[k].1])) := by
        show _ = _
        rw [without]
        congr 2
        simp [cont, hlt]
      by_cases hks : (k : Int) = sk
      · rw [if_pos hks, List.append_nil] at HT
        go_wp2
        go_roundw
        case rel => exact ⟨k + 1, L, va, vc, by omega, by go_num, by rw [HT.out]; exact HCL.out, HO.out, HP.out, HG.out⟩
        case measure => simp [intOf]; omega
      rw [if_neg hks] at HT
      obtain ⟨b, off, rfl, hj⟩ := HC.out k hlt
      obtain ⟨c0, c1, c2, c3⟩ := (hj k hlt).below HB.out
      have hbw : b < w.heap.size := cell_lt (hj k hlt).1
      have hbs0 : Bs wr l[k].2 l[k].1.bs := (HV.out.bs k hlt).below HB.out
      obtain ⟨a4, cap4, e4⟩ := hbs0.sh
      rw [e4] at c3 hbs0
      have hbk := hbl _ (List.getElem_mem hlt)
      have HBS : Hid (Bs wr (.slice a4 l[k].1.bs.length cap4) l[k].1.bs) := hbs0
      clear hj e4 hbs0
      generalize l[k].1 = q at *
      have HNP : Hid ((Value.slice va L.length vc).ownBlock ≠ some p) := fun e => by have := (World.ownsRow.lt HO.out.row _ e).1; omega
      have HNB : Hid (∀ j, j < w.heap.size + 1 → (Value.slice va L.length vc).ownBlock ≠ some j) := fun j hj e => by have := (World.ownsRow.lt HO.out.row _ e).1; omega
      have hnb : ¬ b = p := by omega
      have hnb' : ¬ w.heap.size = p := by omega
      go_wp2
      go_region_law
        (first
          | (refine stp_call (N := 79) rfl rfl (fun _ _ => by go_simp) #[.agg #[.int .i64 q.id, .int .i64 q.fr, .int .i64 q.tq, .slice a4 q.bs.length cap4]] (by first | rfl | simp [Act.eval]) ?_; refine (l3packetCopy_any _ _ _ _ _ q.bs _ (HBS.out.below (Below.refl _ _).drew) hbk).mono ?_; rintro r w2 ⟨a7, cap7, rfl, ho2, hb2⟩; refine ⟨_, rfl, ?_⟩; have hz2 := hb2.size; simp at hz2; have s0 : w2.cell? ⟨w.heap.size, 1, none⟩ = some (.slice (some ⟨b, off, none⟩) l.length cap) := (hb2.cell (p := ⟨w.heap.size, 1, none⟩) (by simp <;> omega)).trans (by simp [go_sem, *]); have s1 : w2.cell? ⟨b, off + k * 4, none⟩ = some (.int .i64 q.id) := (hb2.cell (p := ⟨b, off + k * 4, none⟩) (by simp <;> omega)).trans (by simp [go_sem, *]); have s2 : w2.cell? ⟨b, off + k * 4 + 1, none⟩ = some (.int .i64 q.fr) := (hb2.cell (p := ⟨b, off + k * 4 + 1, none⟩) (by simp <;> omega)).trans (by simp [go_sem, *]); have s3 : w2.cell? ⟨b, off + k * 4 + 2, none⟩ = some (.int .i64 q.tq) := (hb2.cell (p := ⟨b, off + k * 4 + 2, none⟩) (by simp <;> omega)).trans (by simp [go_sem, *]); have s4 : w2.cell? ⟨b, off + k * 4 + 3, none⟩ = some (.slice a4 q.bs.length cap4) := (hb2.cell (p := ⟨b, off + k * 4 + 3, none⟩) (by simp <;> omega)).trans (by simp [go_sem, *]); have s5 : w2.cell? ⟨p, 1, none⟩ = some (.slice va L.length vc) := (hb2.cell (p := ⟨p, 1, none⟩) (by simp <;> omega)).trans (by simp [go_sem, *]); have sa : ∀ (o : Obj) (bb j : Nat), bb < wr.heap.size → (w2.alloc o).cell? ⟨bb, j, none⟩ = w2.cell? ⟨bb, j, none⟩ := fun o bb j h => World.cell?_alloc_lt _ _ _ (by show bb < w2.heap.size; omega); have sa0 : ∀ (o : Obj), (w2.alloc o).cell? ⟨w.heap.size, 1, none⟩ = w2.cell? ⟨w.heap.size, 1, none⟩ := fun o => sa o _ _ (by omega); have sa1 : ∀ (o : Obj), (w2.alloc o).cell? ⟨b, off + k * 4, none⟩ = w2.cell? ⟨b, off + k * 4, none⟩ := fun o => sa o _ _ (by omega); have sa2 : ∀ (o : Obj), (w2.alloc o).cell? ⟨b, off + k * 4 + 1, none⟩ = w2.cell? ⟨b, off + k * 4 + 1, none⟩ := fun o => sa o _ _ (by omega); have sa3 : ∀ (o : Obj), (w2.alloc o).cell? ⟨b, off + k * 4 + 2, none⟩ = w2.cell? ⟨b, off + k * 4 + 2, none⟩ := fun o => sa o _ _ (by omega); have sa4 : ∀ (o : Obj), (w2.alloc o).cell? ⟨b, off + k * 4 + 3, none⟩ = w2.cell? ⟨b, off + k * 4 + 3, none⟩ := fun o => sa o _ _ (by omega); have sa5 : ∀ (o : Obj), (w2.alloc o).cell? ⟨p, 1, none⟩ = w2.cell? ⟨p, 1, none⟩ := fun o => sa o _ _ (by omega); have HO2 : Hid (Own w2 _ (.slice a7 q.bs.length cap7) q.bs) := ho2; have HB2 : Hid (Below _ _ w2) := hb2; clear ho2 hb2 sa)
          | (refine stp_appendP rfl (.tmp 22) (.tmp 29) rfl (q, Value.slice a7 q.bs.length cap7) (l := L) (B := W.heap.size) (N := wr.heap.size) ((HO.out.below ((Below.refl _ _).drew.trans HB2.out)).below ((Below.refl _ _).alloc (Nat.le_refl _) _)) rfl w2.heap.size 1 (pkAt_new _ _ _ _ _ _) rfl (HO2.out.below ((Below.refl _ _).alloc (Nat.le_refl _) _)) (by show q.bs.length ≤ maxLen; unfold maxLen; omega) (by omega) HO.out.lts rfl (by have := HLK.out; omega) (by simp; omega) ?_; intro v3 w3 ho3 hg3; obtain ⟨a5, cap5, rfl⟩ := ho3.shape; have t0 : w3.cell? ⟨w.heap.size, 1, none⟩ = some (.slice (some ⟨b, off, none⟩) l.length cap) := (hg3.cell (by simp <;> omega) (HNB.out _ (by omega))).trans (by simp [go_sem, *]); have t1 : w3.cell? ⟨b, off + k * 4, none⟩ = some (.int .i64 q.id) := (hg3.cell (by simp <;> omega) (HNB.out _ (by omega))).trans (by simp [go_sem, *]); have t2 : w3.cell? ⟨b, off + k * 4 + 1, none⟩ = some (.int .i64 q.fr) := (hg3.cell (by simp <;> omega) (HNB.out _ (by omega))).trans (by simp [go_sem, *]); have t3 : w3.cell? ⟨b, off + k * 4 + 2, none⟩ = some (.int .i64 q.tq) := (hg3.cell (by simp <;> omega) (HNB.out _ (by omega))).trans (by simp [go_sem, *]); have t4 : w3.cell? ⟨b, off + k * 4 + 3, none⟩ = some (.slice a4 q.bs.length cap4) := (hg3.cell (by simp <;> omega) (HNB.out _ (by omega))).trans (by simp [go_sem, *]); have t5 : w3.cell? ⟨p, 1, none⟩ = some (.slice va L.length vc) := (hg3.cell (by simp <;> omega) HNP.out).trans (by simp [go_sem, *]); have HP3 : Hid (Blk w3 p #[.int .i64 n, .slice va L.length vc, .slice none 0 0] 29) := ((HP.out.drew.below HB2.out hpw).alloc _).grewP hg3 HNP.out; have tpf : ∀ j, w3.frozen? ⟨p, j, none⟩ = false := HP3.out.free; have HO3 : Hid (OwnP w3 W.heap.size (.slice a5 (L ++ [(q, Value.slice a7 q.bs.length cap7)]).length cap5) (L ++ [(q, Value.slice a7 q.bs.length cap7)])) := ho3; have HG3 : Hid (Grew _ (.slice va L.length vc) w3 _) := hg3; clear ho3 hg3))
      all_goals go_wp2
      all_goals (
        go_roundw
        case rel =>
          refine ⟨k + 1, L ++ [(q, Value.slice a7 q.bs.length cap7)], a5, cap5, by omega, by go_num, by rw [HT.out, ← HCL.out]; simp [cont], HO3.out.keep (fun j h1 _ => Below.heap_setCell _ _ _ _ (by simp only []; omega)), by rw [List.length_append]; exact HP3.out.set 1 _, ?_⟩
          exact grown_round HG.out ((((Below.refl _ _).drew.trans HB2.out)).alloc HB2.out.size _) HG3.out (fun k' e' => (World.ownsRow.lt HO.out.row k' e').1) 1 _
        case measure => simp [intOf]; omega)
    · obtain rfl : k = l.length := by omega
      go_wp2
      obtain ⟨W1, hW1⟩ : ∃ W1 : World, W1 = wr := ⟨wr, rfl⟩
      subst hW1
      clear cP0 cP1 cP2 fP cX0 cX1 cX2
      go_loopw [7] (fun i wr2 => ∃ (k : Nat) (ua : Option Addr) (uc : Nat), k ≤ ws.length ∧ i = .int .i64 k ∧ OwnI wr2 W1.heap.size (.slice ua k uc) (ws.take k) ∧ Blk wr2 p #[.int .i64 n, .slice va L.length vc, .slice ua k uc] 29 ∧ W1.grownBy wr2 (some p)) (fun i _ => ws.length - (intOf i).toNat)
      case atStart => exact ⟨0, none, 0, Nat.zero_le _, rfl, OwnI.nil _ _, HP.out, ⟨rfl, rfl, rfl, Nat.le_refl _, fun _ _ _ => rfl⟩⟩
      case round =>
        obtain ⟨k, ua, uc, hk2, rfl, hI, hP2, hG2⟩ := hrel
        have hsz2 := hG2.size
        have HG2 : Hid (W1.grownBy wr (some p)) := hG2
        have HI : Hid (OwnI wr W1.heap.size (.slice ua k uc) (ws.take k)) := hI
        have HP2 : Hid (Blk wr p #[.int .i64 n, .slice va L.length vc, .slice ua k uc] 29) := hP2
        have HB2 : Hid (Below w.heap.size w wr) := ⟨hG2.os.trans HB.out.os, hG2.tape.trans HB.out.tape, hG2.output.trans HB.out.output, Nat.le_trans HB.out.size hG2.size, fun j hj => (hG2.block j (Nat.lt_of_lt_of_le hj HB.out.size) (by intro e; injection e with e; omega)).trans (HB.out.block j hj)⟩
        have bR2 : Hid (Blk wr (w.heap.size + 1) #[.int .i64 0, .slice none 0 0, .slice none 0 0] 29) := bR.out.keep (hG2.block _ bR.out.lt (by intro e; injection e with e; omega))
        have bX2 : Hid (Blk wr w.heap.size #[.int .i64 n, .slice a l.length cap, .slice a2 ws.length cap2] 29) := bX.out.keep (hG2.block _ bX.out.lt (by intro e; injection e with e; omega))
        have cP0 : wr.cell? ⟨p, 0, none⟩ = some (.int .i64 n) := hP2.cell 0
        have cP1 : wr.cell? ⟨p, 1, none⟩ = some (.slice va L.length vc) := hP2.cell 1
        have cP2 : wr.cell? ⟨p, 2, none⟩ = some (.slice ua k uc) := hP2.cell 2
        have cX2 : wr.cell? ⟨w.heap.size, 2, none⟩ = some (.slice a2 ws.length cap2) := bX2.out.cell 2
        have fP := hP2.free
        have hpw2 : p < wr.heap.size := by omega
        have hlk : (ws.take k).length = k := by rw [List.length_take]; omega
        clear hG2 hI hP2
        by_cases hlt2 : k < ws.length
        · obtain ⟨b, off, rfl, hj⟩ := HC2.out k hlt2
          have e0 : wr.cell? ⟨b, off + k, none⟩ = some (.int .i64 ws[k]) := (HB2.out.cell (p := ⟨b, off + k, none⟩) (cell_lt (hj k hlt2))).trans (hj k hlt2)
          have hbw : b < w.heap.size := cell_lt (hj k hlt2)
          have HT : Hid (ws.take (k + 1) = ws.take k ++ [ws[k]]) := List.take_succ_eq_append_getElem hlt2
          have HLK : Hid ((ws.take k).length = k) := hlk
          clear hj hlk
          generalize ws[k] = y at *
          have HNP : Hid ((Value.slice ua k uc).ownBlock ≠ some p) := fun e => by have := (World.ownsRow.lt HI.out _ e).1; omega
          have HNB : Hid (∀ j, j < w.heap.size + 1 → (Value.slice ua k uc).ownBlock ≠ some j) := fun j hj e => by have := (World.ownsRow.lt HI.out _ e).1; omega
          have hnb : ¬ b = p := by omega
          have hnb' : ¬ w.heap.size = p := by omega
          have ua0 : ∀ (o : Obj), (wr.alloc o).cell? ⟨b, off + k, none⟩ = wr.cell? ⟨b, off + k, none⟩ := fun o => World.cell?_alloc_lt _ _ _ (by show b < wr.heap.size; omega)
          have ua1 : ∀ (o : Obj), (wr.alloc o).cell? ⟨w.heap.size, 2, none⟩ = wr.cell? ⟨w.heap.size, 2, none⟩ := fun o => World.cell?_alloc_lt _ _ _ (by show w.heap.size < wr.heap.size; omega)
          have ua2 : ∀ (o : Obj), (wr.alloc o).cell? ⟨p, 2, none⟩ = wr.cell? ⟨p, 2, none⟩ := fun o => World.cell?_alloc_lt _ _ _ (by show p < wr.heap.size; omega)
          go_wp2
          go_region_law
            (first
              | (refine stp_appendI rfl (.tmp 40) (.tmp 46) rfl y (l := ws.take k) (B := W1.heap.size) (HI.out.below ((Below.refl _ _).drew.alloc (Nat.le_refl _) _)) rfl wr.heap.size 1 (by simp) rfl (by have := HLK.out; omega) (by simp; omega) ?_; intro v3 w3 ho3 hg3; obtain ⟨a5, cap5, rfl⟩ := ho3.shape; have t0 : w3.cell? ⟨w.heap.size, 2, none⟩ = some (.slice (some ⟨b, off, none⟩) ws.length cap2) := (hg3.cell (by simp <;> omega) (HNB.out _ (by omega))).trans (by simp [go_sem, *]); have t1 : w3.cell? ⟨b, off + k, none⟩ = some (.int .i64 y) := (hg3.cell (by simp <;> omega) (HNB.out _ (by omega))).trans (by simp [go_sem, *]); have HP3 : Hid (Blk w3 p #[.int .i64 n, .slice va L.length vc, .slice ua k uc] 29) := (HP2.out.drew.alloc _).grewP hg3 HNP.out; have tpf : ∀ j, w3.frozen? ⟨p, j, none⟩ = false := HP3.out.free; have tp2 : w3.cell? ⟨p, 2, none⟩ = some (.slice ua k uc) := HP3.out.cell 2; have HO3 : Hid (OwnI w3 W1.heap.size (.slice a5 (ws.take k ++ [y]).length cap5) (ws.take k ++ [y])) := ho3; have HG3 : Hid (Grew _ (.slice ua k uc) w3 _) := hg3; clear ho3 hg3))
          all_goals go_wp2
          all_goals (
            go_roundw
            case rel =>
              have hl1 : (ws.take k ++ [y]).length = k + 1 := by rw [List.length_append, HLK.out]; rfl
              have h1 := HO3.out
              rw [hl1] at h1
              refine ⟨k + 1, a5, cap5, by omega, by go_num, by rw [HT.out]; exact h1.keep (fun j h1 _ => Below.heap_setCell _ _ _ _ (by simp only []; omega)), ?_, ?_⟩
              · have h2 := HP3.out.set 2 (.slice a5 (ws.take k ++ [y]).length cap5)
                rw [hl1] at h2
                simpa [hl1, HLK.out] using h2
              · exact grown_round HG2.out ((Below.refl _ _).drew.alloc (Nat.le_refl _) _) HG3.out (fun k' e' => (World.ownsRow.lt HI.out k' e').1) 2 _
            case measure => simp [intOf]; omega)
        · obtain rfl : k = ws.length := by omega
          have cR0 : wr.cell? ⟨w.heap.size + 1, 0, none⟩ = some (.int .i64 0) := bR2.out.cell 0
          have cR1 : wr.cell? ⟨w.heap.size + 1, 1, none⟩ = some (.slice none 0 0) := bR2.out.cell 1
          have cR2 : wr.cell? ⟨w.heap.size + 1, 2, none⟩ = some (.slice none 0 0) := bR2.out.cell 2
          have fR := bR2.out.free
          have hp1 : ¬ w.heap.size + 1 = p := by omega
          have hI := HI.out
          rw [List.take_length] at hI
          have hO2 : OwnP wr W.heap.size (.slice va L.length vc) L := HO.out.keep fun j h1 h2 => HG2.out.block j h2 (by intro e; injection e with e; omega)
          have HI' : Hid (OwnI wr W1.heap.size (.slice ua ws.length uc) ws) := hI
          have HO2 : Hid (OwnP wr W.heap.size (.slice va L.length vc) L) := hO2
          clear hI hO2
          go_wp2
          refine bodyPost_ret (v := .agg #[.int .i64 n, .slice va L.length vc, .slice ua ws.length uc]) (by simp [results, Try.results41, go_sem, *]) rfl ⟨va, vc, ua, uc, L, rfl, HCL.out, ?_, ?_, ?_, ?_⟩
          · have h3 := HF.out.below.size
            exact (HO2.out.keep (w' := _) fun j h1 _ => (by rw [Below.heap_setCell _ _ _ _ (by simp only []; omega), Below.heap_setCell _ _ _ _ (by simp only []; omega), Below.heap_setCell _ _ _ _ (by simp only []; omega)])).le h3
          · exact (HI'.out.keep (w' := _) fun j h1 _ => (by rw [Below.heap_setCell _ _ _ _ (by simp only []; omega), Below.heap_setCell _ _ _ _ (by simp only []; omega), Below.heap_setCell _ _ _ _ (by simp only []; omega)])).le (by omega)
          · intro k' e'
            have hk' := (World.ownsRow.lt HI'.out k' e').1
            refine ⟨fun e => ?_, fun p' hp' e => ?_⟩
            · have := HO.out.lts.1 k' e; omega
            · have := HO.out.lts.2 p' hp' k' e; omega
          · exact ((HB2.out.setCell (Nat.le_succ _) _).setCell (Nat.le_succ _) _).setCell (Nat.le_succ _) _
end Go.Proofs.Ytfcmffdljfljkaa
