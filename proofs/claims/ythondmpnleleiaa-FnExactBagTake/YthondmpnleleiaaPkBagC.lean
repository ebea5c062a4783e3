/-
  impl.copyBag.
-/
import Derived.Test.YthondmpnleleiaaPkCopy
import Derived.Test.YthondmpnleleiaaPkBag
import Derived.Test.YthondmpnleleiaaBlk
import Derived.Deep.RegionHeld3
import Derived.Deep.RegionLaw
namespace Go.Proofs.Ythondmpnleleiaa
open Go.RowKit
set_option linter.unusedVariables false
set_option linter.unusedSimpArgs false

/-- a bag under way: the box, the result, the new bag in block p -/
structure CopySt (w W : World) (p : Nat) (C R O : Array Value) (u : Value) (ws : List Int) : Prop where
  box : Blk W w.heap.size C 29
  res : Blk W (w.heap.size + 1) R 29
  own : Blk W p O 29
  lo : w.heap.size + 2 ≤ p
  ints : OwnI W (w.heap.size + 2) u ws
  ne : u.ownBlock ≠ some p
  below : Below w.heap.size w W
theorem pkAt_new (w : World) (i f t : Int) (bs : List Int) (v : Value) : PkAt (w.alloc (.cells #[.int .i64 i, .int .i64 f, .int .i64 t, v] 48)) w.heap.size 0 (⟨i, f, t, bs⟩, v) := by
  refine ⟨?_, ?_, ?_, ?_⟩ <;> simp
theorem Blk.grewP {w w' : World} {v v' : Value} {b : Nat} {C : Array Value} {t : TypeId} (h : Blk w b C t) (hg : Grew w v w' v') (hne : v.ownBlock ≠ some b) : Blk w' b C t := h.keep (hg.block h.lt hne)

theorem grown_round {W wr w2 w3 : World} {p : Nat} {v v' : Value} (hG : W.grownBy wr (some p)) (h1 : Below wr.heap.size wr w2) (hg : Grew w2 v w3 v') (hv : ∀ k, v.ownBlock = some k → W.heap.size ≤ k) (o : Nat) (x : Value) : W.grownBy (w3.setCell ⟨p, o, none⟩ x) (some p) := by
  have hs := hG.size
  have hs1 := h1.size
  have hs2 := hg.g.size
  refine ⟨hg.g.os.trans (h1.os.trans hG.os), hg.g.tape.trans (h1.tape.trans hG.tape), hg.g.output.trans (h1.output.trans hG.output), by simp [World.setCell]; omega, fun j hj hne => ?_⟩
  rw [Below.heap_setCell _ _ _ _ (fun e => hne (by simp only [] at e; rw [e])), hg.block (by omega) (fun e => by have := hv j e; omega), h1.block j (by omega), hG.block j hj hne]

set_option maxHeartbeats 4000000 in
set_option maxRecDepth 100000 in
theorem copyBag_any (n : Int) (a : Option Addr) (cap : Nat) (a2 : Option Addr) (cap2 : Nat) (l : List Pk) (ws : List Int) (w : World) (hv : Pks w (.slice a l.length cap) l) (hu : Ix w (.slice a2 ws.length cap2) ws) (hl : l.length ≤ 1048576) (hbl : ∀ p ∈ l, p.1.bs.length ≤ 1048576) (hw : ws.length ≤ 1048576) :
    Calls Try.prog 39 #[.agg #[.int .i64 n, .slice a l.length cap, .slice a2 ws.length cap2]] w fun e w' => ∃ v u L, e = .returned (.agg #[.int .i64 n, v, u]) ∧ cont L = cont l ∧ OwnP w' w.heap.size v L ∧ OwnI w' w.heap.size u ws ∧ (∀ k, u.ownBlock = some k → v.ownBlock ≠ some k ∧ ∀ p ∈ L, p.2.ownBlock ≠ some k) ∧ Below w.heap.size w w' := by
  have HU : Hid (∀ w', Below w.heap.size w w' → Calls Try.prog 70 #[.slice a2 ws.length cap2] w' fun e w'' => ∃ v', e = .returned v' ∧ OwnI w'' w'.heap.size v' ws ∧ Below w'.heap.size w' w'') := fun w' hb => cloneI_any _ ws w' (hu.below hb) hw
  have HV : Hid (Pks w (.slice a l.length cap) l) := hv
  obtain ⟨_, _, a', cap', e, hc⟩ := hv
  injection e with e1 _ e3
  subst e1 e3
  have HC : Hid (∀ i, i < l.length → ∃ b off, a = some ⟨b, off, none⟩ ∧ ∀ j (h : j < l.length), PkAt w b (off + j * 4) l[j]) := hc
  clear hc hu
  have hb0 : Hid (Below w.heap.size w (((w.alloc (.cells #[.int .i64 n, .slice a l.length cap, .slice a2 ws.length cap2] 29)).alloc (.cells #[.int .i64 0, .slice none 0 0, .slice none 0 0] 29)))) := ((Below.refl _ _).alloc (Nat.le_refl _) _).alloc (by simp) _
  go_enter Try.func39, Try.ntmps39
  go_wp2
  go_region_held3 (fun w' => w'.cell? ⟨w.heap.size, 0, none⟩ = some (.int .i64 n) ∧ w'.cell? ⟨w.heap.size, 1, none⟩ = some (.slice a l.length cap) ∧ w'.cell? ⟨w.heap.size, 2, none⟩ = some (.slice a2 ws.length cap2)) (simp [*, go_sem])
    (first
      | (go_at_call 70; refine (HU.out _ (hb0.out.drew.alloc (by simp; omega) _)).mono ?_; rintro r w1 ⟨u, rfl, ho1, hb1⟩; obtain ⟨a3, cap3, rfl⟩ := ho1.shape; have hz1 := hb1.size; simp at hz1; have q0 : w1.cell? ⟨w.heap.size, 0, none⟩ = some (.int .i64 n) := (hb1.cell (p := ⟨w.heap.size, 0, none⟩) (by simp; omega)).trans (by simp [go_sem]); have q1 : w1.cell? ⟨w.heap.size, 1, none⟩ = some (.slice a l.length cap) := (hb1.cell (p := ⟨w.heap.size, 1, none⟩) (by simp; omega)).trans (by simp [go_sem]); have q2 : w1.cell? ⟨w.heap.size, 2, none⟩ = some (.slice a2 ws.length cap2) := (hb1.cell (p := ⟨w.heap.size, 2, none⟩) (by simp; omega)).trans (by simp [go_sem]); have qa : ∀ (o : Obj) (j : Nat), (w1.alloc o).cell? ⟨w.heap.size, j, none⟩ = w1.cell? ⟨w.heap.size, j, none⟩ := fun o j => World.cell?_alloc_lt _ _ _ (by show w.heap.size < w1.heap.size; omega); have r0 : w1.cell? ⟨w.heap.size + 1 + 1, 0, none⟩ = some (.int .i64 0) := (hb1.cell (p := ⟨w.heap.size + 1 + 1, 0, none⟩) (by simp)).trans (by simp [go_sem]); have r1 : w1.cell? ⟨w.heap.size + 1 + 1, 1, none⟩ = some (.slice none 0 0) := (hb1.cell (p := ⟨w.heap.size + 1 + 1, 1, none⟩) (by simp)).trans (by simp [go_sem]); have r2 : w1.cell? ⟨w.heap.size + 1 + 1, 2, none⟩ = some (.slice none 0 0) := (hb1.cell (p := ⟨w.heap.size + 1 + 1, 2, none⟩) (by simp)).trans (by simp [go_sem]); have rz : ∀ j, w1.frozen? ⟨w.heap.size + 1 + 1, j, none⟩ = false := fun j => (hb1.frozen (p := ⟨w.heap.size + 1 + 1, j, none⟩) (by simp)).trans (by simp [go_sem]); have HO1 : Hid (OwnI w1 _ (.slice a3 ws.length cap3) ws) := ho1; have HB1 : Hid (Below _ _ w1) := hb1; clear ho1 hb1)
      | (go_at_call 70; refine (HU.out _ hb0.out.drew).mono ?_; rintro r w1 ⟨u, rfl, ho1, hb1⟩; obtain ⟨a3, cap3, rfl⟩ := ho1.shape; have hz1 := hb1.size; simp at hz1; have q0 : w1.cell? ⟨w.heap.size, 0, none⟩ = some (.int .i64 n) := (hb1.cell (p := ⟨w.heap.size, 0, none⟩) (by simp; omega)).trans (by simp [go_sem]); have q1 : w1.cell? ⟨w.heap.size, 1, none⟩ = some (.slice a l.length cap) := (hb1.cell (p := ⟨w.heap.size, 1, none⟩) (by simp; omega)).trans (by simp [go_sem]); have q2 : w1.cell? ⟨w.heap.size, 2, none⟩ = some (.slice a2 ws.length cap2) := (hb1.cell (p := ⟨w.heap.size, 2, none⟩) (by simp; omega)).trans (by simp [go_sem]); have qa : ∀ (o : Obj) (j : Nat), (w1.alloc o).cell? ⟨w.heap.size, j, none⟩ = w1.cell? ⟨w.heap.size, j, none⟩ := fun o j => World.cell?_alloc_lt _ _ _ (by show w.heap.size < w1.heap.size; omega); have HO1 : Hid (OwnI w1 _ (.slice a3 ws.length cap3) ws) := ho1; have HB1 : Hid (Below _ _ w1) := hb1; clear ho1 hb1))
  · have HF : Hid (CopySt w (w1.alloc (.cells #[.int .i64 n, .slice none 0 0, .slice a3 ws.length cap3] 29)) w1.heap.size #[.int .i64 n, .slice a l.length cap, .slice a2 ws.length cap2] #[.int .i64 0, .slice none 0 0, .slice none 0 0] #[.int .i64 n, .slice none 0 0, .slice a3 ws.length cap3] (.slice a3 ws.length cap3) ws) := by
      have hb1 := HB1.out
      refine ⟨Blk.alloc (((Blk.new w _ _).alloc _).drew.below hb1 (by simp; omega)) _, Blk.alloc ((Blk.new' (w.alloc _) _ _ (by simp)).drew.below hb1 (by simp)) _, Blk.new _ _ _, by omega, (HO1.out.le (by simp)).below ((Below.refl _ _).alloc (Nat.le_refl _) _), fun e => by have := (World.ownsRow.lt HO1.out _ e).2; omega, (hb0.out.drew.trans (hb1.mono (by simp; omega))).alloc (by omega) _⟩
    clear q0 q1 q2 qa HO1 HB1
    have hb' := HF.out.box.cell
    have q0 := hb' 0
    have q1 := hb' 1
    have q2 := hb' 2
    simp only [List.getElem?_toArray, List.getElem?_cons_zero, List.getElem?_cons_succ] at q0 q1 q2
    clear hb'
    generalize w1.alloc (.cells #[.int .i64 n, .slice none 0 0, .slice a3 ws.length cap3] 29) = W at *
    generalize w1.heap.size = p at *
    go_wp2
    go_loopw [15] (fun i wr => ∃ (k : Nat) (L : List Pk) (va : Option Addr) (vc : Nat), k ≤ l.length ∧ i = .int .i64 k ∧ L.length = k ∧ cont L = cont (l.take k) ∧ OwnP wr W.heap.size (.slice va L.length vc) L ∧ Blk wr p #[.int .i64 n, .slice va L.length vc, .slice a3 ws.length cap3] 29 ∧ W.grownBy wr (some p)) (fun i _ => l.length - (intOf i).toNat)
    case atStart => exact ⟨0, [], none, 0, Nat.zero_le _, rfl, rfl, rfl, OwnP.nil _ _, HF.out.own, ⟨rfl, rfl, rfl, Nat.le_refl _, fun _ _ _ => rfl⟩⟩
    case round =>
      obtain ⟨k, L, va, vc, hk, rfl, hLk, hcL, hO, hP, hG⟩ := hrel
      have hsz := hG.size
      have hpW := HF.out.own.lt
      have hlo := HF.out.lo
      have HG : Hid (W.grownBy wr (some p)) := hG
      have HO : Hid (OwnP wr W.heap.size (.slice va L.length vc) L) := hO
      have HP : Hid (Blk wr p #[.int .i64 n, .slice va L.length vc, .slice a3 ws.length cap3] 29) := hP
      have HLK : Hid (L.length = k) := hLk
      have HCL : Hid (cont L = cont (l.take k)) := hcL
      have HB : Hid (Below w.heap.size w wr) := ⟨hG.os.trans HF.out.below.os, hG.tape.trans HF.out.below.tape, hG.output.trans HF.out.below.output, Nat.le_trans HF.out.below.size hG.size, fun j hj => (hG.block j (Nat.lt_of_lt_of_le hj HF.out.below.size) (by intro e; injection e with e; omega)).trans (HF.out.below.block j hj)⟩
      have bR : Hid (Blk wr (w.heap.size + 1) #[.int .i64 0, .slice none 0 0, .slice none 0 0] 29) := HF.out.res.keep (hG.block _ HF.out.res.lt (by intro e; injection e with e; omega))
      have hpw : p < wr.heap.size := by omega
      have cP := hP.cell
      have cP0 := cP 0
      have cP1 := cP 1
      have cP2 := cP 2
      simp at cP0 cP1 cP2
      have fP := hP.free
      clear hG hO hP hcL cP
      by_cases hlt : k < l.length
      · obtain ⟨b, off, rfl, hj⟩ := HC.out k hlt
        obtain ⟨c0, c1, c2, c3⟩ := (hj k hlt).below HB.out
        have hbs0 : Bs wr l[k].2 l[k].1.bs := (HV.out.bs k hlt).below HB.out
        obtain ⟨a4, cap4, e4⟩ := hbs0.sh
        rw [e4] at c3 hbs0
        have hbk := hbl _ (List.getElem_mem hlt)
        have HBS : Hid (Bs wr (.slice a4 l[k].1.bs.length cap4) l[k].1.bs) := hbs0
        have HT : Hid (cont (l.take (k + 1)) = cont (l.take k) ++ [l[k].1]) := by
          show _ = _
          rw [List.take_succ_eq_append_getElem hlt]; simp only [cont, List.map_append, List.map_cons, List.map_nil]
        clear hj e4 hbs0 hLk
        generalize l[k].1 = q at *
        have pa : ∀ (o : Obj) (j : Nat), (wr.alloc o).cell? ⟨p, j, none⟩ = wr.cell? ⟨p, j, none⟩ := fun o j => World.cell?_alloc_lt _ _ _ (by show p < wr.heap.size; omega)
        have hne1 : ¬ wr.heap.size = p := by omega
        have HNE : Hid ((Value.slice va L.length vc).ownBlock ≠ some wr.heap.size) := fun e => by have := HO.out.lts.1 _ e; omega
        have HNP : Hid ((Value.slice va L.length vc).ownBlock ≠ some p) := fun e => by have := (World.ownsRow.lt HO.out.row _ e).1; omega
        have hne2 : ¬ p = wr.heap.size := by omega
        go_wp2
        go_region_law
          (first
            | (refine stp_call (N := 51) rfl rfl (fun _ _ => by go_simp) #[.agg #[.int .i64 q.id, .int .i64 q.fr, .int .i64 q.to, .slice a4 q.bs.length cap4]] (by first | rfl | simp [Act.eval]) ?_; refine (copyPacket_any _ _ _ _ q.bs _ (HBS.out.below (((Below.refl _ _).alloc (Nat.le_refl _) _).drew)) hbk).mono ?_; rintro r w2 ⟨a7, cap7, rfl, ho2, hb2⟩; refine ⟨_, rfl, ?_⟩; have hz2 := hb2.size; simp at hz2; have s0 : w2.cell? ⟨wr.heap.size, 0, none⟩ = some (.int .i64 q.id) := (hb2.cell (p := ⟨wr.heap.size, 0, none⟩) (by simp)).trans (by simp [go_sem]); have s1 : w2.cell? ⟨wr.heap.size, 1, none⟩ = some (.int .i64 q.fr) := (hb2.cell (p := ⟨wr.heap.size, 1, none⟩) (by simp)).trans (by simp [go_sem]); have s2 : w2.cell? ⟨wr.heap.size, 2, none⟩ = some (.int .i64 q.to) := (hb2.cell (p := ⟨wr.heap.size, 2, none⟩) (by simp)).trans (by simp [go_sem]); have s3 : w2.cell? ⟨wr.heap.size, 3, none⟩ = some (.slice a4 q.bs.length cap4) := (hb2.cell (p := ⟨wr.heap.size, 3, none⟩) (by simp)).trans (by simp [go_sem]); have sp1 : w2.cell? ⟨p, 1, none⟩ = some (.slice va L.length vc) := (hb2.cell (p := ⟨p, 1, none⟩) (by simp; omega)).trans (by simp [go_sem, *]); have sa : ∀ (o : Obj) (j : Nat), (w2.alloc o).cell? ⟨wr.heap.size, j, none⟩ = w2.cell? ⟨wr.heap.size, j, none⟩ := fun o j => World.cell?_alloc_lt _ _ _ (by show wr.heap.size < w2.heap.size; omega); have spa : ∀ (o : Obj) (j : Nat), (w2.alloc o).cell? ⟨p, j, none⟩ = w2.cell? ⟨p, j, none⟩ := fun o j => World.cell?_alloc_lt _ _ _ (by show p < w2.heap.size; omega); have HO2 : Hid (Own w2 _ (.slice a7 q.bs.length cap7) q.bs) := ho2; have HB2 : Hid (Below _ _ w2) := hb2; clear ho2 hb2)
            | (refine stp_appendP rfl (.tmp 20) (.tmp 23) rfl (q, Value.slice a7 q.bs.length cap7) (l := L) (B := W.heap.size) (N := (wr.alloc (.cells #[.int .i64 0, .int .i64 0, .int .i64 0, .slice none 0 0] 48)).heap.size) ((HO.out.below (((Below.refl _ _).alloc (Nat.le_refl _) _).drew.trans (HB2.out.mono (by simp)))).below ((Below.refl _ _).alloc (Nat.le_refl _) _)) rfl w2.heap.size 1 (pkAt_new _ _ _ _ _ _) rfl ((HO2.out.below ((Below.refl _ _).alloc (Nat.le_refl _) _)).le (by simp)) (by show q.bs.length ≤ maxLen; unfold maxLen; omega) (by simp; omega) ⟨fun k' e' => Nat.lt_of_lt_of_le (HO.out.lts.1 k' e') (by simp), fun p' hp' k' e' => Nat.lt_of_lt_of_le (HO.out.lts.2 p' hp' k' e') (by simp)⟩ rfl (by have := HLK.out; omega) (by simp; omega) ?_; intro v3 w3 ho3 hg3; obtain ⟨a5, cap5, rfl⟩ := ho3.shape; have t0 : w3.cell? ⟨wr.heap.size, 0, none⟩ = some (.int .i64 q.id) := (hg3.cell (by simp; omega) HNE.out).trans (by simp [go_sem, *]); have t1 : w3.cell? ⟨wr.heap.size, 1, none⟩ = some (.int .i64 q.fr) := (hg3.cell (by simp; omega) HNE.out).trans (by simp [go_sem, *]); have t2 : w3.cell? ⟨wr.heap.size, 2, none⟩ = some (.int .i64 q.to) := (hg3.cell (by simp; omega) HNE.out).trans (by simp [go_sem, *]); have t3 : w3.cell? ⟨wr.heap.size, 3, none⟩ = some (.slice a4 q.bs.length cap4) := (hg3.cell (by simp; omega) HNE.out).trans (by simp [go_sem, *]); have HP3 : Hid (Blk w3 p #[.int .i64 n, .slice va L.length vc, .slice a3 ws.length cap3] 29) := (((HP.out.alloc _).drew.below HB2.out (by simp; omega)).alloc _).grewP hg3 HNP.out; have tp1 : w3.cell? ⟨p, 1, none⟩ = some (.slice va L.length vc) := HP3.out.cell 1; have tpf : ∀ j, w3.frozen? ⟨p, j, none⟩ = false := HP3.out.free; have HO3 : Hid (OwnP w3 W.heap.size (.slice a5 (L ++ [(q, Value.slice a7 q.bs.length cap7)]).length cap5) (L ++ [(q, Value.slice a7 q.bs.length cap7)])) := ho3; have HG3 : Hid (Grew _ (.slice va L.length vc) w3 _) := hg3; clear ho3 hg3))
        all_goals go_wp2
        all_goals (
          go_roundw
          case rel =>
            refine ⟨k + 1, L ++ [(q, Value.slice a7 q.bs.length cap7)], a5, cap5, by omega, by go_num, by simp [HLK.out], by rw [HT.out, ← HCL.out]; simp [cont], HO3.out.keep (fun j h1 _ => Below.heap_setCell _ _ _ _ (by simp only []; omega)), by rw [List.length_append]; exact HP3.out.set 1 _, ?_⟩
            exact grown_round HG.out ((((Below.refl _ _).alloc (Nat.le_refl _) _).drew.trans (HB2.out.mono (by simp))).alloc (by omega) _) HG3.out (fun k' e' => (World.ownsRow.lt HO.out.row k' e').1) 1 _
          case measure => simp [intOf]; omega)
      · obtain rfl : k = l.length := by omega
        have cR := bR.out.cell
        have cR0 := cR 0
        have cR1 := cR 1
        have cR2 := cR 2
        simp at cR0 cR1 cR2
        have fR := bR.out.free
        have hp1 : ¬ w.heap.size + 1 = p := by omega
        clear cR
        go_wp2
        refine bodyPost_ret (v := .agg #[.int .i64 n, .slice va L.length vc, .slice a3 ws.length cap3]) (by simp [results, Try.results39, go_sem, *]) rfl ⟨.slice va L.length vc, .slice a3 ws.length cap3, L, rfl, by rw [HCL.out, List.take_length], ?_, ?_, ?_, ?_⟩
        · have h3 := HF.out.below.size
          exact (HO.out.keep (w' := _) fun j h1 _ => (by rw [Below.heap_setCell _ _ _ _ (by simp only []; omega), Below.heap_setCell _ _ _ _ (by simp only []; omega), Below.heap_setCell _ _ _ _ (by simp only []; omega)])).le h3
        · refine (HF.out.ints.block fun k' e' => ?_).le (by omega)
          have hk' := World.ownsRow.lt HF.out.ints k' e'
          rw [Below.heap_setCell _ _ _ _ (by simp only []; omega), Below.heap_setCell _ _ _ _ (by simp only []; omega), Below.heap_setCell _ _ _ _ (by simp only []; omega)]
          exact HG.out.block k' hk'.2 (fun e => HF.out.ne (by rw [e', e]))
        · intro k' e'
          have hk' := World.ownsRow.lt HF.out.ints k' e'
          refine ⟨fun e => ?_, fun p' hp' e => ?_⟩
          · have := (World.ownsRow.lt HO.out.row k' e).1; omega
          · have := ((HO.out.bytes p' hp').1.2.lt k' e).1; omega
        · exact ((HB.out.setCell (Nat.le_succ _) _).setCell (Nat.le_succ _) _).setCell (Nat.le_succ _) _
  · have HF : Hid (CopySt w (((w1.setCell ⟨w.heap.size + 1 + 1, 0, none⟩ (.int .i64 n)).setCell ⟨w.heap.size + 1 + 1, 1, none⟩ (.slice none 0 0)).setCell ⟨w.heap.size + 1 + 1, 2, none⟩ (.slice a3 ws.length cap3)) (w.heap.size + 1 + 1) #[.int .i64 n, .slice a l.length cap, .slice a2 ws.length cap2] #[.int .i64 0, .slice none 0 0, .slice none 0 0] #[.int .i64 n, .slice none 0 0, .slice a3 ws.length cap3] (.slice a3 ws.length cap3) ws) := by
      have hb1 := HB1.out
      have hne : ∀ k, (Value.slice a3 ws.length cap3).ownBlock = some k → w.heap.size + 1 + 1 < k := fun k e => by have := (World.ownsRow.lt HO1.out k e).1; simp at this; omega
      refine ⟨Blk.set_other (Blk.set_other (Blk.set_other ((((Blk.new w _ _).alloc _).drew.alloc _).below hb1 (by simp <;> omega)) _ (by simp only []; omega)) _ (by simp only []; omega)) _ (by simp only []; omega), Blk.set_other (Blk.set_other (Blk.set_other (((Blk.new' (w.alloc _) _ _ (by simp)).drew.alloc _).below hb1 (by simp <;> omega)) _ (by simp only []; omega)) _ (by simp only []; omega)) _ (by simp only []; omega), ?_, by omega, ?_, fun e => by have := hne _ e; omega, ?_⟩
      · have hB : Blk w1 (w.heap.size + 1 + 1) #[.int .i64 0, .slice none 0 0, .slice none 0 0] 29 := (Blk.new' _ _ _ (by simp)).below hb1 (by simp)
        have h3 := ((hB.set 0 (.int .i64 n)).set 1 (.slice none 0 0)).set 2 (.slice a3 ws.length cap3)
        simpa using h3
      · refine (HO1.out.block fun k e => ?_).le (by simp <;> omega)
        have := hne k e
        rw [Below.heap_setCell _ _ _ _ (by simp only []; omega), Below.heap_setCell _ _ _ _ (by simp only []; omega), Below.heap_setCell _ _ _ _ (by simp only []; omega)]
      · exact (((((hb0.out.drew.alloc (by simp <;> omega) _).trans (hb1.mono (by simp <;> omega))).setCell (show w.heap.size ≤ w.heap.size + 1 + 1 by omega) _).setCell (show w.heap.size ≤ w.heap.size + 1 + 1 by omega) _).setCell (show w.heap.size ≤ w.heap.size + 1 + 1 by omega) _)
    clear q0 q1 q2 qa r0 r1 r2 rz HO1 HB1
    have hb' := HF.out.box.cell
    have q0 := hb' 0
    have q1 := hb' 1
    have q2 := hb' 2
    simp only [List.getElem?_toArray, List.getElem?_cons_zero, List.getElem?_cons_succ] at q0 q1 q2
    clear hb'
    generalize (((w1.setCell ⟨w.heap.size + 1 + 1, 0, none⟩ (.int .i64 n)).setCell ⟨w.heap.size + 1 + 1, 1, none⟩ (.slice none 0 0)).setCell ⟨w.heap.size + 1 + 1, 2, none⟩ (.slice a3 ws.length cap3)) = W at *
    generalize w.heap.size + 1 + 1 = p at *
    go_wp2
    go_loopw [15] (fun i wr => ∃ (k : Nat) (L : List Pk) (va : Option Addr) (vc : Nat), k ≤ l.length ∧ i = .int .i64 k ∧ L.length = k ∧ cont L = cont (l.take k) ∧ OwnP wr W.heap.size (.slice va L.length vc) L ∧ Blk wr p #[.int .i64 n, .slice va L.length vc, .slice a3 ws.length cap3] 29 ∧ W.grownBy wr (some p)) (fun i _ => l.length - (intOf i).toNat)
    case atStart => exact ⟨0, [], none, 0, Nat.zero_le _, rfl, rfl, rfl, OwnP.nil _ _, HF.out.own, ⟨rfl, rfl, rfl, Nat.le_refl _, fun _ _ _ => rfl⟩⟩
    case round =>
      obtain ⟨k, L, va, vc, hk, rfl, hLk, hcL, hO, hP, hG⟩ := hrel
      have hsz := hG.size
      have hpW := HF.out.own.lt
      have hlo := HF.out.lo
      have HG : Hid (W.grownBy wr (some p)) := hG
      have HO : Hid (OwnP wr W.heap.size (.slice va L.length vc) L) := hO
      have HP : Hid (Blk wr p #[.int .i64 n, .slice va L.length vc, .slice a3 ws.length cap3] 29) := hP
      have HLK : Hid (L.length = k) := hLk
      have HCL : Hid (cont L = cont (l.take k)) := hcL
      have HB : Hid (Below w.heap.size w wr) := ⟨hG.os.trans HF.out.below.os, hG.tape.trans HF.out.below.tape, hG.output.trans HF.out.below.output, Nat.le_trans HF.out.below.size hG.size, fun j hj => (hG.block j (Nat.lt_of_lt_of_le hj HF.out.below.size) (by intro e; injection e with e; omega)).trans (HF.out.below.block j hj)⟩
      have bR : Hid (Blk wr (w.heap.size + 1) #[.int .i64 0, .slice none 0 0, .slice none 0 0] 29) := HF.out.res.keep (hG.block _ HF.out.res.lt (by intro e; injection e with e; omega))
      have hpw : p < wr.heap.size := by omega
      have cP := hP.cell
      have cP0 := cP 0
      have cP1 := cP 1
      have cP2 := cP 2
      simp at cP0 cP1 cP2
      have fP := hP.free
      clear hG hO hP hcL cP
      by_cases hlt : k < l.length
      · obtain ⟨b, off, rfl, hj⟩ := HC.out k hlt
        obtain ⟨c0, c1, c2, c3⟩ := (hj k hlt).below HB.out
        have hbs0 : Bs wr l[k].2 l[k].1.bs := (HV.out.bs k hlt).below HB.out
        obtain ⟨a4, cap4, e4⟩ := hbs0.sh
        rw [e4] at c3 hbs0
        have hbk := hbl _ (List.getElem_mem hlt)
        have HBS : Hid (Bs wr (.slice a4 l[k].1.bs.length cap4) l[k].1.bs) := hbs0
        have HT : Hid (cont (l.take (k + 1)) = cont (l.take k) ++ [l[k].1]) := by
          show _ = _
          rw [List.take_succ_eq_append_getElem hlt]; simp only [cont, List.map_append, List.map_cons, List.map_nil]
        clear hj e4 hbs0 hLk
        generalize l[k].1 = q at *
        have pa : ∀ (o : Obj) (j : Nat), (wr.alloc o).cell? ⟨p, j, none⟩ = wr.cell? ⟨p, j, none⟩ := fun o j => World.cell?_alloc_lt _ _ _ (by show p < wr.heap.size; omega)
        have hne1 : ¬ wr.heap.size = p := by omega
        have HNE : Hid ((Value.slice va L.length vc).ownBlock ≠ some wr.heap.size) := fun e => by have := HO.out.lts.1 _ e; omega
        have HNP : Hid ((Value.slice va L.length vc).ownBlock ≠ some p) := fun e => by have := (World.ownsRow.lt HO.out.row _ e).1; omega
        have hne2 : ¬ p = wr.heap.size := by omega
        go_wp2
        go_region_law
          (first
            | (refine stp_call (N := 51) rfl rfl (fun _ _ => by go_simp) #[.agg #[.int .i64 q.id, .int .i64 q.fr, .int .i64 q.to, .slice a4 q.bs.length cap4]] (by first | rfl | simp [Act.eval]) ?_; refine (copyPacket_any _ _ _ _ q.bs _ (HBS.out.below (((Below.refl _ _).alloc (Nat.le_refl _) _).drew)) hbk).mono ?_; rintro r w2 ⟨a7, cap7, rfl, ho2, hb2⟩; refine ⟨_, rfl, ?_⟩; have hz2 := hb2.size; simp at hz2; have s0 : w2.cell? ⟨wr.heap.size, 0, none⟩ = some (.int .i64 q.id) := (hb2.cell (p := ⟨wr.heap.size, 0, none⟩) (by simp)).trans (by simp [go_sem]); have s1 : w2.cell? ⟨wr.heap.size, 1, none⟩ = some (.int .i64 q.fr) := (hb2.cell (p := ⟨wr.heap.size, 1, none⟩) (by simp)).trans (by simp [go_sem]); have s2 : w2.cell? ⟨wr.heap.size, 2, none⟩ = some (.int .i64 q.to) := (hb2.cell (p := ⟨wr.heap.size, 2, none⟩) (by simp)).trans (by simp [go_sem]); have s3 : w2.cell? ⟨wr.heap.size, 3, none⟩ = some (.slice a4 q.bs.length cap4) := (hb2.cell (p := ⟨wr.heap.size, 3, none⟩) (by simp)).trans (by simp [go_sem]); have sp1 : w2.cell? ⟨p, 1, none⟩ = some (.slice va L.length vc) := (hb2.cell (p := ⟨p, 1, none⟩) (by simp; omega)).trans (by simp [go_sem, *]); have sa : ∀ (o : Obj) (j : Nat), (w2.alloc o).cell? ⟨wr.heap.size, j, none⟩ = w2.cell? ⟨wr.heap.size, j, none⟩ := fun o j => World.cell?_alloc_lt _ _ _ (by show wr.heap.size < w2.heap.size; omega); have spa : ∀ (o : Obj) (j : Nat), (w2.alloc o).cell? ⟨p, j, none⟩ = w2.cell? ⟨p, j, none⟩ := fun o j => World.cell?_alloc_lt _ _ _ (by show p < w2.heap.size; omega); have HO2 : Hid (Own w2 _ (.slice a7 q.bs.length cap7) q.bs) := ho2; have HB2 : Hid (Below _ _ w2) := hb2; clear ho2 hb2)
            | (refine stp_appendP rfl (.tmp 20) (.tmp 23) rfl (q, Value.slice a7 q.bs.length cap7) (l := L) (B := W.heap.size) (N := (wr.alloc (.cells #[.int .i64 0, .int .i64 0, .int .i64 0, .slice none 0 0] 48)).heap.size) ((HO.out.below (((Below.refl _ _).alloc (Nat.le_refl _) _).drew.trans (HB2.out.mono (by simp)))).below ((Below.refl _ _).alloc (Nat.le_refl _) _)) rfl w2.heap.size 1 (pkAt_new _ _ _ _ _ _) rfl ((HO2.out.below ((Below.refl _ _).alloc (Nat.le_refl _) _)).le (by simp)) (by show q.bs.length ≤ maxLen; unfold maxLen; omega) (by simp; omega) ⟨fun k' e' => Nat.lt_of_lt_of_le (HO.out.lts.1 k' e') (by simp), fun p' hp' k' e' => Nat.lt_of_lt_of_le (HO.out.lts.2 p' hp' k' e') (by simp)⟩ rfl (by have := HLK.out; omega) (by simp; omega) ?_; intro v3 w3 ho3 hg3; obtain ⟨a5, cap5, rfl⟩ := ho3.shape; have t0 : w3.cell? ⟨wr.heap.size, 0, none⟩ = some (.int .i64 q.id) := (hg3.cell (by simp; omega) HNE.out).trans (by simp [go_sem, *]); have t1 : w3.cell? ⟨wr.heap.size, 1, none⟩ = some (.int .i64 q.fr) := (hg3.cell (by simp; omega) HNE.out).trans (by simp [go_sem, *]); have t2 : w3.cell? ⟨wr.heap.size, 2, none⟩ = some (.int .i64 q.to) := (hg3.cell (by simp; omega) HNE.out).trans (by simp [go_sem, *]); have t3 : w3.cell? ⟨wr.heap.size, 3, none⟩ = some (.slice a4 q.bs.length cap4) := (hg3.cell (by simp; omega) HNE.out).trans (by simp [go_sem, *]); have HP3 : Hid (Blk w3 p #[.int .i64 n, .slice va L.length vc, .slice a3 ws.length cap3] 29) := (((HP.out.alloc _).drew.below HB2.out (by simp; omega)).alloc _).grewP hg3 HNP.out; have tp1 : w3.cell? ⟨p, 1, none⟩ = some (.slice va L.length vc) := HP3.out.cell 1; have tpf : ∀ j, w3.frozen? ⟨p, j, none⟩ = false := HP3.out.free; have HO3 : Hid (OwnP w3 W.heap.size (.slice a5 (L ++ [(q, Value.slice a7 q.bs.length cap7)]).length cap5) (L ++ [(q, Value.slice a7 q.bs.length cap7)])) := ho3; have HG3 : Hid (Grew _ (.slice va L.length vc) w3 _) := hg3; clear ho3 hg3))
        all_goals go_wp2
        all_goals (
          go_roundw
          case rel =>
            refine ⟨k + 1, L ++ [(q, Value.slice a7 q.bs.length cap7)], a5, cap5, by omega, by go_num, by simp [HLK.out], by rw [HT.out, ← HCL.out]; simp [cont], HO3.out.keep (fun j h1 _ => Below.heap_setCell _ _ _ _ (by simp only []; omega)), by rw [List.length_append]; exact HP3.out.set 1 _, ?_⟩
            exact grown_round HG.out ((((Below.refl _ _).alloc (Nat.le_refl _) _).drew.trans (HB2.out.mono (by simp))).alloc (by omega) _) HG3.out (fun k' e' => (World.ownsRow.lt HO.out.row k' e').1) 1 _
          case measure => simp [intOf]; omega)
      · obtain rfl : k = l.length := by omega
        have cR := bR.out.cell
        have cR0 := cR 0
        have cR1 := cR 1
        have cR2 := cR 2
        simp at cR0 cR1 cR2
        have fR := bR.out.free
        have hp1 : ¬ w.heap.size + 1 = p := by omega
        clear cR
        go_wp2
        refine bodyPost_ret (v := .agg #[.int .i64 n, .slice va L.length vc, .slice a3 ws.length cap3]) (by simp [results, Try.results39, go_sem, *]) rfl ⟨.slice va L.length vc, .slice a3 ws.length cap3, L, rfl, by rw [HCL.out, List.take_length], ?_, ?_, ?_, ?_⟩
        · have h3 := HF.out.below.size
          exact (HO.out.keep (w' := _) fun j h1 _ => (by rw [Below.heap_setCell _ _ _ _ (by simp only []; omega), Below.heap_setCell _ _ _ _ (by simp only []; omega), Below.heap_setCell _ _ _ _ (by simp only []; omega)])).le h3
        · refine (HF.out.ints.block fun k' e' => ?_).le (by omega)
          have hk' := World.ownsRow.lt HF.out.ints k' e'
          rw [Below.heap_setCell _ _ _ _ (by simp only []; omega), Below.heap_setCell _ _ _ _ (by simp only []; omega), Below.heap_setCell _ _ _ _ (by simp only []; omega)]
          exact HG.out.block k' hk'.2 (fun e => HF.out.ne (by rw [e', e]))
        · intro k' e'
          have hk' := World.ownsRow.lt HF.out.ints k' e'
          refine ⟨fun e => ?_, fun p' hp' e => ?_⟩
          · have := (World.ownsRow.lt HO.out.row k' e).1; omega
          · have := ((HO.out.bytes p' hp').1.2.lt k' e).1; omega
        · exact ((HB.out.setCell (Nat.le_succ _) _).setCell (Nat.le_succ _) _).setCell (Nat.le_succ _) _
end Go.Proofs.Ythondmpnleleiaa
