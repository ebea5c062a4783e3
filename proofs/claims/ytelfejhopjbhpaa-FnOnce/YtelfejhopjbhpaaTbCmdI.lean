/-
  impl.ApplyCmd.
-/
import Derived.Test.YtelfejhopjbhpaaTbCmdP
namespace Go.Proofs.Ytelfejhopjbhpaa
open Go.RowKit Go.Maps
set_option linter.unusedVariables false
set_option linter.unusedSimpArgs false

set_option maxHeartbeats 4000000 in
set_option maxRecDepth 100000 in
theorem implApplyCmd_any (vv uu : Value) (ps : List Pr) (ss : List Se) (cl sq op : Int) (k v o : ByteArray) (w : World) (hv : Ps w vv ps) (hu : Ss w uu ss) (ht : ∀ p ∈ ps, p.k.size ≤ 1048576 ∧ p.v.size ≤ 1048576) (hs : ∀ p ∈ ss, p.v.size ≤ 1048576) (hn : ps.length ≤ 1048576) (hm : ss.length ≤ 1048576)
    (hcl : (Lit.int .i64 cl).wf = true) (hk : k.size ≤ 1048576) (hvs : v.size ≤ 1048576) (hos : o.size ≤ 1048576) :
    Calls Try.prog 10 #[.agg #[vv, uu], .agg #[.int .i64 cl, .int .i64 sq, .int .i64 op, .string k, .string v, .string o]] w fun e w' => AnsT w w' e (applyA ps ss cl sq op k v o) := by
  obtain ⟨a, cap, rfl⟩ : ∃ a cap, vv = .slice a ps.length cap := by obtain ⟨_, a, cap, e, _⟩ := hv; exact ⟨a, cap, e⟩
  obtain ⟨a2, cap2, rfl⟩ : ∃ a cap, uu = .slice a ss.length cap := by obtain ⟨_, a, cap, e, _⟩ := hu; exact ⟨a, cap, e⟩
  have HV : Hid (Ps w (.slice a ps.length cap) ps) := hv
  have HU : Hid (Ss w (.slice a2 ss.length cap2) ss) := hu
  obtain ⟨W, hW⟩ : ∃ W, W = (((w.alloc (.cells #[.slice a ps.length cap, .slice a2 ss.length cap2] 29)).alloc (.cells #[.int .i64 cl, .int .i64 sq, .int .i64 op, .string k, .string v, .string o] 33)).alloc (.cells #[.int .i64 0, .int .i64 0, .string ⟨#[]⟩, .slice none 0 0, .slice none 0 0] 37)) := ⟨_, rfl⟩
  have HB0 : Hid (Below w.heap.size w W) := by
    rw [hW]; exact (((Below.refl _ _).alloc (Nat.le_refl _) _).alloc (by simp) _).alloc (by simp; omega) _
  have B0 : Hid (Blk W w.heap.size #[.slice a ps.length cap, .slice a2 ss.length cap2] 29) := by rw [hW]; exact ((Blk.new _ _ _).alloc _).alloc _
  have B1 : Hid (Blk W (w.heap.size + 1) #[.int .i64 cl, .int .i64 sq, .int .i64 op, .string k, .string v, .string o] 33) := by rw [hW]; exact (Blk.new' _ _ _ (by simp)).alloc _
  have B2 : Hid (Blk W (w.heap.size + 1 + 1) #[.int .i64 0, .int .i64 0, .string ⟨#[]⟩, .slice none 0 0, .slice none 0 0] 37) := by rw [hW]; exact Blk.new' _ _ _ (by simp)
  have hWz : W.heap.size = w.heap.size + 3 := by rw [hW]; simp
  have HF0 : Hid (Calls Try.prog 35 #[.agg #[.slice a ps.length cap, .slice a2 ss.length cap2]] W fun e w' => Says (PsOk ps ∧ SsOk ss) e ∧ Below W.heap.size W w') := tableFits_any _ _ ps ss W (hv.below HB0.out) (hu.below HB0.out) ht hs hn hm
  clear hv hu ht hs
  by_cases hok : PsOk ps ∧ SsOk ss
  · have HF : Hid (Calls Try.prog 35 #[.agg #[.slice a ps.length cap, .slice a2 ss.length cap2]] W fun e w' => e = .returned (.bool true) ∧ Below W.heap.size W w') := HF0.out.mono fun e w'' ⟨h, hb⟩ => ⟨by rcases h.bool with ⟨_, h⟩ | ⟨h, _⟩; exact h; exact absurd hok h, hb⟩
    have HO : Hid (PsOk ps ∧ SsOk ss) := hok
    have HA : Hid (applyA ps ss cl sq op k v o = applyI ps ss cl sq op k v o) := applyA_yes hok _ _ _ _ _ _
    have hR := apply_ok hok.1 hok.2 cl sq op k v o
    rw [HA.out]
    clear hok HF0 HA
    obtain ⟨A, hA⟩ : ∃ A, A = applyI ps ss cl sq op k v o := ⟨_, rfl⟩
    rw [← hA] at hR ⊢
    have HR : Hid (PsOk A.2.2.2.1 ∧ SsOk A.2.2.2.2) := hR
    clear hR
    obtain ⟨A1, A2, A3, A4, A5⟩ := A
    simp only [] at HR ⊢
    go_enter Try.func10, Try.ntmps10
    go_wp2_with (first
      | (go_at_call 35; rw [← hW]; refine HF.out.mono ?_; rintro e w1 ⟨rfl, hb1⟩; have HB1 : Hid (Below w.heap.size w w1) := HB0.out.trans (hb1.mono (by omega)); have hz1 := hb1.size; have C0 : Hid (Blk w1 w.heap.size _ _) := B0.out.below hb1 (by omega); have C1 : Hid (Blk w1 (w.heap.size + 1) _ _) := B1.out.below hb1 (by omega); have C2 : Hid (Blk w1 (w.heap.size + 1 + 1) _ _) := B2.out.below hb1 (by omega); have x0 : w1.cell? ⟨w.heap.size, 0, none⟩ = some (.slice a ps.length cap) := C0.out.cell 0; have x1 : w1.cell? ⟨w.heap.size, 1, none⟩ = some (.slice a2 ss.length cap2) := C0.out.cell 1; clear hb1)
      | (go_at_call 32; refine (tableOf_any _ _ ps ss w1 (HV.out.below HB1.out) (HU.out.below HB1.out) HO.out.1 HO.out.2 hm).mono ?_; rintro e w2 ⟨rfl, hm2, hs2, hb2⟩; have HM2 : Hid (MP w2 (w1.heap.size + 2) ps) := hm2; have HS2 : Hid (MS w2 (w1.heap.size + 3) ss) := hs2; have HB2 : Hid (Below w1.heap.size w1 w2) := hb2; have hz2 := hm2.lt; have hz3 := hs2.lt; have E1 : Hid (Blk w2 (w.heap.size + 1) _ _) := C1.out.below hb2 (by omega); have c0 : w2.cell? ⟨w.heap.size + 1, 0, none⟩ = some (.int .i64 cl) := E1.out.cell 0; have c1 : w2.cell? ⟨w.heap.size + 1, 1, none⟩ = some (.int .i64 sq) := E1.out.cell 1; have c2 : w2.cell? ⟨w.heap.size + 1, 2, none⟩ = some (.int .i64 op) := E1.out.cell 2; have c3 : w2.cell? ⟨w.heap.size + 1, 3, none⟩ = some (.string k) := E1.out.cell 3; have c4 : w2.cell? ⟨w.heap.size + 1, 4, none⟩ = some (.string v) := E1.out.cell 4; have c5 : w2.cell? ⟨w.heap.size + 1, 5, none⟩ = some (.string o) := E1.out.cell 5; have ca : ∀ (ob : Obj) (j : Nat), (w2.alloc ob).cell? ⟨w.heap.size + 1, j, none⟩ = w2.cell? ⟨w.heap.size + 1, j, none⟩ := (fun ob j => World.cell?_alloc_lt _ _ _ (by show w.heap.size + 1 < w2.heap.size; omega)); clear hm2 hs2 hb2)
      | (go_at_call 33; refine (apply_any (w1.heap.size + 2) (w1.heap.size + 3) ps ss cl sq op k v o _ (HM2.out.alloc _) (HS2.out.alloc _) (by omega) HO.out.1 HO.out.2 hcl hk hvs hos).mono ?_; rw [← hA]; rintro e w3 ⟨rfl, hm3, hs3, ht3⟩; have HM3 : Hid (MP w3 (w1.heap.size + 2) A4) := hm3; have HS3 : Hid (MS w3 (w1.heap.size + 3) A5) := hs3; have HT3 : Hid (TchT _ _ w3) := ht3; have hzz := ht3.size; simp at hzz; clear hm3 hs3 ht3))
    obtain ⟨W3, hW3⟩ : ∃ W3, W3 = w3.alloc (.cells #[.int .i64 A1, .int .i64 A2, .string A3] 72) := ⟨_, rfl⟩
    have hz3' : W3.heap.size = w3.heap.size + 1 := by rw [hW3]; simp
    have P6 : Hid (Blk W3 w3.heap.size #[.int .i64 A1, .int .i64 A2, .string A3] 72) := by rw [hW3]; exact Blk.new _ _ _
    have hk3 : ∀ j, j ≠ w1.heap.size + 2 → j ≠ w1.heap.size + 3 → j < w2.heap.size + 1 → W3.heap[j]? = (w2.alloc (.cells #[.map (some (w1.heap.size + 2)), .map (some (w1.heap.size + 3))] 69)).heap[j]? := fun j h1 h2 h3 => by
      rw [hW3, Below.heap_alloc _ _ _ (by omega)]
      exact HT3.out.block j (by simp; omega) (by rintro (e | e) <;> omega)
    have P5 : Hid (Blk W3 w2.heap.size #[.map (some (w1.heap.size + 2)), .map (some (w1.heap.size + 3))] 69) := (Blk.new w2 _ _).keep (hk3 _ (by omega) (by omega) (by omega))
    have P4 : Hid (Blk W3 (w.heap.size + 1 + 1) #[.int .i64 0, .int .i64 0, .string ⟨#[]⟩, .slice none 0 0, .slice none 0 0] 37) := ((C2.out.below HB2.out (by omega)).alloc _).keep (hk3 _ (by omega) (by omega) (by omega))
    have HM4 : Hid (MP W3 (w1.heap.size + 2) A4) := by rw [hW3]; exact HM3.out.alloc _
    have HS4 : Hid (MS W3 (w1.heap.size + 3) A5) := by rw [hW3]; exact HS3.out.alloc _
    have HB3 : Hid (Below w.heap.size w W3) := by
      have h2 : Below w.heap.size w (w2.alloc (.cells #[.map (some (w1.heap.size + 2)), .map (some (w1.heap.size + 3))] 69)) := (HB1.out.trans (HB2.out.mono (by omega))).alloc (by omega) _
      refine h2.trans ⟨?_, ?_, ?_, ?_, fun j hj => hk3 j (by omega) (by omega) (by omega)⟩
      · rw [hW3]; exact HT3.out.os
      · rw [hW3]; exact HT3.out.tape
      · rw [hW3]; exact HT3.out.output
      · simp; omega
    have HTD : Hid (∀ w', w'.heap = W3.heap → Calls Try.prog 34 #[.agg #[.map (some (w1.heap.size + 2)), .map (some (w1.heap.size + 3))]] w' fun e w'' => ∃ v u, e = .returned (.agg #[v, u]) ∧ OwnPr w'' w'.heap.size v A4 ∧ OwnSe w'' w'.heap.size u A5 ∧ (∀ k, u.ownBlock = some k → v.ownBlock ≠ some k) ∧ Below w'.heap.size w' w'') := fun w' hh => told_any _ _ A4 A5 w' (HM4.out.keep (by rw [hh])) (HS4.out.keep (by rw [hh])) HR.out.1 HR.out.2
    rw [← hW3]
    have p0 : W3.cell? ⟨w3.heap.size, 0, none⟩ = some (.int .i64 A1) := P6.out.cell 0
    have p1 : W3.cell? ⟨w3.heap.size, 1, none⟩ = some (.int .i64 A2) := P6.out.cell 1
    have p2 : W3.cell? ⟨w3.heap.size, 2, none⟩ = some (.string A3) := P6.out.cell 2
    have q0 : W3.cell? ⟨w2.heap.size, 0, none⟩ = some (.map (some (w1.heap.size + 2))) := P5.out.cell 0
    have q1 : W3.cell? ⟨w2.heap.size, 1, none⟩ = some (.map (some (w1.heap.size + 3))) := P5.out.cell 1
    clear hk3 hW3 hW x0 x1 c0 c1 c2 c3 c4 c5 ca HT3 HM3 HS3 HM2 HS2 HF
    go_region_law
      (first
        | (refine stp_callT (N := 34) rfl rfl (fun _ _ => by go_simp) #[.agg #[.map (some (w1.heap.size + 2)), .map (some (w1.heap.size + 3))]] (by first | rfl | simp [Act.eval]) ?_; refine (HTD.out W3.drew rfl).mono ?_; rintro r w6 ⟨v6, u6, rfl, hp6, hs6, hap6, hb6⟩; obtain ⟨va, vc, rfl⟩ := hp6.shape; obtain ⟨ua, uc, rfl⟩ := hs6.shape; refine ⟨_, rfl, ?_⟩; have hz6 := hb6.size; simp at hz6; have Q6 : Hid (Blk w6 w3.heap.size #[.int .i64 A1, .int .i64 A2, .string A3] 72) := P6.out.drew.below hb6 (by simp; omega); have Q4 : Hid (Blk w6 (w.heap.size + 1 + 1) #[.int .i64 0, .int .i64 0, .string ⟨#[]⟩, .slice none 0 0, .slice none 0 0] 37) := P4.out.drew.below hb6 (by simp; omega); have s0 : w6.cell? ⟨w3.heap.size, 0, none⟩ = some (.int .i64 A1) := Q6.out.cell 0; have s1 : w6.cell? ⟨w3.heap.size, 1, none⟩ = some (.int .i64 A2) := Q6.out.cell 1; have s2 : w6.cell? ⟨w3.heap.size, 2, none⟩ = some (.string A3) := Q6.out.cell 2; have r0 : w6.cell? ⟨w.heap.size + 1 + 1, 0, none⟩ = some (.int .i64 0) := Q4.out.cell 0; have r1 : w6.cell? ⟨w.heap.size + 1 + 1, 1, none⟩ = some (.int .i64 0) := Q4.out.cell 1; have r2 : w6.cell? ⟨w.heap.size + 1 + 1, 2, none⟩ = some (.string ⟨#[]⟩) := Q4.out.cell 2; have r3 : w6.cell? ⟨w.heap.size + 1 + 1, 3, none⟩ = some (.slice none 0 0) := Q4.out.cell 3; have r4 : w6.cell? ⟨w.heap.size + 1 + 1, 4, none⟩ = some (.slice none 0 0) := Q4.out.cell 4; have fr := Q4.out.free; have HP6 : Hid (OwnPr w6 _ (.slice va A4.length vc) A4) := hp6; have HS6 : Hid (OwnSe w6 _ (.slice ua A5.length uc) A5) := hs6; have HA6 : Hid (∀ k, (Value.slice ua A5.length uc).ownBlock = some k → (Value.slice va A4.length vc).ownBlock ≠ some k) := hap6; have HB6 : Hid (Below _ _ w6) := hb6; clear hp6 hs6 hap6 hb6))
    all_goals go_wp2
    all_goals
      refine bodyPost_ret (v := .agg #[.int .i64 A1, .int .i64 A2, .string A3, .slice va A4.length vc, .slice ua A5.length uc]) (by simp [results, Try.results10, go_sem, *]) rfl ?_
    all_goals
      refine ⟨va, vc, ua, uc, rfl, ⟨(HP6.out.block fun j e => ?_).le (by simp; omega), (HS6.out.block fun j e => ?_).le (by simp; omega), HA6.out⟩, ?_⟩
    all_goals first
      | (have hj := (HP6.out.lts j e).1; simp at hj; rw [Below.heap_setCell _ _ _ _ (by simp only []; omega), Below.heap_setCell _ _ _ _ (by simp only []; omega), Below.heap_setCell _ _ _ _ (by simp only []; omega), Below.heap_setCell _ _ _ _ (by simp only []; omega), Below.heap_setCell _ _ _ _ (by simp only []; omega)])
      | (have hj := (HS6.out.lts j e).1; simp at hj; rw [Below.heap_setCell _ _ _ _ (by simp only []; omega), Below.heap_setCell _ _ _ _ (by simp only []; omega), Below.heap_setCell _ _ _ _ (by simp only []; omega), Below.heap_setCell _ _ _ _ (by simp only []; omega), Below.heap_setCell _ _ _ _ (by simp only []; omega)])
      | exact (((((HB3.out.drew.trans (HB6.out.mono (by simp; omega))).setCell (by simp only []; omega) _).setCell (by simp only []; omega) _).setCell (by simp only []; omega) _).setCell (by simp only []; omega) _).setCell (by simp only []; omega) _
  · have HF : Hid (Calls Try.prog 35 #[.agg #[.slice a ps.length cap, .slice a2 ss.length cap2]] W fun e w' => e = .returned (.bool false) ∧ Below W.heap.size W w') := HF0.out.mono fun e w'' ⟨h, hb⟩ => ⟨by rcases h.bool with ⟨h, _⟩ | ⟨_, h⟩; exact absurd h hok; exact h, hb⟩
    have HE : Hid (applyA ps ss cl sq op k v o = (9, 0, tx0, [], [])) := applyA_no hok _ _ _ _ _ _
    clear hok
    go_enter Try.func10, Try.ntmps10
    go_wp2_with (go_at_call 35; rw [← hW]; refine HF.out.mono ?_; rintro e w1 ⟨rfl, hb1⟩; have HB1 : Hid (Below w.heap.size w w1) := HB0.out.trans (hb1.mono (by omega)); have BR : Hid (Blk w1 (w.heap.size + 1 + 1) _ _) := B2.out.below hb1 (by omega); have r0 : w1.cell? ⟨w.heap.size + 1 + 1, 0, none⟩ = some (.int .i64 0) := BR.out.cell 0; have r1 : w1.cell? ⟨w.heap.size + 1 + 1, 1, none⟩ = some (.int .i64 0) := BR.out.cell 1; have r2 : w1.cell? ⟨w.heap.size + 1 + 1, 2, none⟩ = some (.string ⟨#[]⟩) := BR.out.cell 2; have r3 : w1.cell? ⟨w.heap.size + 1 + 1, 3, none⟩ = some (.slice none 0 0) := BR.out.cell 3; have r4 : w1.cell? ⟨w.heap.size + 1 + 1, 4, none⟩ = some (.slice none 0 0) := BR.out.cell 4; have fr := BR.out.free; clear hb1)
    refine bodyPost_ret (v := .agg #[.int .i64 9, .int .i64 0, .string ⟨#[]⟩, .slice none 0 0, .slice none 0 0]) (by simp [results, Try.results10, go_sem, *]) rfl ?_
    rw [HE.out]
    exact ⟨none, 0, none, 0, rfl, ⟨OwnG.nil _ _ _ _ _, OwnG.nil _ _ _ _ _, fun k h => by cases h⟩, ((((HB1.out.setCell (by simp only []; omega) _).setCell (by simp only []; omega) _).setCell (by simp only []; omega) _).setCell (by simp only []; omega) _).setCell (by simp only []; omega) _⟩
end Go.Proofs.Ytelfejhopjbhpaa
