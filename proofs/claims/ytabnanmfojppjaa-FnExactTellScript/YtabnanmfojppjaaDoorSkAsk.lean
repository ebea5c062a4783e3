/-
  spec.l7askText.
-/
import Derived.Test.YtabnanmfojppjaaDoorSkStA
import Derived.Test.YtabnanmfojppjaaDoorSkTx
import Derived.Deep.RegionWith
import Derived.Deep.DeepCutAuto
namespace Go.Proofs.YtabnanmfojppjaaDoor
open Go.RowKit
set_option linter.unusedVariables false
set_option linter.unusedSimpArgs false

theorem txsL_len : ∀ l : List ByteArray, (∀ t ∈ l, t.size ≤ 1048576) → (txsL l).length ≤ l.length * 1048577
  | [], _ => by simp [txsL_nil]
  | t :: r, h => by
    have h1 := txsL_len r fun x hx => h x (List.mem_cons_of_mem _ hx)
    have h2 := h t (List.mem_cons_self ..)
    rw [size_list] at h2
    rw [show t :: r = [t] ++ r from rfl, txsL_app, List.length_append, List.length_append, Nat.add_mul]
    simp [txsL, textsL] at *
    omega
theorem opK_len (op : Int) : (opK op).length ≤ 3 := by unfold opK; (repeat' split) <;> simp
theorem askH_len (x : Stp) (h0 : 0 ≤ x.a) (h1 : x.a < 10000000000) : (askH x).length ≤ 20 := by
  have h2 := numsL_len [x.a] (by simpa using ⟨h0, h1⟩)
  have h3 := opK_len x.op
  unfold askH
  simp at *
  omega
theorem askT_fits (x : Stp) (h : x.fits) : ∀ t ∈ askT x, t.size ≤ 1048576 := by
  intro t ht
  unfold askT at ht
  have := h.k; have := h.v; have := h.o
  split at ht
  · simp at ht; rcases ht with rfl | rfl <;> assumption
  · split at ht
    · simp at ht; rcases ht with rfl | rfl | rfl <;> assumption
    · simp at ht; subst ht; assumption
theorem ix_one (u : World) (q : Nat) (a : Int) (h : u.cell? ⟨q, 0, none⟩ = some (.int .i64 a)) : Ix u (.slice (some ⟨q, 0, none⟩) 1 1) [a] := by
  refine ⟨by simp [maxLen], _, _, rfl, fun i hi => ⟨q, 0, rfl, fun j hj => ?_⟩⟩
  have hj0 : j = 0 := by simpa using hj
  subst hj0
  exact h
theorem all_takeT {α : Type} {l : List α} {k : Nat} (h : k < l.length) (p : α → Bool) (h1 : (l.take k).all p = true) (h2 : p l[k] = true) : (l.take (k + 1)).all p = true := by
  rw [List.take_succ_eq_append_getElem h, List.all_append, h1]; simp [h2]
theorem all_noT {α : Type} {l : List α} {k : Nat} (h : k < l.length) (p : α → Bool) (h2 : p l[k] = false) : l.all p = false := by
  cases e : l.all p
  · rfl
  · rw [List.all_eq_true] at e; rw [e _ (List.getElem_mem h)] at h2; cases h2
theorem askT_len (x : Stp) : (askT x).length ≤ 3 := by unfold askT; (repeat' split) <;> simp

set_option maxHeartbeats 16000000 in
set_option maxRecDepth 100000 in
theorem l7askText_2 (x : Stp) (hx : x.fits) (hop : x.op = 2) (ho1 : 1 ≤ x.op) (ho2 : x.op ≤ 4) (ha0 : 0 ≤ x.a) (ha1 : x.a < 10000000000) (w : World) :
    Calls Tryd.prog 15 #[.agg #[.int .i64 x.kd, .int .i64 x.a, .int .i64 x.b, .int .i64 x.c, .int .i64 x.cl, .int .i64 x.sq, .int .i64 x.op, .string x.k, .string x.v, .string x.o]] w fun e w' => e = .returned (.tuple #[.string (if askOk x = true then sOf (askH x ++ txsL (askT x)) else ⟨#[]⟩), .bool (askOk x)]) ∧ Below w.heap.size w w' := by
  have HTl := askT_len x
  have HTf : Hid (∀ t ∈ askT x, t.size ≤ 1048576) := askT_fits x hx
  have hHl := askH_len x ha0 ha1
  have HOk : Hid (askOk x = (askT x).all fun t => wordB t.data.toList) := rfl
  obtain ⟨T1, hT1⟩ : ∃ T, T = sOf ([97, 115, 107] ++ numsL [x.a]) := ⟨_, rfl⟩
  obtain ⟨T2, hT2⟩ : ∃ T, T = sOf ([97, 115, 107] ++ numsL [x.a] ++ [32]) := ⟨_, rfl⟩
  obtain ⟨T3, hT3⟩ : ∃ T, T = sOf (askH x) := ⟨_, rfl⟩
  obtain ⟨D, hD⟩ : ∃ T, T = sOf (opK x.op) := ⟨_, rfl⟩
  have hl1 : ([97, 115, 107] ++ numsL [x.a] ++ [32] : List UInt8).length ≤ 20 := by unfold askH at hHl; simp at hHl ⊢; omega
  have hadd1 : ∀ u : World, (Op.stringOp .add T1 ⟨#[32]⟩).run Tryd.prog u = .ok (.string T2) u := fun u => by
    rw [hT1, hT2]
    exact add_run _ [32] _ rfl (by omega) u
  have hadd2 : ∀ u : World, (Op.stringOp .add T2 D).run Tryd.prog u = .ok (.string T3) u := fun u => by
    rw [hT2, hD, hT3]
    exact add_run _ _ _ rfl (by show (askH x).length ≤ _; omega) u
  have HTe : Hid (∀ (u : World) (q : Nat), u.cell? ⟨q, 0, none⟩ = some (.int .i64 x.a) → Calls Tryd.prog 13 #[.string ⟨#[97, 115, 107]⟩, .slice (some ⟨q, 0, none⟩) 1 1] u fun e w' => e = .returned (.string T1) ∧ Below u.heap.size u w') := fun u q h => by
    rw [hT1]
    exact l7tell_any [97, 115, 107] _ [x.a] u (ix_one u q x.a h) (by simpa using ⟨ha0, ha1⟩) (by simp) (by simp)
  have HOp : Hid (∀ u, Calls Tryd.prog 33 #[.int .i64 x.op] u fun e w' => e = .returned (.string D) ∧ Below u.heap.size u w') := fun u => by
    rw [hD]; exact l7opWord_any x.op ho1 ho2 u
  have HT3 : Hid (T3 = sOf (askH x)) := hT3
  have HAT : Hid (askT x = if x.op = 2 then [x.k, x.v] else if x.op = 4 then [x.k, x.o, x.v] else [x.k]) := rfl
  clear hT1 hT2 hT3 hD hl1
  generalize askOk x = OK at HOk ⊢
  generalize askH x = AH at HT3 hHl ⊢
  generalize askT x = ts at HTl HTf HOk HAT ⊢
  obtain ⟨kd, xa, xb, xc, cl, sq, op, k, v, o⟩ := x
  dsimp only at hop ho1 ho2 ha0 ha1 HTe HOp HAT ⊢
  have HTS : Hid (ts = [k, v]) := by unfold Hid; rw [HAT.out]; simp [hop]
  have hn : ts.length = 2 := by rw [HTS.out]; rfl
  subst hop
  clear HAT
  obtain ⟨AS, hAS⟩ : ∃ A : ByteArray, A = if OK = true then sOf (AH ++ txsL ts) else ⟨#[]⟩ := ⟨_, rfl⟩
  rw [← hAS]
  have HAS : Hid (AS = if OK = true then sOf (AH ++ txsL ts) else ⟨#[]⟩) := hAS
  clear hAS
  have HO1 : Hid (∀ ob : Obj, OwnG txC 1 9 ((((w.alloc (.cells #[.int .i64 kd, .int .i64 xa, .int .i64 xb, .int .i64 xc, .int .i64 cl, .int .i64 sq, .int .i64 2, .string k, .string v, .string o] 47)).alloc (.cells #[.int .i64 cl, .int .i64 sq, .int .i64 2, .string k, .string v, .string o] 45)).alloc (.cells #[.string k] 9)).alloc ob) (w.heap.size + 1 + 1) (.slice (some ⟨w.heap.size + 1 + 1, 0, none⟩) 1 1) [k])   := fun ob => by
    have h := (OwnG.lit txLaw ((w.alloc (.cells #[.int .i64 kd, .int .i64 xa, .int .i64 xb, .int .i64 xc, .int .i64 cl, .int .i64 sq, .int .i64 2, .string k, .string v, .string o] 47)).alloc (.cells #[.int .i64 cl, .int .i64 sq, .int .i64 2, .string k, .string v, .string o] 45)) (w.heap.size + 1 + 1) [k] #[.string k] rfl (by simp [maxLen]) (by simp)).below ((Below.refl _ _).alloc (Nat.le_refl _) ob)
    simpa using h
  have HR1 : Hid (((((w.alloc (.cells #[.int .i64 kd, .int .i64 xa, .int .i64 xb, .int .i64 xc, .int .i64 cl, .int .i64 sq, .int .i64 2, .string k, .string v, .string o] 47)).alloc (.cells #[.int .i64 cl, .int .i64 sq, .int .i64 2, .string k, .string v, .string o] 45)).alloc (.cells #[.string k] 9)).alloc (.cells #[.string v] 9)).rangeAt (w.heap.size + 1 + 1 + 1) 0 [.string v]) := by
    intro j u hj
    have h := (Blk.new (((w.alloc (.cells #[.int .i64 kd, .int .i64 xa, .int .i64 xb, .int .i64 xc, .int .i64 cl, .int .i64 sq, .int .i64 2, .string k, .string v, .string o] 47)).alloc (.cells #[.int .i64 cl, .int .i64 sq, .int .i64 2, .string k, .string v, .string o] 45)).alloc (.cells #[.string k] 9)) #[.string v] 9).range j u hj
    simpa using h
  have G : Hid True := trivial
  go_enter Tryd.func15, Tryd.ntmps15
  go_wp2_with (first
    | (have hBA := G; refine gate_st 45 (.tmp 4) _ rfl ?_; clear hBA; refine wpl_store_last rfl 45 (.tmp 4) _ rfl (w.heap.size + 1) rfl (by simp) rfl sizeCmS rfl rfl (by simp [Value.oneCell']) ?_; clear G)
    | (at_builtin; refine wpl_appendGs txLaw rfl (.tmp 16) (.tmp 19) rfl [v] (HO1.out _) rfl (w.heap.size + 1 + 1 + 1) 1 1 HR1.out rfl rfl (by simp) (by simp) ?_; intro v2 w2 ho2 hg2; obtain ⟨va, vc, rfl⟩ := ho2.shape; have e1 : w2.cell? ⟨w.heap.size, 1, none⟩ = some (.int .i64 xa) := (hg2.cell (k := w.heap.size) (by simp <;> omega) (by simp [Value.ownBlock] <;> omega)).trans (by simp [go_sem]); have e2 : w2.cell? ⟨w.heap.size + 1, 2, none⟩ = some (.int .i64 2) := (hg2.cell (k := w.heap.size + 1) (by simp <;> omega) (by simp [Value.ownBlock] <;> omega)).trans (by simp [go_sem]); have HB2 : Hid (Below w.heap.size w w2) := ((((((Below.refl _ _).alloc (by simp) _).alloc (by simp <;> omega) _).alloc (by simp <;> omega) _).alloc (by simp <;> omega) _)).trans (growG hg2 ((HO1.out _).le (show w.heap.size ≤ w.heap.size + 1 + 1 by omega)) (by simp <;> omega)); have hz2 : w.heap.size + 4 ≤ w2.heap.size := (by have h9 := hg2.g.size; simp at h9; omega)))
  have q1 : ∀ ob : Obj, (w2.drew.alloc ob).cell? ⟨w.heap.size + 1, 2, none⟩ = some (.int .i64 2) := fun ob => (((Below.refl w2.heap.size w2).drew.alloc (Nat.le_refl _) ob).cell (p := ⟨w.heap.size + 1, 2, none⟩) (show w.heap.size + 1 < w2.heap.size by omega)).trans e2
  have hl1 : w.heap.size + 1 < w2.heap.size := by omega
  have hl2 : ¬ w.heap.size + 1 = w2.heap.size := by omega
  have hl3 : ¬ w2.heap.size = w.heap.size + 1 := by omega
  go_cut [6] from 31 to 39 (fun s6 wx => s6 = .string T3 ∧ Below w2.heap.size w2 wx)
  case first =>
    go_region_with (first
      | (go_at_call 13; refine (HTe.out _ _ (by simp [go_sem])).mono ?_; rintro e w3 ⟨rfl, hb3⟩; have r1 : w3.cell? ⟨w.heap.size + 1, 2, none⟩ = some (.int .i64 2) := (hb3.cell (p := ⟨w.heap.size + 1, 2, none⟩) (by simp <;> omega)).trans (q1 _))
      | (go_at_call 13; refine (HTe.out _ _ (by simp [*, go_sem])).mono ?_; rintro e w3 ⟨rfl, hb3⟩)
      | (go_at_call 33; refine (HOp.out _).mono ?_; rintro e w4 ⟨rfl, hb4⟩; have r2 : w4.cell? ⟨w.heap.size, 1, none⟩ = some (.int .i64 xa) := (hb4.cell (p := ⟨w.heap.size, 1, none⟩) (by simp <;> omega)).trans (by simp [e1, go_sem]); have r3 := hb4.cell (p := ⟨w2.heap.size, 0, none⟩))
      | (go_at_call 33; refine (HOp.out _).mono ?_; rintro e w4 ⟨rfl, hb4⟩))
    all_goals go_wp2_with fail
    all_goals (try go_simp)
    all_goals go_meet
    all_goals refine ⟨(by first | rfl | simp [Act.put]), ?_⟩
    all_goals exact (((Below.refl _ _).alloc (Nat.le_refl _) _).drew.trans (hb3.mono (by simp))).trans (hb4.mono (by have h9 := hb3.size; simp at h9; omega))
  case rest =>
    obtain ⟨h6, hbx⟩ := hcut
    rw [h6]
    have HB3 : Hid (Below w.heap.size w wc) := HB2.out.trans (hbx.mono (by omega))
    have hSl : Sl txC 1 wc (.slice va 2 vc) ts := by
      have h := (ho2.below hbx).sl txLaw (by simp [maxLen])
      rw [HTS.out]
      exact h
    obtain ⟨_, a', cap', e', hc⟩ := hSl
    injection e' with e1' e2' e3'
    subst e1' e3'
    have HC : Hid (∀ i, i < ts.length → ∃ b off, va = some ⟨b, off, none⟩ ∧ ∀ j (h : j < ts.length), wc.rangeAt b (off + j * 1) (txC ts[j])) := hc
    clear h6 hbx hc ho2 hg2 e1 e2 q1 hl1 hl2 hl3 HB2 hadd1 hadd2 HTe HOp HO1 e2' HTS HR1
    go_wp2
    go_loopw [6, 7] (fun s i wr => ∃ (j : Nat) (S : ByteArray), j ≤ 2 ∧ i = .int .i64 j ∧ s = .string S ∧ S = sOf (AH ++ txsL (ts.take j)) ∧ (ts.take j).all (fun t => wordB t.data.toList) = true ∧ wr = wc) (fun _ i _ => 2 - (intOf i).toNat)
    case atStart => exact ⟨0, T3, Nat.zero_le _, rfl, rfl, by rw [HT3.out]; simp [txsL_nil], rfl, rfl⟩
    case round =>
      obtain ⟨j, S, hj, rfl, rfl, hS, hA, rfl⟩ := hrel
      have HS : Hid (S = sOf (AH ++ txsL (ts.take j))) := hS
      have HA : Hid ((ts.take j).all (fun t => wordB t.data.toList) = true) := hA
      clear hS hA
      by_cases hlt : j < 2
      · have hlt' : j < ts.length := by omega
        obtain ⟨b, off, hbo, hr⟩ := HC.out j hlt'
        cases hbo
        have hcell : wr.cell? ⟨b, off + j, none⟩ = some (.string ts[j]) := by
          have h := hr j hlt' 0 _ rfl
          simpa using h
        have htz := HTf.out _ (List.getElem_mem hlt')
        have hlen := txsL_len (ts.take (j + 1)) fun t h => HTf.out t (List.mem_of_mem_take h)
        rw [List.length_take_of_le (by omega)] at hlen
        have ht := txsL_take hlt'
        have hlen2 : (txsL (ts.take (j + 1))).length = (txsL (ts.take j)).length + (ts[j].data.toList.length + 1) := by rw [ht]; simp
        obtain ⟨S1, hS1⟩ : ∃ S1, S1 = sOf (AH ++ txsL (ts.take j) ++ [32]) := ⟨_, rfl⟩
        obtain ⟨S2, hS2⟩ : ∃ S2, S2 = sOf (AH ++ txsL (ts.take (j + 1))) := ⟨_, rfl⟩
        have hlen3 : (j + 1) * 1048577 ≤ 4 * 1048577 := Nat.mul_le_mul_right _ (by omega)
        have hadd1 : ∀ u : World, (Op.stringOp .add S ⟨#[32]⟩).run Tryd.prog u = .ok (.string S1) u := fun u => by
          rw [HS.out, hS1]
          exact add_run _ [32] _ rfl (by simp; omega) u
        have hadd2 : ∀ u : World, (Op.stringOp .add S1 ts[j]).run Tryd.prog u = .ok (.string S2) u := fun u => by
          rw [hS1, hS2, ← sOf_list ts[j]]
          exact add_run _ _ _ (by rw [ht]; simp) (by simp; omega) u
        have HS2 : Hid (S2 = sOf (AH ++ txsL (ts.take (j + 1)))) := hS2
        have HN : Hid (wordB ts[j].data.toList = true → (ts.take (j + 1)).all (fun t => wordB t.data.toList) = true) := fun h => all_takeT hlt' _ HA.out h
        have HF : Hid (wordB ts[j].data.toList = false → ts.all (fun t => wordB t.data.toList) = false) := fun h => all_noT hlt' _ h
        have HP : Hid (∀ u, Calls Tryd.prog 34 #[.string ts[j]] u fun e w' => e = .returned (.bool (wordB ts[j].data.toList)) ∧ w' = u) := fun u => l7plain_any _ htz u
        have hjl : (j : Int) < 2 := by omega
        clear hS1 hS2 ht hlen hlen2 hlen3 hr htz
        generalize wordB ts[j].data.toList = y at HN HF HP
        generalize ts[j] = t at hcell hadd2 HP
        cases y
        · go_wp2_with (go_at_call 34; refine (HP.out _).mono ?_; rintro e w' ⟨rfl, rfl⟩)
          go_ret2
          have hOK : OK = false := by rw [HOk.out]; exact HF.out (by trivial)
          exact ⟨by rw [HAS.out, hOK]; rfl, HB3.out⟩
        · go_wp2_with (go_at_call 34; refine (HP.out _).mono ?_; rintro e w' ⟨rfl, rfl⟩)
          go_roundw
          case rel => exact ⟨j + 1, S2, by omega, by go_num, rfl, HS2.out, HN.out (by trivial), by trivial⟩
          case measure => simp [intOf]; omega
      · obtain rfl : j = 2 := by omega
        have h3 : ts.take 2 = ts := List.take_of_length_le (by omega)
        rw [h3] at HS HA
        go_wp2
        go_ret2
        have hOK : OK = true := by rw [HOk.out]; exact HA.out
        exact ⟨by rw [HAS.out, hOK, HS.out]; rfl, HB3.out⟩
set_option maxHeartbeats 16000000 in
set_option maxRecDepth 100000 in
theorem l7askText_4 (x : Stp) (hx : x.fits) (hop : x.op = 4) (ho1 : 1 ≤ x.op) (ho2 : x.op ≤ 4) (ha0 : 0 ≤ x.a) (ha1 : x.a < 10000000000) (w : World) :
    Calls Tryd.prog 15 #[.agg #[.int .i64 x.kd, .int .i64 x.a, .int .i64 x.b, .int .i64 x.c, .int .i64 x.cl, .int .i64 x.sq, .int .i64 x.op, .string x.k, .string x.v, .string x.o]] w fun e w' => e = .returned (.tuple #[.string (if askOk x = true then sOf (askH x ++ txsL (askT x)) else ⟨#[]⟩), .bool (askOk x)]) ∧ Below w.heap.size w w' := by
  have HTl := askT_len x
  have HTf : Hid (∀ t ∈ askT x, t.size ≤ 1048576) := askT_fits x hx
  have hHl := askH_len x ha0 ha1
  have HOk : Hid (askOk x = (askT x).all fun t => wordB t.data.toList) := rfl
  obtain ⟨T1, hT1⟩ : ∃ T, T = sOf ([97, 115, 107] ++ numsL [x.a]) := ⟨_, rfl⟩
  obtain ⟨T2, hT2⟩ : ∃ T, T = sOf ([97, 115, 107] ++ numsL [x.a] ++ [32]) := ⟨_, rfl⟩
  obtain ⟨T3, hT3⟩ : ∃ T, T = sOf (askH x) := ⟨_, rfl⟩
  obtain ⟨D, hD⟩ : ∃ T, T = sOf (opK x.op) := ⟨_, rfl⟩
  have hl1 : ([97, 115, 107] ++ numsL [x.a] ++ [32] : List UInt8).length ≤ 20 := by unfold askH at hHl; simp at hHl ⊢; omega
  have hadd1 : ∀ u : World, (Op.stringOp .add T1 ⟨#[32]⟩).run Tryd.prog u = .ok (.string T2) u := fun u => by
    rw [hT1, hT2]
    exact add_run _ [32] _ rfl (by omega) u
  have hadd2 : ∀ u : World, (Op.stringOp .add T2 D).run Tryd.prog u = .ok (.string T3) u := fun u => by
    rw [hT2, hD, hT3]
    exact add_run _ _ _ rfl (by show (askH x).length ≤ _; omega) u
  have HTe : Hid (∀ (u : World) (q : Nat), u.cell? ⟨q, 0, none⟩ = some (.int .i64 x.a) → Calls Tryd.prog 13 #[.string ⟨#[97, 115, 107]⟩, .slice (some ⟨q, 0, none⟩) 1 1] u fun e w' => e = .returned (.string T1) ∧ Below u.heap.size u w') := fun u q h => by
    rw [hT1]
    exact l7tell_any [97, 115, 107] _ [x.a] u (ix_one u q x.a h) (by simpa using ⟨ha0, ha1⟩) (by simp) (by simp)
  have HOp : Hid (∀ u, Calls Tryd.prog 33 #[.int .i64 x.op] u fun e w' => e = .returned (.string D) ∧ Below u.heap.size u w') := fun u => by
    rw [hD]; exact l7opWord_any x.op ho1 ho2 u
  have HT3 : Hid (T3 = sOf (askH x)) := hT3
  have HAT : Hid (askT x = if x.op = 2 then [x.k, x.v] else if x.op = 4 then [x.k, x.o, x.v] else [x.k]) := rfl
  clear hT1 hT2 hT3 hD hl1
  generalize askOk x = OK at HOk ⊢
  generalize askH x = AH at HT3 hHl ⊢
  generalize askT x = ts at HTl HTf HOk HAT ⊢
  obtain ⟨kd, xa, xb, xc, cl, sq, op, k, v, o⟩ := x
  dsimp only at hop ho1 ho2 ha0 ha1 HTe HOp HAT ⊢
  have HTS : Hid (ts = [k, o, v]) := by unfold Hid; rw [HAT.out]; simp [hop]
  have hn : ts.length = 3 := by rw [HTS.out]; rfl
  subst hop
  clear HAT
  obtain ⟨AS, hAS⟩ : ∃ A : ByteArray, A = if OK = true then sOf (AH ++ txsL ts) else ⟨#[]⟩ := ⟨_, rfl⟩
  rw [← hAS]
  have HAS : Hid (AS = if OK = true then sOf (AH ++ txsL ts) else ⟨#[]⟩) := hAS
  clear hAS
  have HO1 : Hid (∀ ob : Obj, OwnG txC 1 9 ((((w.alloc (.cells #[.int .i64 kd, .int .i64 xa, .int .i64 xb, .int .i64 xc, .int .i64 cl, .int .i64 sq, .int .i64 4, .string k, .string v, .string o] 47)).alloc (.cells #[.int .i64 cl, .int .i64 sq, .int .i64 4, .string k, .string v, .string o] 45)).alloc (.cells #[.string k] 9)).alloc ob) (w.heap.size + 1 + 1) (.slice (some ⟨w.heap.size + 1 + 1, 0, none⟩) 1 1) [k])   := fun ob => by
    have h := (OwnG.lit txLaw ((w.alloc (.cells #[.int .i64 kd, .int .i64 xa, .int .i64 xb, .int .i64 xc, .int .i64 cl, .int .i64 sq, .int .i64 4, .string k, .string v, .string o] 47)).alloc (.cells #[.int .i64 cl, .int .i64 sq, .int .i64 4, .string k, .string v, .string o] 45)) (w.heap.size + 1 + 1) [k] #[.string k] rfl (by simp [maxLen]) (by simp)).below ((Below.refl _ _).alloc (Nat.le_refl _) ob)
    simpa using h
  have HR1 : Hid (((((w.alloc (.cells #[.int .i64 kd, .int .i64 xa, .int .i64 xb, .int .i64 xc, .int .i64 cl, .int .i64 sq, .int .i64 4, .string k, .string v, .string o] 47)).alloc (.cells #[.int .i64 cl, .int .i64 sq, .int .i64 4, .string k, .string v, .string o] 45)).alloc (.cells #[.string k] 9)).alloc (.cells #[.string o, .string v] 9)).rangeAt (w.heap.size + 1 + 1 + 1) 0 [.string o, .string v]) := by
    intro j u hj
    have h := (Blk.new (((w.alloc (.cells #[.int .i64 kd, .int .i64 xa, .int .i64 xb, .int .i64 xc, .int .i64 cl, .int .i64 sq, .int .i64 4, .string k, .string v, .string o] 47)).alloc (.cells #[.int .i64 cl, .int .i64 sq, .int .i64 4, .string k, .string v, .string o] 45)).alloc (.cells #[.string k] 9)) #[.string o, .string v] 9).range j u hj
    simpa using h
  have G : Hid True := trivial
  go_enter Tryd.func15, Tryd.ntmps15
  go_wp2_with (first
    | (have hBA := G; refine gate_st 45 (.tmp 4) _ rfl ?_; clear hBA; refine wpl_store_last rfl 45 (.tmp 4) _ rfl (w.heap.size + 1) rfl (by simp) rfl sizeCmS rfl rfl (by simp [Value.oneCell']) ?_; clear G)
    | (at_builtin; refine wpl_appendGs txLaw rfl (.tmp 24) (.tmp 29) rfl [o, v] (HO1.out _) rfl (w.heap.size + 1 + 1 + 1) 2 2 HR1.out rfl rfl (by simp) (by simp) ?_; intro v2 w2 ho2 hg2; obtain ⟨va, vc, rfl⟩ := ho2.shape; have e1 : w2.cell? ⟨w.heap.size, 1, none⟩ = some (.int .i64 xa) := (hg2.cell (k := w.heap.size) (by simp <;> omega) (by simp [Value.ownBlock] <;> omega)).trans (by simp [go_sem]); have e2 : w2.cell? ⟨w.heap.size + 1, 2, none⟩ = some (.int .i64 4) := (hg2.cell (k := w.heap.size + 1) (by simp <;> omega) (by simp [Value.ownBlock] <;> omega)).trans (by simp [go_sem]); have HB2 : Hid (Below w.heap.size w w2) := ((((((Below.refl _ _).alloc (by simp) _).alloc (by simp <;> omega) _).alloc (by simp <;> omega) _).alloc (by simp <;> omega) _)).trans (growG hg2 ((HO1.out _).le (show w.heap.size ≤ w.heap.size + 1 + 1 by omega)) (by simp <;> omega)); have hz2 : w.heap.size + 4 ≤ w2.heap.size := (by have h9 := hg2.g.size; simp at h9; omega)))
  have q1 : ∀ ob : Obj, (w2.drew.alloc ob).cell? ⟨w.heap.size + 1, 2, none⟩ = some (.int .i64 4) := fun ob => (((Below.refl w2.heap.size w2).drew.alloc (Nat.le_refl _) ob).cell (p := ⟨w.heap.size + 1, 2, none⟩) (show w.heap.size + 1 < w2.heap.size by omega)).trans e2
  have hl1 : w.heap.size + 1 < w2.heap.size := by omega
  have hl2 : ¬ w.heap.size + 1 = w2.heap.size := by omega
  have hl3 : ¬ w2.heap.size = w.heap.size + 1 := by omega
  go_cut [6] from 31 to 39 (fun s6 wx => s6 = .string T3 ∧ Below w2.heap.size w2 wx)
  case first =>
    go_region_with (first
      | (go_at_call 13; refine (HTe.out _ _ (by simp [go_sem])).mono ?_; rintro e w3 ⟨rfl, hb3⟩; have r1 : w3.cell? ⟨w.heap.size + 1, 2, none⟩ = some (.int .i64 4) := (hb3.cell (p := ⟨w.heap.size + 1, 2, none⟩) (by simp <;> omega)).trans (q1 _))
      | (go_at_call 13; refine (HTe.out _ _ (by simp [*, go_sem])).mono ?_; rintro e w3 ⟨rfl, hb3⟩)
      | (go_at_call 33; refine (HOp.out _).mono ?_; rintro e w4 ⟨rfl, hb4⟩; have r2 : w4.cell? ⟨w.heap.size, 1, none⟩ = some (.int .i64 xa) := (hb4.cell (p := ⟨w.heap.size, 1, none⟩) (by simp <;> omega)).trans (by simp [e1, go_sem]); have r3 := hb4.cell (p := ⟨w2.heap.size, 0, none⟩))
      | (go_at_call 33; refine (HOp.out _).mono ?_; rintro e w4 ⟨rfl, hb4⟩))
    all_goals go_wp2_with fail
    all_goals (try go_simp)
    all_goals go_meet
    all_goals refine ⟨(by first | rfl | simp [Act.put]), ?_⟩
    all_goals exact (((Below.refl _ _).alloc (Nat.le_refl _) _).drew.trans (hb3.mono (by simp))).trans (hb4.mono (by have h9 := hb3.size; simp at h9; omega))
  case rest =>
    obtain ⟨h6, hbx⟩ := hcut
    rw [h6]
    have HB3 : Hid (Below w.heap.size w wc) := HB2.out.trans (hbx.mono (by omega))
    have hSl : Sl txC 1 wc (.slice va 3 vc) ts := by
      have h := (ho2.below hbx).sl txLaw (by simp [maxLen])
      rw [HTS.out]
      exact h
    obtain ⟨_, a', cap', e', hc⟩ := hSl
    injection e' with e1' e2' e3'
    subst e1' e3'
    have HC : Hid (∀ i, i < ts.length → ∃ b off, va = some ⟨b, off, none⟩ ∧ ∀ j (h : j < ts.length), wc.rangeAt b (off + j * 1) (txC ts[j])) := hc
    clear h6 hbx hc ho2 hg2 e1 e2 q1 hl1 hl2 hl3 HB2 hadd1 hadd2 HTe HOp HO1 e2' HTS HR1
    go_wp2
    go_loopw [6, 7] (fun s i wr => ∃ (j : Nat) (S : ByteArray), j ≤ 3 ∧ i = .int .i64 j ∧ s = .string S ∧ S = sOf (AH ++ txsL (ts.take j)) ∧ (ts.take j).all (fun t => wordB t.data.toList) = true ∧ wr = wc) (fun _ i _ => 3 - (intOf i).toNat)
    case atStart => exact ⟨0, T3, Nat.zero_le _, rfl, rfl, by rw [HT3.out]; simp [txsL_nil], rfl, rfl⟩
    case round =>
      obtain ⟨j, S, hj, rfl, rfl, hS, hA, rfl⟩ := hrel
      have HS : Hid (S = sOf (AH ++ txsL (ts.take j))) := hS
      have HA : Hid ((ts.take j).all (fun t => wordB t.data.toList) = true) := hA
      clear hS hA
      by_cases hlt : j < 3
      · have hlt' : j < ts.length := by omega
        obtain ⟨b, off, hbo, hr⟩ := HC.out j hlt'
        cases hbo
        have hcell : wr.cell? ⟨b, off + j, none⟩ = some (.string ts[j]) := by
          have h := hr j hlt' 0 _ rfl
          simpa using h
        have htz := HTf.out _ (List.getElem_mem hlt')
        have hlen := txsL_len (ts.take (j + 1)) fun t h => HTf.out t (List.mem_of_mem_take h)
        rw [List.length_take_of_le (by omega)] at hlen
        have ht := txsL_take hlt'
        have hlen2 : (txsL (ts.take (j + 1))).length = (txsL (ts.take j)).length + (ts[j].data.toList.length + 1) := by rw [ht]; simp
        obtain ⟨S1, hS1⟩ : ∃ S1, S1 = sOf (AH ++ txsL (ts.take j) ++ [32]) := ⟨_, rfl⟩
        obtain ⟨S2, hS2⟩ : ∃ S2, S2 = sOf (AH ++ txsL (ts.take (j + 1))) := ⟨_, rfl⟩
        have hlen3 : (j + 1) * 1048577 ≤ 4 * 1048577 := Nat.mul_le_mul_right _ (by omega)
        have hadd1 : ∀ u : World, (Op.stringOp .add S ⟨#[32]⟩).run Tryd.prog u = .ok (.string S1) u := fun u => by
          rw [HS.out, hS1]
          exact add_run _ [32] _ rfl (by simp; omega) u
        have hadd2 : ∀ u : World, (Op.stringOp .add S1 ts[j]).run Tryd.prog u = .ok (.string S2) u := fun u => by
          rw [hS1, hS2, ← sOf_list ts[j]]
          exact add_run _ _ _ (by rw [ht]; simp) (by simp; omega) u
        have HS2 : Hid (S2 = sOf (AH ++ txsL (ts.take (j + 1)))) := hS2
        have HN : Hid (wordB ts[j].data.toList = true → (ts.take (j + 1)).all (fun t => wordB t.data.toList) = true) := fun h => all_takeT hlt' _ HA.out h
        have HF : Hid (wordB ts[j].data.toList = false → ts.all (fun t => wordB t.data.toList) = false) := fun h => all_noT hlt' _ h
        have HP : Hid (∀ u, Calls Tryd.prog 34 #[.string ts[j]] u fun e w' => e = .returned (.bool (wordB ts[j].data.toList)) ∧ w' = u) := fun u => l7plain_any _ htz u
        have hjl : (j : Int) < 3 := by omega
        clear hS1 hS2 ht hlen hlen2 hlen3 hr htz
        generalize wordB ts[j].data.toList = y at HN HF HP
        generalize ts[j] = t at hcell hadd2 HP
        cases y
        · go_wp2_with (go_at_call 34; refine (HP.out _).mono ?_; rintro e w' ⟨rfl, rfl⟩)
          go_ret2
          have hOK : OK = false := by rw [HOk.out]; exact HF.out (by trivial)
          exact ⟨by rw [HAS.out, hOK]; rfl, HB3.out⟩
        · go_wp2_with (go_at_call 34; refine (HP.out _).mono ?_; rintro e w' ⟨rfl, rfl⟩)
          go_roundw
          case rel => exact ⟨j + 1, S2, by omega, by go_num, rfl, HS2.out, HN.out (by trivial), by trivial⟩
          case measure => simp [intOf]; omega
      · obtain rfl : j = 3 := by omega
        have h3 : ts.take 3 = ts := List.take_of_length_le (by omega)
        rw [h3] at HS HA
        go_wp2
        go_ret2
        have hOK : OK = true := by rw [HOk.out]; exact HA.out
        exact ⟨by rw [HAS.out, hOK, HS.out]; rfl, HB3.out⟩
set_option maxHeartbeats 16000000 in
set_option maxRecDepth 100000 in
theorem l7askText_1 (x : Stp) (hx : x.fits) (hop : ¬ x.op = 2 ∧ ¬ x.op = 4) (ho1 : 1 ≤ x.op) (ho2 : x.op ≤ 4) (ha0 : 0 ≤ x.a) (ha1 : x.a < 10000000000) (w : World) :
    Calls Tryd.prog 15 #[.agg #[.int .i64 x.kd, .int .i64 x.a, .int .i64 x.b, .int .i64 x.c, .int .i64 x.cl, .int .i64 x.sq, .int .i64 x.op, .string x.k, .string x.v, .string x.o]] w fun e w' => e = .returned (.tuple #[.string (if askOk x = true then sOf (askH x ++ txsL (askT x)) else ⟨#[]⟩), .bool (askOk x)]) ∧ Below w.heap.size w w' := by
  have HTl := askT_len x
  have HTf : Hid (∀ t ∈ askT x, t.size ≤ 1048576) := askT_fits x hx
  have hHl := askH_len x ha0 ha1
  have HOk : Hid (askOk x = (askT x).all fun t => wordB t.data.toList) := rfl
  obtain ⟨T1, hT1⟩ : ∃ T, T = sOf ([97, 115, 107] ++ numsL [x.a]) := ⟨_, rfl⟩
  obtain ⟨T2, hT2⟩ : ∃ T, T = sOf ([97, 115, 107] ++ numsL [x.a] ++ [32]) := ⟨_, rfl⟩
  obtain ⟨T3, hT3⟩ : ∃ T, T = sOf (askH x) := ⟨_, rfl⟩
  obtain ⟨D, hD⟩ : ∃ T, T = sOf (opK x.op) := ⟨_, rfl⟩
  have hl1 : ([97, 115, 107] ++ numsL [x.a] ++ [32] : List UInt8).length ≤ 20 := by unfold askH at hHl; simp at hHl ⊢; omega
  have hadd1 : ∀ u : World, (Op.stringOp .add T1 ⟨#[32]⟩).run Tryd.prog u = .ok (.string T2) u := fun u => by
    rw [hT1, hT2]
    exact add_run _ [32] _ rfl (by omega) u
  have hadd2 : ∀ u : World, (Op.stringOp .add T2 D).run Tryd.prog u = .ok (.string T3) u := fun u => by
    rw [hT2, hD, hT3]
    exact add_run _ _ _ rfl (by show (askH x).length ≤ _; omega) u
  have HTe : Hid (∀ (u : World) (q : Nat), u.cell? ⟨q, 0, none⟩ = some (.int .i64 x.a) → Calls Tryd.prog 13 #[.string ⟨#[97, 115, 107]⟩, .slice (some ⟨q, 0, none⟩) 1 1] u fun e w' => e = .returned (.string T1) ∧ Below u.heap.size u w') := fun u q h => by
    rw [hT1]
    exact l7tell_any [97, 115, 107] _ [x.a] u (ix_one u q x.a h) (by simpa using ⟨ha0, ha1⟩) (by simp) (by simp)
  have HOp : Hid (∀ u, Calls Tryd.prog 33 #[.int .i64 x.op] u fun e w' => e = .returned (.string D) ∧ Below u.heap.size u w') := fun u => by
    rw [hD]; exact l7opWord_any x.op ho1 ho2 u
  have HT3 : Hid (T3 = sOf (askH x)) := hT3
  have HAT : Hid (askT x = if x.op = 2 then [x.k, x.v] else if x.op = 4 then [x.k, x.o, x.v] else [x.k]) := rfl
  clear hT1 hT2 hT3 hD hl1
  generalize askOk x = OK at HOk ⊢
  generalize askH x = AH at HT3 hHl ⊢
  generalize askT x = ts at HTl HTf HOk HAT ⊢
  obtain ⟨kd, xa, xb, xc, cl, sq, op, k, v, o⟩ := x
  dsimp only at hop ho1 ho2 ha0 ha1 HTe HOp HAT ⊢
  have HTS : Hid (ts = [k]) := by unfold Hid; rw [HAT.out]; simp [hop]
  have hn : ts.length = 1 := by rw [HTS.out]; rfl
  clear HAT
  obtain ⟨AS, hAS⟩ : ∃ A : ByteArray, A = if OK = true then sOf (AH ++ txsL ts) else ⟨#[]⟩ := ⟨_, rfl⟩
  rw [← hAS]
  have HAS : Hid (AS = if OK = true then sOf (AH ++ txsL ts) else ⟨#[]⟩) := hAS
  clear hAS
  have HO1 : Hid (∀ ob : Obj, OwnG txC 1 9 ((((w.alloc (.cells #[.int .i64 kd, .int .i64 xa, .int .i64 xb, .int .i64 xc, .int .i64 cl, .int .i64 sq, .int .i64 op, .string k, .string v, .string o] 47)).alloc (.cells #[.int .i64 cl, .int .i64 sq, .int .i64 op, .string k, .string v, .string o] 45)).alloc (.cells #[.string k] 9)).alloc ob) (w.heap.size + 1 + 1) (.slice (some ⟨w.heap.size + 1 + 1, 0, none⟩) 1 1) [k])   := fun ob => by
    have h := (OwnG.lit txLaw ((w.alloc (.cells #[.int .i64 kd, .int .i64 xa, .int .i64 xb, .int .i64 xc, .int .i64 cl, .int .i64 sq, .int .i64 op, .string k, .string v, .string o] 47)).alloc (.cells #[.int .i64 cl, .int .i64 sq, .int .i64 op, .string k, .string v, .string o] 45)) (w.heap.size + 1 + 1) [k] #[.string k] rfl (by simp [maxLen]) (by simp)).below ((Below.refl _ _).alloc (Nat.le_refl _) ob)
    simpa using h
  obtain ⟨n2, n4⟩ := hop
  have h2b : (op == 2) = false := by simpa using n2
  have h4b : (op == 4) = false := by simpa using n4
  clear n2 n4
  have G : Hid True := trivial
  go_enter Tryd.func15, Tryd.ntmps15
  go_wp2_with (first
    | (have hBA := G; refine gate_st 45 (.tmp 4) _ rfl ?_; clear hBA; refine wpl_store_last rfl 45 (.tmp 4) _ rfl (w.heap.size + 1) rfl (by simp) rfl sizeCmS rfl rfl (by simp [Value.oneCell']) ?_; clear G))
  have ho2 : OwnG txC 1 9 (((w.alloc (.cells #[.int .i64 kd, .int .i64 xa, .int .i64 xb, .int .i64 xc, .int .i64 cl, .int .i64 sq, .int .i64 op, .string k, .string v, .string o] 47)).alloc (.cells #[.int .i64 cl, .int .i64 sq, .int .i64 op, .string k, .string v, .string o] 45)).alloc (.cells #[.string k] 9)) (w.heap.size + 1 + 1) (.slice (some ⟨w.heap.size + 1 + 1, 0, none⟩) 1 1) [k] := by
    have h := OwnG.lit txLaw ((w.alloc (.cells #[.int .i64 kd, .int .i64 xa, .int .i64 xb, .int .i64 xc, .int .i64 cl, .int .i64 sq, .int .i64 op, .string k, .string v, .string o] 47)).alloc (.cells #[.int .i64 cl, .int .i64 sq, .int .i64 op, .string k, .string v, .string o] 45)) (w.heap.size + 1 + 1) [k] #[.string k] rfl (by simp [maxLen]) (by simp)
    simpa using h
  have e1 : (((w.alloc (.cells #[.int .i64 kd, .int .i64 xa, .int .i64 xb, .int .i64 xc, .int .i64 cl, .int .i64 sq, .int .i64 op, .string k, .string v, .string o] 47)).alloc (.cells #[.int .i64 cl, .int .i64 sq, .int .i64 op, .string k, .string v, .string o] 45)).alloc (.cells #[.string k] 9)).cell? ⟨w.heap.size, 1, none⟩ = some (.int .i64 xa) := by simp [go_sem]
  have e2 : (((w.alloc (.cells #[.int .i64 kd, .int .i64 xa, .int .i64 xb, .int .i64 xc, .int .i64 cl, .int .i64 sq, .int .i64 op, .string k, .string v, .string o] 47)).alloc (.cells #[.int .i64 cl, .int .i64 sq, .int .i64 op, .string k, .string v, .string o] 45)).alloc (.cells #[.string k] 9)).cell? ⟨w.heap.size + 1, 2, none⟩ = some (.int .i64 op) := by simp [go_sem]
  have HB2 : Hid (Below w.heap.size w (((w.alloc (.cells #[.int .i64 kd, .int .i64 xa, .int .i64 xb, .int .i64 xc, .int .i64 cl, .int .i64 sq, .int .i64 op, .string k, .string v, .string o] 47)).alloc (.cells #[.int .i64 cl, .int .i64 sq, .int .i64 op, .string k, .string v, .string o] 45)).alloc (.cells #[.string k] 9))) := ((((Below.refl _ _).alloc (by simp) _).alloc (by simp <;> omega) _).alloc (by simp <;> omega) _)
  have hz2 : w.heap.size + 3 ≤ (((w.alloc (.cells #[.int .i64 kd, .int .i64 xa, .int .i64 xb, .int .i64 xc, .int .i64 cl, .int .i64 sq, .int .i64 op, .string k, .string v, .string o] 47)).alloc (.cells #[.int .i64 cl, .int .i64 sq, .int .i64 op, .string k, .string v, .string o] 45)).alloc (.cells #[.string k] 9)).heap.size := by simp
  have hg2 : True := trivial
  generalize (((w.alloc (.cells #[.int .i64 kd, .int .i64 xa, .int .i64 xb, .int .i64 xc, .int .i64 cl, .int .i64 sq, .int .i64 op, .string k, .string v, .string o] 47)).alloc (.cells #[.int .i64 cl, .int .i64 sq, .int .i64 op, .string k, .string v, .string o] 45)).alloc (.cells #[.string k] 9)) = w2 at *
  have q1 : ∀ ob : Obj, (w2.drew.alloc ob).cell? ⟨w.heap.size + 1, 2, none⟩ = some (.int .i64 op) := fun ob => (((Below.refl w2.heap.size w2).drew.alloc (Nat.le_refl _) ob).cell (p := ⟨w.heap.size + 1, 2, none⟩) (show w.heap.size + 1 < w2.heap.size by omega)).trans e2
  have hl1 : w.heap.size + 1 < w2.heap.size := by omega
  have hl2 : ¬ w.heap.size + 1 = w2.heap.size := by omega
  have hl3 : ¬ w2.heap.size = w.heap.size + 1 := by omega
  go_cut [6] from 31 to 39 (fun s6 wx => s6 = .string T3 ∧ Below w2.heap.size w2 wx)
  case first =>
    go_region_with (first
      | (go_at_call 13; refine (HTe.out _ _ (by simp [go_sem])).mono ?_; rintro e w3 ⟨rfl, hb3⟩; have r1 : w3.cell? ⟨w.heap.size + 1, 2, none⟩ = some (.int .i64 op) := (hb3.cell (p := ⟨w.heap.size + 1, 2, none⟩) (by simp <;> omega)).trans (q1 _))
      | (go_at_call 13; refine (HTe.out _ _ (by simp [*, go_sem])).mono ?_; rintro e w3 ⟨rfl, hb3⟩)
      | (go_at_call 33; refine (HOp.out _).mono ?_; rintro e w4 ⟨rfl, hb4⟩; have r2 : w4.cell? ⟨w.heap.size, 1, none⟩ = some (.int .i64 xa) := (hb4.cell (p := ⟨w.heap.size, 1, none⟩) (by simp <;> omega)).trans (by simp [e1, go_sem]); have r3 := hb4.cell (p := ⟨w2.heap.size, 0, none⟩))
      | (go_at_call 33; refine (HOp.out _).mono ?_; rintro e w4 ⟨rfl, hb4⟩))
    all_goals go_wp2_with fail
    all_goals (try go_simp)
    all_goals go_meet
    all_goals refine ⟨(by first | rfl | simp [Act.put]), ?_⟩
    all_goals exact (((Below.refl _ _).alloc (Nat.le_refl _) _).drew.trans (hb3.mono (by simp))).trans (hb4.mono (by have h9 := hb3.size; simp at h9; omega))
  case rest =>
    obtain ⟨h6, hbx⟩ := hcut
    rw [h6]
    have HB3 : Hid (Below w.heap.size w wc) := HB2.out.trans (hbx.mono (by omega))
    have hSl : Sl txC 1 wc (.slice (some ⟨w.heap.size + 1 + 1, 0, none⟩ : Option Addr) 1 1) ts := by
      have h := (ho2.below hbx).sl txLaw (by simp [maxLen])
      rw [HTS.out]
      exact h
    obtain ⟨_, a', cap', e', hc⟩ := hSl
    injection e' with e1' e2' e3'
    subst e1' e3'
    have HC : Hid (∀ i, i < ts.length → ∃ b off, (some ⟨w.heap.size + 1 + 1, 0, none⟩ : Option Addr) = some ⟨b, off, none⟩ ∧ ∀ j (h : j < ts.length), wc.rangeAt b (off + j * 1) (txC ts[j])) := hc
    clear h6 hbx hc ho2 hg2 e1 e2 q1 hl1 hl2 hl3 HB2 hadd1 hadd2 HTe HOp HO1 e2' HTS 
    go_wp2
    go_loopw [6, 7] (fun s i wr => ∃ (j : Nat) (S : ByteArray), j ≤ 1 ∧ i = .int .i64 j ∧ s = .string S ∧ S = sOf (AH ++ txsL (ts.take j)) ∧ (ts.take j).all (fun t => wordB t.data.toList) = true ∧ wr = wc) (fun _ i _ => 1 - (intOf i).toNat)
    case atStart => exact ⟨0, T3, Nat.zero_le _, rfl, rfl, by rw [HT3.out]; simp [txsL_nil], rfl, rfl⟩
    case round =>
      obtain ⟨j, S, hj, rfl, rfl, hS, hA, rfl⟩ := hrel
      have HS : Hid (S = sOf (AH ++ txsL (ts.take j))) := hS
      have HA : Hid ((ts.take j).all (fun t => wordB t.data.toList) = true) := hA
      clear hS hA
      by_cases hlt : j < 1
      · have hlt' : j < ts.length := by omega
        obtain ⟨b, off, hbo, hr⟩ := HC.out j hlt'
        cases hbo
        have hcell : wr.cell? ⟨w.heap.size + 1 + 1, j, none⟩ = some (.string ts[j]) := by
          have h := hr j hlt' 0 _ rfl
          simpa using h
        have htz := HTf.out _ (List.getElem_mem hlt')
        have hlen := txsL_len (ts.take (j + 1)) fun t h => HTf.out t (List.mem_of_mem_take h)
        rw [List.length_take_of_le (by omega)] at hlen
        have ht := txsL_take hlt'
        have hlen2 : (txsL (ts.take (j + 1))).length = (txsL (ts.take j)).length + (ts[j].data.toList.length + 1) := by rw [ht]; simp
        obtain ⟨S1, hS1⟩ : ∃ S1, S1 = sOf (AH ++ txsL (ts.take j) ++ [32]) := ⟨_, rfl⟩
        obtain ⟨S2, hS2⟩ : ∃ S2, S2 = sOf (AH ++ txsL (ts.take (j + 1))) := ⟨_, rfl⟩
        have hlen3 : (j + 1) * 1048577 ≤ 4 * 1048577 := Nat.mul_le_mul_right _ (by omega)
        have hadd1 : ∀ u : World, (Op.stringOp .add S ⟨#[32]⟩).run Tryd.prog u = .ok (.string S1) u := fun u => by
          rw [HS.out, hS1]
          exact add_run _ [32] _ rfl (by simp; omega) u
        have hadd2 : ∀ u : World, (Op.stringOp .add S1 ts[j]).run Tryd.prog u = .ok (.string S2) u := fun u => by
          rw [hS1, hS2, ← sOf_list ts[j]]
          exact add_run _ _ _ (by rw [ht]; simp) (by simp; omega) u
        have HS2 : Hid (S2 = sOf (AH ++ txsL (ts.take (j + 1)))) := hS2
        have HN : Hid (wordB ts[j].data.toList = true → (ts.take (j + 1)).all (fun t => wordB t.data.toList) = true) := fun h => all_takeT hlt' _ HA.out h
        have HF : Hid (wordB ts[j].data.toList = false → ts.all (fun t => wordB t.data.toList) = false) := fun h => all_noT hlt' _ h
        have HP : Hid (∀ u, Calls Tryd.prog 34 #[.string ts[j]] u fun e w' => e = .returned (.bool (wordB ts[j].data.toList)) ∧ w' = u) := fun u => l7plain_any _ htz u
        have hjl : (j : Int) < 1 := by omega
        clear hS1 hS2 ht hlen hlen2 hlen3 hr htz
        generalize wordB ts[j].data.toList = y at HN HF HP
        generalize ts[j] = t at hcell hadd2 HP
        cases y
        · go_wp2_with (go_at_call 34; refine (HP.out _).mono ?_; rintro e w' ⟨rfl, rfl⟩)
          go_ret2
          have hOK : OK = false := by rw [HOk.out]; exact HF.out (by trivial)
          exact ⟨by rw [HAS.out, hOK]; rfl, HB3.out⟩
        · go_wp2_with (go_at_call 34; refine (HP.out _).mono ?_; rintro e w' ⟨rfl, rfl⟩)
          go_roundw
          case rel => exact ⟨j + 1, S2, by omega, by go_num, rfl, HS2.out, HN.out (by trivial), by trivial⟩
          case measure => simp [intOf]; omega
      · obtain rfl : j = 1 := by omega
        have h3 : ts.take 1 = ts := List.take_of_length_le (by omega)
        rw [h3] at HS HA
        go_wp2
        go_ret2
        have hOK : OK = true := by rw [HOk.out]; exact HA.out
        exact ⟨by rw [HAS.out, hOK, HS.out]; rfl, HB3.out⟩

theorem l7askText_any (x : Stp) (hx : x.fits) (ho1 : 1 ≤ x.op) (ho2 : x.op ≤ 4) (ha0 : 0 ≤ x.a) (ha1 : x.a < 10000000000) (w : World) :
    Calls Tryd.prog 15 #[.agg #[.int .i64 x.kd, .int .i64 x.a, .int .i64 x.b, .int .i64 x.c, .int .i64 x.cl, .int .i64 x.sq, .int .i64 x.op, .string x.k, .string x.v, .string x.o]] w fun e w' => e = .returned (.tuple #[.string (if askOk x = true then sOf (askH x ++ txsL (askT x)) else ⟨#[]⟩), .bool (askOk x)]) ∧ Below w.heap.size w w' := by
  by_cases h2 : x.op = 2
  · exact l7askText_2 x hx h2 ho1 ho2 ha0 ha1 w
  · by_cases h4 : x.op = 4
    · exact l7askText_4 x hx h4 ho1 ho2 ha0 ha1 w
    · exact l7askText_1 x hx ⟨h2, h4⟩ ho1 ho2 ha0 ha1 w
end Go.Proofs.YtabnanmfojppjaaDoor
