/-
  impl.putPacket.
-/
import Derived.Test.YthondmpnleleiaaPkPut
import Derived.Test.YthondmpnleleiaaPkMk
import Derived.Deep.RegionLaw
namespace Go.Proofs.Ythondmpnleleiaa
open Go.RowKit Go.Maps
set_option linter.unusedVariables false
set_option linter.unusedSimpArgs false

theorem OwnP.keep' {w w' : World} {B : Nat} {v : Value} {l : List Pk} (h : OwnP w B v l) (hk : ∀ k, (v.ownBlock = some k ∨ ∃ p ∈ l, p.2.ownBlock = some k) → w'.heap[k]? = w.heap[k]?) : OwnP w' B v l := by
  refine ⟨⟨h.row.1, ?_⟩, fun p hp => ⟨(h.bytes p hp).1.block fun k e => hk k (.inr ⟨p, hp, e⟩), (h.bytes p hp).2⟩, h.off, h.apart⟩
  rcases h.row.2 with h' | ⟨g, cap, cur, hv, hg, hh, r⟩
  · exact .inl h'
  · exact .inr ⟨g, cap, cur, hv, hg, (hk g (.inl (by rw [hv]; rfl))).trans hh, r⟩

set_option maxHeartbeats 8000000 in
set_option maxRecDepth 100000 in
theorem putPacket_any (q : Nat) (n : Int) (va : Option Addr) (vc : Nat) (L : List Pk) (ua : Option Addr) (uc : Nat) (ws : List Int) (i0 f t : Int) (a3 : Option Addr) (cap3 : Nat) (bs : List Int) (w : World) (B N : Nat)
    (hQ : Blk w q #[.int .i64 n, .slice va L.length vc, .slice ua ws.length uc] 29) (hO : OwnP w B (.slice va L.length vc) L) (hq1 : (Value.slice va L.length vc).ownBlock ≠ some q) (hq2 : ∀ p' ∈ L, p'.2.ownBlock ≠ some q) (hqN : q < N) (hB : B ≤ w.heap.size) (hI : Ix w (.slice ua ws.length uc) ws) (hr : ∀ y ∈ ws, 0 ≤ y ∧ y ≤ 1000) (hw : ws.length ≤ 1048576)
    (hp : Own w N (.slice a3 bs.length cap3) bs) (hBN : B ≤ N) (hN : (∀ k, (Value.slice va L.length vc).ownBlock = some k → k < N) ∧ ∀ p' ∈ L, ∀ k, p'.2.ownBlock = some k → k < N) (hbl : bs.length ≤ 1048576) (hn1 : 1 ≤ n) (hn2 : n ≤ 1099511627776) (hL : L.length ≤ 1048576) :
    Calls Try.prog 50 #[.pointer (some ⟨q, 0, none⟩), .agg #[.int .i64 i0, .int .i64 f, .int .i64 t, .slice a3 bs.length cap3]] w fun e w' => e = .returned (.int .i64 (putC n L.length ws f t bs.length)) ∧
      (putC n L.length ws f t bs.length ≠ 0 → Blk w' q #[.int .i64 n, .slice va L.length vc, .slice ua ws.length uc] 29 ∧ Below w.heap.size w w') ∧
      (putC n L.length ws f t bs.length = 0 → ∃ va' vc', Blk w' q #[.int .i64 (n + 1), .slice va' (L.length + 1) vc', .slice ua ws.length uc] 29 ∧ OwnP w' B (.slice va' (L.length + 1) vc') (L ++ [((⟨n, f, t, bs⟩ : Pkt), Value.slice a3 bs.length cap3)]) ∧ ((Value.slice va' (L.length + 1) vc').ownBlock = (Value.slice va L.length vc).ownBlock ∨ ∃ k, (Value.slice va' (L.length + 1) vc').ownBlock = some k ∧ w.heap.size ≤ k) ∧ Touched (fun k => k = q ∨ (Value.slice va L.length vc).ownBlock = some k) w w') := by
  have HC : Hid (∀ w', Below w.heap.size w w' → Calls Try.prog 74 #[.agg #[.int .i64 n, .slice va L.length vc, .slice ua ws.length uc], .agg #[.int .i64 n, .int .i64 f, .int .i64 t, .slice a3 bs.length cap3]] w' fun e w'' => e = .returned (.int .i64 (putC n L.length ws f t bs.length)) ∧ Below w'.heap.size w' w'') := fun w' hb => putCode_any n va L.length vc ua uc ws n f t a3 bs.length cap3 w' (hI.below hb) hr hw (by unfold maxLen; omega) hL
  have HQ : Hid (Blk w q #[.int .i64 n, .slice va L.length vc, .slice ua ws.length uc] 29) := hQ
  have HO : Hid (OwnP w B (.slice va L.length vc) L) := hO
  have HP : Hid (Own w N (.slice a3 bs.length cap3) bs) := hp
  have HN : Hid (_ ∧ _) := hN
  have hqw := hQ.lt
  have q0 : w.cell? ⟨q, 0, none⟩ = some (.int .i64 n) := hQ.cell 0
  have q1 : w.cell? ⟨q, 1, none⟩ = some (.slice va L.length vc) := hQ.cell 1
  have q2 : w.cell? ⟨q, 2, none⟩ = some (.slice ua ws.length uc) := hQ.cell 2
  have qa : ∀ (o : Obj) (j : Nat), (w.alloc o).cell? ⟨q, j, none⟩ = w.cell? ⟨q, j, none⟩ := fun o j => World.cell?_alloc_lt _ _ _ hqw
  have hne1 : ¬ q = w.heap.size := by omega
  have hne2 : ¬ w.heap.size = q := by omega
  have HNQ : Hid ((Value.slice va L.length vc).ownBlock ≠ some q) := hq1
  have HNL : Hid (∀ p' ∈ L, p'.2.ownBlock ≠ some q) := hq2
  have HNX : Hid ((Value.slice va L.length vc).ownBlock ≠ some w.heap.size) := fun e => by have := (World.ownsRow.lt hO.row _ e).2; omega
  clear hQ hO hp hI hN hq1 hq2
  by_cases hc : putC n L.length ws f t bs.length = 0
  case neg =>
    have hcd : (putC n L.length ws f t bs.length != 0) = true := by simpa using hc
    have HNC : Hid (¬ putC n L.length ws f t bs.length = 0) := hc
    clear hc
    generalize putC n L.length ws f t bs.length = c at *
    go_enter Try.func50, Try.ntmps50
    go_wp2
    go_region_held3 (fun w' => w'.cell? ⟨q, 0, none⟩ = some (.int .i64 n) ∧ w'.cell? ⟨q, 1, none⟩ = some (.slice va L.length vc) ∧ w'.cell? ⟨q, 2, none⟩ = some (.slice ua ws.length uc) ∧ w'.cell? ⟨w.heap.size, 0, none⟩ = some (.int .i64 n) ∧ w'.cell? ⟨w.heap.size, 1, none⟩ = some (.int .i64 f) ∧ w'.cell? ⟨w.heap.size, 2, none⟩ = some (.int .i64 t) ∧ w'.cell? ⟨w.heap.size, 3, none⟩ = some (.slice a3 bs.length cap3)) (simp [*, go_sem])
      (first
        | (go_at_call 74; refine (HC.out _ (((Below.refl _ _).alloc (Nat.le_refl _) _).drew)).mono ?_; rintro r w1 ⟨rfl, hb1⟩; have hz1 := hb1.size; simp at hz1; have yq0 : w1.cell? ⟨q, 0, none⟩ = some (.int .i64 n) := (hb1.cell (p := ⟨q, 0, none⟩) (by simp <;> omega)).trans (by simp [go_sem, *]); have yq1 : w1.cell? ⟨q, 1, none⟩ = some (.slice va L.length vc) := (hb1.cell (p := ⟨q, 1, none⟩) (by simp <;> omega)).trans (by simp [go_sem, *]); have yq2 : w1.cell? ⟨q, 2, none⟩ = some (.slice ua ws.length uc) := (hb1.cell (p := ⟨q, 2, none⟩) (by simp <;> omega)).trans (by simp [go_sem, *]); have yx0 : w1.cell? ⟨w.heap.size, 0, none⟩ = some (.int .i64 n) := (hb1.cell (p := ⟨w.heap.size, 0, none⟩) (by simp <;> omega)).trans (by simp [go_sem, *]); have yx1 : w1.cell? ⟨w.heap.size, 1, none⟩ = some (.int .i64 f) := (hb1.cell (p := ⟨w.heap.size, 1, none⟩) (by simp <;> omega)).trans (by simp [go_sem, *]); have yx2 : w1.cell? ⟨w.heap.size, 2, none⟩ = some (.int .i64 t) := (hb1.cell (p := ⟨w.heap.size, 2, none⟩) (by simp <;> omega)).trans (by simp [go_sem, *]); have yx3 : w1.cell? ⟨w.heap.size, 3, none⟩ = some (.slice a3 bs.length cap3) := (hb1.cell (p := ⟨w.heap.size, 3, none⟩) (by simp <;> omega)).trans (by simp [go_sem, *]); have HB1 : Hid (Below _ _ w1) := hb1; clear hb1))
    all_goals go_wp2
    all_goals go_ret
    all_goals exact ⟨rfl, fun _ => ⟨(HQ.out.alloc _).drew.below HB1.out (by simp; omega), ((Below.refl _ _).alloc (Nat.le_refl _) _).drew.trans (HB1.out.mono (by simp))⟩, fun h => absurd h HNC.out⟩
  case pos =>
    rw [hc] at HC ⊢
    clear hc
    go_enter Try.func50, Try.ntmps50
    go_wp2
    go_region_held3 (fun w' => w'.cell? ⟨q, 0, none⟩ = some (.int .i64 n) ∧ w'.cell? ⟨q, 1, none⟩ = some (.slice va L.length vc) ∧ w'.cell? ⟨q, 2, none⟩ = some (.slice ua ws.length uc) ∧ w'.cell? ⟨w.heap.size, 0, none⟩ = some (.int .i64 n) ∧ w'.cell? ⟨w.heap.size, 1, none⟩ = some (.int .i64 f) ∧ w'.cell? ⟨w.heap.size, 2, none⟩ = some (.int .i64 t) ∧ w'.cell? ⟨w.heap.size, 3, none⟩ = some (.slice a3 bs.length cap3)) (simp [*, go_sem])
      (first
        | (go_at_call 74; refine (HC.out _ (((Below.refl _ _).alloc (Nat.le_refl _) _).drew)).mono ?_; rintro r w1 ⟨rfl, hb1⟩; have hz1 := hb1.size; simp at hz1; have yq0 : w1.cell? ⟨q, 0, none⟩ = some (.int .i64 n) := (hb1.cell (p := ⟨q, 0, none⟩) (by simp <;> omega)).trans (by simp [go_sem, *]); have yq1 : w1.cell? ⟨q, 1, none⟩ = some (.slice va L.length vc) := (hb1.cell (p := ⟨q, 1, none⟩) (by simp <;> omega)).trans (by simp [go_sem, *]); have yq2 : w1.cell? ⟨q, 2, none⟩ = some (.slice ua ws.length uc) := (hb1.cell (p := ⟨q, 2, none⟩) (by simp <;> omega)).trans (by simp [go_sem, *]); have yx0 : w1.cell? ⟨w.heap.size, 0, none⟩ = some (.int .i64 n) := (hb1.cell (p := ⟨w.heap.size, 0, none⟩) (by simp <;> omega)).trans (by simp [go_sem, *]); have yx1 : w1.cell? ⟨w.heap.size, 1, none⟩ = some (.int .i64 f) := (hb1.cell (p := ⟨w.heap.size, 1, none⟩) (by simp <;> omega)).trans (by simp [go_sem, *]); have yx2 : w1.cell? ⟨w.heap.size, 2, none⟩ = some (.int .i64 t) := (hb1.cell (p := ⟨w.heap.size, 2, none⟩) (by simp <;> omega)).trans (by simp [go_sem, *]); have yx3 : w1.cell? ⟨w.heap.size, 3, none⟩ = some (.slice a3 bs.length cap3) := (hb1.cell (p := ⟨w.heap.size, 3, none⟩) (by simp <;> omega)).trans (by simp [go_sem, *]); have HB1 : Hid (Below _ _ w1) := hb1; clear hb1))
    all_goals go_wp2
    all_goals
      have ya : ∀ (o : Obj) (j : Nat), (w1.alloc o).cell? ⟨q, j, none⟩ = w1.cell? ⟨q, j, none⟩ := fun o j => World.cell?_alloc_lt _ _ _ (by show q < w1.heap.size; omega)
    all_goals
      have yb : ∀ (o : Obj) (j : Nat), (w1.alloc o).cell? ⟨w.heap.size, j, none⟩ = w1.cell? ⟨w.heap.size, j, none⟩ := fun o j => World.cell?_alloc_lt _ _ _ (by show w.heap.size < w1.heap.size; omega)
    all_goals go_region_law
      (first
        | (refine stp_appendP rfl (.tmp 23) (.tmp 25) rfl ((⟨n, f, t, bs⟩ : Pkt), Value.slice a3 bs.length cap3) (l := L) (B := B) (N := N) (HO.out.below (((((Below.refl _ _).alloc (Nat.le_refl _) _).drew.trans (HB1.out.mono (by simp))).drew).alloc (by show w.heap.size ≤ w1.heap.size; omega) _)) rfl w1.heap.size 1 (pkAt_new _ _ _ _ _ _) rfl (HP.out.below (((((Below.refl _ _).alloc (Nat.le_refl _) _).drew.trans (HB1.out.mono (by simp))).drew).alloc (by show w.heap.size ≤ w1.heap.size; omega) _)) (by show bs.length ≤ maxLen; unfold maxLen; omega) hBN HN.out rfl (by omega) (by simp; omega) ?_; intro v3 w3 ho3 hg3; obtain ⟨a5, cap5, rfl⟩ := ho3.shape; have tq0 : w3.cell? ⟨q, 0, none⟩ = some (.int .i64 n) := (hg3.cell (by simp <;> omega) HNQ.out).trans (by simp [go_sem, *]); have tq1 : w3.cell? ⟨q, 1, none⟩ = some (.slice va L.length vc) := (hg3.cell (by simp <;> omega) HNQ.out).trans (by simp [go_sem, *]); have tq2 : w3.cell? ⟨q, 2, none⟩ = some (.slice ua ws.length uc) := (hg3.cell (by simp <;> omega) HNQ.out).trans (by simp [go_sem, *]); have tx0 : w3.cell? ⟨w.heap.size, 0, none⟩ = some (.int .i64 n) := (hg3.cell (by simp <;> omega) HNX.out).trans (by simp [go_sem, *]); have tx1 : w3.cell? ⟨w.heap.size, 1, none⟩ = some (.int .i64 f) := (hg3.cell (by simp <;> omega) HNX.out).trans (by simp [go_sem, *]); have tx2 : w3.cell? ⟨w.heap.size, 2, none⟩ = some (.int .i64 t) := (hg3.cell (by simp <;> omega) HNX.out).trans (by simp [go_sem, *]); have tx3 : w3.cell? ⟨w.heap.size, 3, none⟩ = some (.slice a3 bs.length cap3) := (hg3.cell (by simp <;> omega) HNX.out).trans (by simp [go_sem, *]); have HP3 : Hid (Blk w3 q #[.int .i64 n, .slice va L.length vc, .slice ua ws.length uc] 29) := ((((HQ.out.alloc _).drew.below HB1.out (by simp; omega)).drew.alloc _)).grewP hg3 HNQ.out; have tpf : ∀ j, w3.frozen? ⟨q, j, none⟩ = false := HP3.out.free; have HO3 : Hid (OwnP w3 B (.slice a5 (L ++ [((⟨n, f, t, bs⟩ : Pkt), Value.slice a3 bs.length cap3)]).length cap5) (L ++ [((⟨n, f, t, bs⟩ : Pkt), Value.slice a3 bs.length cap3)])) := ho3; have HG3 : Hid (Grew _ (.slice va L.length vc) w3 _) := hg3; clear ho3 hg3))
    all_goals go_wp2
    all_goals go_ret
    all_goals
      refine ⟨rfl, fun h => absurd rfl h, fun _ => ⟨a5, cap5, ?_, ?_, ?_, ?_⟩⟩
    all_goals first
      | (have h2 := (HP3.out.set 1 (.slice a5 (L.length + 1) cap5)).set 0 (.int .i64 (n + 1)); exact h2)
      | (have h1 := HO3.out; have hfar := HG3.out.far (k := q) (by simp; omega) HNQ.out; rw [List.length_append] at h1 hfar; refine h1.keep' fun j hj => ?_; have hjq : j ≠ q := (by rintro rfl; rcases hj with hj | ⟨p', hp', e'⟩; exact hfar hj; rcases List.mem_append.1 hp' with hp' | hp'; exact HNL.out p' hp' e'; rw [List.mem_singleton.1 hp'] at e'; have := (HP.out.2.lt _ e').1; omega); rw [Below.heap_setCell _ _ _ _ (by simp only []; exact hjq), Below.heap_setCell _ _ _ _ (by simp only []; exact hjq)])
      | (have h7 := HG3.out.at'; rw [List.length_append] at h7; exact h7.imp id fun ⟨k, e, hk⟩ => ⟨k, e, Nat.le_trans (by simp; omega) hk⟩)
      | (have hs1 := HB1.out.size; have hs3 := HG3.out.g.size; simp at hs1 hs3; refine ⟨HG3.out.g.os.trans HB1.out.os, HG3.out.g.tape.trans HB1.out.tape, HG3.out.g.output.trans HB1.out.output, (by simp [World.setCell]; omega), fun k hk hnk => ?_⟩; rw [Below.heap_setCell _ _ _ _ (by simp only []; exact fun e => hnk (.inl e)), Below.heap_setCell _ _ _ _ (by simp only []; exact fun e => hnk (.inl e)), HG3.out.block (by simp; omega) (fun e => hnk (.inr e))]; exact (Below.heap_alloc _ _ k (by show k < w1.heap.size; omega)).trans ((HB1.out.block k (by simp; omega)).trans (Below.heap_alloc w _ k hk)))
end Go.Proofs.Ythondmpnleleiaa
