/-
  impl.takePacket.
-/
import Derived.Test.YthondmpnleleiaaPkDel
import Derived.Test.YthondmpnleleiaaPkPutP
import Derived.Test.YthondmpnleleiaaMod
namespace Go.Proofs.Ythondmpnleleiaa
open Go.RowKit
set_option linter.unusedVariables false
set_option linter.unusedSimpArgs false

theorem touched_set (g : Nat) : ∀ (vs : List Value) (o : Nat) (w : World), Touched (fun k => k = g) w (w.setCells g o vs)
  | [], _, w => Touched.refl _ w
  | v :: r, o, w => (Touched.rows (grown_set w g o v (some g) rfl) (fun k e => by injection e with e; exact e.symm)).trans (touched_set g r (o + 1) _)
theorem Own.oneCell {w : World} {B : Nat} {v : Value} {l : List Int} (h : Own w B v l) : v.oneCell' = true := by
  obtain ⟨a, cap, rfl⟩ := h.shape
  rfl
theorem OwnP.caps {w : World} {B g cap : Nat} {L : List Pk} (h : OwnP w B (.slice (some ⟨g, 0, none⟩) L.length cap) L) : L.length ≤ cap ∧ cap ≤ maxLen := by
  rcases h.row.2 with ⟨e, _⟩ | ⟨g', cap', cur, e, _, _, h1, h2, _⟩
  · cases e
  · injection e with _ _ e3
    subst e3
    exact ⟨h1, h2⟩
theorem delete_t (g cap B : Nat) (L : List Pk) (i : Nat) (hi : i < L.length) (w : World) (hO : OwnP w B (.slice (some ⟨g, 0, none⟩) L.length cap) L) (z : Int) (hz : z = (i : Int) + 1) :
    Calls Try.prog 80 #[.slice (some ⟨g, 0, none⟩) L.length cap, .int .i64 i, .int .i64 z] w fun e w' => e = .returned (.slice (some ⟨g, 0, none⟩) (L.length - 1) cap) ∧ (∀ j (h : j < (L.eraseIdx i).length), PkAt w' g (j * 4) (L.eraseIdx i)[j]) ∧ w'.there g 0 ((L.length - 1) * 4) ∧ Touched (fun k => k = g) w w' := by
  refine (delete_any g cap L i hi hO.caps.1 hO.caps.2 w hO.there (fun j hj => hO.at_ j hj) (fun p hp => (hO.bytes p hp).1.oneCell) z hz).mono ?_
  rintro e w' ⟨rfl, rfl⟩
  have hO' : OwnP w.drew B (.slice (some ⟨g, 0, none⟩) L.length cap) L := hO.below (Below.refl _ _).drew
  refine ⟨rfl, del_at hi hO'.there (fun j hj => hO'.at_ j hj), ?_, ?_⟩
  · intro j hj
    exact World.there_setCells (World.there_setCells hO'.there _ _ _) _ _ _ j (by omega)
  · exact (Touched.of_below (Below.refl _ _).drew).trans ((touched_set g _ _ _).trans (touched_set g _ _ _))

set_option maxHeartbeats 4000000 in
set_option maxRecDepth 100000 in
theorem takePacket_any (q : Nat) (n : Int) (g cap : Nat) (L : List Pk) (ua : Option Addr) (um uc : Nat) (pick : Int) (keep : Bool) (w : World) (B : Nat)
    (hQ : Blk w q #[.int .i64 n, .slice (some ⟨g, 0, none⟩) L.length cap, .slice ua um uc] 29) (hO : OwnP w B (.slice (some ⟨g, 0, none⟩) L.length cap) L) (hqg : g ≠ q) (hL : 0 < L.length) (hL' : L.length ≤ 1048576) (hx : -(2 ^ 63) ≤ pick) (hX : pick < 2 ^ 63)
    (i : Nat) (hi : i < L.length) (hmod : modI pick L.length = (i : Int)) (a4 : Option Addr) (c4 : Nat) (he : L[i].2 = .slice a4 L[i].1.bs.length c4) :
    Calls Try.prog 58 #[.pointer (some ⟨q, 0, none⟩), .int .i64 pick, .bool keep] w fun e w' => e = .returned (.agg #[.int .i64 L[i].1.id, .int .i64 L[i].1.fr, .int .i64 L[i].1.to, .slice a4 L[i].1.bs.length c4]) ∧
      (keep = true → Below w.heap.size w w') ∧
      (keep = false → Blk w' q #[.int .i64 n, .slice (some ⟨g, 0, none⟩) (L.length - 1) cap, .slice ua um uc] 29 ∧ (∀ j (h : j < (L.eraseIdx i).length), PkAt w' g (j * 4) (L.eraseIdx i)[j]) ∧ w'.there g 0 ((L.length - 1) * 4) ∧ Touched (fun k => k = q ∨ k = g) w w') := by
  have HM : Hid (∀ w', Calls Try.prog 79 #[.int .i64 pick, .int .i64 L.length] w' fun e w'' => e = .returned (.int .i64 i) ∧ w'' = w') := fun w' => by
    rw [← hmod]; exact mod_any pick L.length (by omega) (by omega) hx hX w'
  have HD : Hid (∀ w', Below w.heap.size w w' → ∀ z : Int, z = (i : Int) + 1 → Calls Try.prog 80 #[.slice (some ⟨g, 0, none⟩) L.length cap, .int .i64 i, .int .i64 z] w' fun e w'' => e = .returned (.slice (some ⟨g, 0, none⟩) (L.length - 1) cap) ∧ (∀ j (h : j < (L.eraseIdx i).length), PkAt w'' g (j * 4) (L.eraseIdx i)[j]) ∧ w''.there g 0 ((L.length - 1) * 4) ∧ Touched (fun k => k = g) w' w'') := fun w' hb z hz => delete_t g cap B L i hi w' (hO.below hb) z hz
  obtain ⟨c0, c1, c2, c3⟩ := hO.at_ i hi
  rw [he] at c3
  have hgw : g < w.heap.size := (World.ownsRow.lt hO.row g rfl).2
  have hqw := hQ.lt
  have HQ : Hid (Blk w q #[.int .i64 n, .slice (some ⟨g, 0, none⟩) L.length cap, .slice ua um uc] 29) := hQ
  have q0 : w.cell? ⟨q, 0, none⟩ = some (.int .i64 n) := hQ.cell 0
  have q1 : w.cell? ⟨q, 1, none⟩ = some (.slice (some ⟨g, 0, none⟩) L.length cap) := hQ.cell 1
  have q2 : w.cell? ⟨q, 2, none⟩ = some (.slice ua um uc) := hQ.cell 2
  have qa : ∀ (o : Obj) (j : Nat), (w.alloc o).cell? ⟨q, j, none⟩ = w.cell? ⟨q, j, none⟩ := fun o j => World.cell?_alloc_lt _ _ _ hqw
  have ga : ∀ (o : Obj) (j : Nat), (w.alloc o).cell? ⟨g, j, none⟩ = w.cell? ⟨g, j, none⟩ := fun o j => World.cell?_alloc_lt _ _ _ hgw
  have qb : ∀ (o o' : Obj) (j : Nat), ((w.alloc o).alloc o').cell? ⟨q, j, none⟩ = w.cell? ⟨q, j, none⟩ := fun o o' j => by rw [World.cell?_alloc_lt _ _ _ (by simp; omega), qa]
  have hl63 : L.length < 9223372036854775808 := by omega
  clear hQ he hO hmod
  generalize L[i].1 = pk at *
  cases keep
  case true =>
    go_enter Try.func58, Try.ntmps58
    go_wp2_with (go_at_call 79; refine (HM.out _).mono ?_; rintro e w1 ⟨rfl, rfl⟩)
    refine bodyPost_ret (v := .agg #[.int .i64 pk.id, .int .i64 pk.fr, .int .i64 pk.to, .slice a4 pk.bs.length c4]) (by simp [results, Try.results58, go_sem, *]) rfl ⟨rfl, fun _ => ?_, fun h => absurd h (by simp)⟩
    exact ((Below.refl _ _).alloc (Nat.le_refl _) _).alloc (by simp) _
  case false =>
    generalize hLe : L.eraseIdx i = Le at *
    go_enter Try.func58, Try.ntmps58
    go_wp2_with (first
      | (go_at_call 79; refine (HM.out _).mono ?_; rintro e w1 ⟨rfl, rfl⟩)
      | (go_at_call 80; refine (HD.out _ (((Below.refl _ _).alloc (Nat.le_refl _) _).alloc (by simp) _) _ (by omega)).mono ?_; rintro e w2 ⟨rfl, hp2, hth2, ht2⟩; have HP2 : Hid (∀ j (h : j < Le.length), PkAt w2 g (j * 4) Le[j]) := hp2; have HH2 : Hid (w2.there g 0 ((L.length - 1) * 4)) := hth2; have HT2 : Hid (Touched (fun k => k = g) _ w2) := ht2; have BQ2 : Hid (Blk w2 q #[.int .i64 n, .slice (some ⟨g, 0, none⟩) L.length cap, .slice ua um uc] 29) := ((HQ.out.alloc _).alloc _).keep (ht2.block q (by simp; omega) (fun e => hqg e.symm)); have BR2 : Hid (Blk w2 w.heap.size #[.int .i64 0, .int .i64 0, .int .i64 0, .slice none 0 0] 48) := ((Blk.new w _ _).alloc _).keep (ht2.block w.heap.size (by simp; omega) (fun e => by omega)); have BP2 : Hid (Blk w2 (w.heap.size + 1) #[.int .i64 pk.id, .int .i64 pk.fr, .int .i64 pk.to, .slice a4 pk.bs.length c4] 48) := (Blk.new' (w.alloc _) _ _ (by simp)).keep (ht2.block (w.heap.size + 1) (by simp) (fun e => by omega)); have y1 : w2.cell? ⟨q, 1, none⟩ = some (.slice (some ⟨g, 0, none⟩) L.length cap) := BQ2.out.cell 1; have fq := BQ2.out.free; have r0 : w2.cell? ⟨w.heap.size, 0, none⟩ = some (.int .i64 0) := BR2.out.cell 0; have r1 : w2.cell? ⟨w.heap.size, 1, none⟩ = some (.int .i64 0) := BR2.out.cell 1; have r2 : w2.cell? ⟨w.heap.size, 2, none⟩ = some (.int .i64 0) := BR2.out.cell 2; have r3 : w2.cell? ⟨w.heap.size, 3, none⟩ = some (.slice none 0 0) := BR2.out.cell 3; have fr := BR2.out.free; have p0 : w2.cell? ⟨w.heap.size + 1, 0, none⟩ = some (.int .i64 pk.id) := BP2.out.cell 0; have p1 : w2.cell? ⟨w.heap.size + 1, 1, none⟩ = some (.int .i64 pk.fr) := BP2.out.cell 1; have p2 : w2.cell? ⟨w.heap.size + 1, 2, none⟩ = some (.int .i64 pk.to) := BP2.out.cell 2; have p3 : w2.cell? ⟨w.heap.size + 1, 3, none⟩ = some (.slice a4 pk.bs.length c4) := BP2.out.cell 3; have hq1 : ¬ q = w.heap.size := (by omega); have hq2 : ¬ q = w.heap.size + 1 := (by omega); have hz2 : w.heap.size + 2 ≤ w2.heap.size := (by have := ht2.size; simp at this; omega); clear hp2 hth2 ht2))
    refine bodyPost_ret (v := .agg #[.int .i64 pk.id, .int .i64 pk.fr, .int .i64 pk.to, .slice a4 pk.bs.length c4]) (by simp [results, Try.results58, go_sem, *]) rfl ⟨rfl, ⟨fun h => absurd h (by simp), fun _ => ⟨?_, ?_, ?_, ?_⟩⟩⟩
    · have h1 := BQ2.out.set 1 (.slice (some ⟨g, 0, none⟩) (L.length - 1) cap)
      exact (((h1.set_other _ (by simpa using hq1)).set_other _ (by simpa using hq1)).set_other _ (by simpa using hq1)).set_other _ (by simpa using hq1)
    · intro j hj
      exact (HP2.out j hj).block (by rw [Below.heap_setCell _ _ _ _ (by simp only []; omega), Below.heap_setCell _ _ _ _ (by simp only []; omega), Below.heap_setCell _ _ _ _ (by simp only []; omega), Below.heap_setCell _ _ _ _ (by simp only []; omega), Below.heap_setCell _ _ _ _ (by simp only []; omega)])
    · exact there_block' HH2.out (by rw [Below.heap_setCell _ _ _ _ (by simp only []; omega), Below.heap_setCell _ _ _ _ (by simp only []; omega), Below.heap_setCell _ _ _ _ (by simp only []; omega), Below.heap_setCell _ _ _ _ (by simp only []; omega), Below.heap_setCell _ _ _ _ (by simp only []; omega)])
    · have hs := HT2.out.size
      simp at hs
      refine ⟨HT2.out.os, HT2.out.tape, HT2.out.output, by simp [World.setCell]; omega, fun k hk hn => ?_⟩
      have hn1 : k ≠ q := fun e => hn (.inl e)
      have hn2 : k ≠ g := fun e => hn (.inr e)
      rw [Below.heap_setCell _ _ _ _ (by simp only []; omega), Below.heap_setCell _ _ _ _ (by simp only []; omega), Below.heap_setCell _ _ _ _ (by simp only []; omega), Below.heap_setCell _ _ _ _ (by simp only []; omega), Below.heap_setCell _ _ _ _ (by simp only []; omega), HT2.out.block k (by simp; omega) hn2, Below.heap_alloc _ _ k (by simp; omega), Below.heap_alloc w _ k hk]
end Go.Proofs.Ythondmpnleleiaa
