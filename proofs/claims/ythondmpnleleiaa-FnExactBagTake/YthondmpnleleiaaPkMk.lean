/-
  laws.markPacketS, heldPacketS: what is marked is held.
-/
import Derived.Test.YthondmpnleleiaaPkTo
namespace Go.Proofs.Ythondmpnleleiaa
open Go.RowKit
set_option linter.unusedVariables false
set_option linter.unusedSimpArgs false

/-- how many marks packets take -/
def mkN (l : List Pkt) : Nat := 3 * l.length + bulk l
def mkPk (k : Nat) (p : Pkt) : Pkt := ⟨k, (k + 1 : Nat), (k + 2 : Nat), marksL (k + 3) p.bs.length⟩
def mkPs : Nat → List Pk → List Pk
  | _, [] => []
  | k, p :: l => (mkPk k p.1, p.2) :: mkPs (k + 3 + p.1.bs.length) l
theorem mkPs_len (l : List Pk) : ∀ k, (mkPs k l).length = l.length := by
  induction l with
  | nil => intro k; rfl
  | cons p l ih => intro k; rw [mkPs, List.length_cons, ih, List.length_cons]
theorem mkN_app (l m : List Pk) : mkN (cont (l ++ m)) = mkN (cont l) + mkN (cont m) := by
  simp only [mkN, cont, List.map_append, bulk_app, List.length_append]; omega
theorem mkPs_app (l m : List Pk) : ∀ k, mkPs k (l ++ m) = mkPs k l ++ mkPs (k + mkN (cont l)) m := by
  induction l with
  | nil => intro k; simp [mkPs, mkN, cont, bulk]
  | cons p l ih =>
    intro k
    rw [List.cons_append, mkPs, ih, mkPs, List.cons_append]
    congr 3
    simp [mkN, cont, bulk]; omega
theorem mkN_take (l : List Pk) (j : Nat) (h : j < l.length) : mkN (cont (l.take (j + 1))) = mkN (cont (l.take j)) + 3 + l[j].1.bs.length := by
  rw [List.take_succ_eq_append_getElem h, mkN_app]
  simp [mkN, cont, bulk]; omega
theorem mkN_take_le (l : List Pk) (j : Nat) : mkN (cont (l.take j)) ≤ mkN (cont l) := by
  have := bulk_take_le l j
  simp only [mkN, cont_len, List.length_take]; omega
theorem mkPs_step (k : Nat) (l : List Pk) (j : Nat) (h : j < l.length) :
    (mkPs k (l.take j) ++ l.drop j).set j (mkPk (k + mkN (cont (l.take j))) l[j].1, l[j].2) = mkPs k (l.take (j + 1)) ++ l.drop (j + 1) := by
  have hl : (mkPs k (l.take j)).length = j := by rw [mkPs_len, List.length_take]; omega
  rw [List.set_append_right _ _ (by omega), hl, Nat.sub_self, List.drop_eq_getElem_cons h, List.set_cons_zero, List.take_succ_eq_append_getElem h, mkPs_app]
  simp [mkPs]
theorem mk_at (k : Nat) (l : List Pk) (j : Nat) (h : j < l.length) (h' : j < (mkPs k (l.take j) ++ l.drop j).length) : (mkPs k (l.take j) ++ l.drop j)[j] = l[j] := by
  have hl : (mkPs k (l.take j)).length = j := by rw [mkPs_len, List.length_take]; omega
  rw [List.getElem_append_right (by omega)]
  simp [hl]
theorem mkPs_get (k : Nat) (l : List Pk) (j : Nat) (h : j < l.length) (h' : j < (mkPs k l).length) : (mkPs k l)[j] = (mkPk (k + mkN (cont (l.take j))) l[j].1, l[j].2) := by
  have e : mkPs k l = mkPs k (l.take j) ++ mkPs (k + mkN (cont (l.take j))) (l.drop j) := by rw [← mkPs_app, List.take_append_drop]
  have hl : (mkPs k (l.take j)).length = j := by rw [mkPs_len, List.length_take]; omega
  have e2 : (mkPs k l)[j]? = some (mkPk (k + mkN (cont (l.take j))) l[j].1, l[j].2) := by
    rw [e, List.getElem?_append_right (by omega), hl, Nat.sub_self, List.drop_eq_getElem_cons h]
    rfl
  exact (List.getElem?_eq_some_iff.1 e2).2

theorem setO {w : World} {q o o' : Nat} {x : Value} (h : o ≠ o') : (w.setCell ⟨q, o, none⟩ x).cell? ⟨q, o', none⟩ = w.cell? ⟨q, o', none⟩ := World.cell?_setCell_other w _ _ _ (by intro e; injection e with _ h2 _; omega)
theorem markByteS_z (v : Value) (l : List Int) (z : Int) (k0 : Nat) (hz : z = (k0 : Int)) (w : World) (B : Nat) (hv : Own w B v l) (hl : l.length ≤ 20000000) (hk0 : k0 ≤ 20000000) :
    Calls Try.prog 19 #[v, .int .i64 z] w fun e w' => e = .returned (.int .i64 ((k0 + l.length : Nat) : Int)) ∧ Own w' B v (marksL k0 l.length) ∧ w.grownBy w' v.ownBlock := by subst hz; exact markByteS_any v l k0 w B hv hl hk0
theorem heldByteS_z (v : Value) (z : Int) (k0 n : Nat) (hz : z = (k0 : Int)) (w : World) (hv : Bs w v (marksL k0 n)) (hn : n ≤ 20000000) (hk0 : k0 ≤ 20000000) :
    Calls Try.prog 73 #[v, .int .i64 z] w fun e w' => e = .returned (.int .i64 ((k0 + n : Nat) : Int)) ∧ w' = w := by subst hz; exact heldByteS_any v k0 n w hv hn hk0

/-- the three numbers of packet j are written, then its bytes -/
theorem PksR.put {w w' : World} {lo hi q : Nat} {cap : Nat} {l : List Pk} (h : PksR lo hi w (.slice (some ⟨q, 0, none⟩) l.length cap) l) (j : Nat) (hj : j < l.length) (i f t : Int) (bs : List Int) (hbl : bs.length ≤ maxLen)
    (hg : ((((w.setCell ⟨q, j * 4, none⟩ (.int .i64 i)).setCell ⟨q, j * 4 + 1, none⟩ (.int .i64 f)).setCell ⟨q, j * 4 + 2, none⟩ (.int .i64 t))).grownBy w' l[j].2.ownBlock) (ho : Own w' lo l[j].2 bs) :
    PksR lo hi w' (.slice (some ⟨q, 0, none⟩) l.length cap) (l.set j (⟨i, f, t, bs⟩, l[j].2)) := by
  obtain ⟨q', cap', e, h1, h2, h3, h4, h5, h6⟩ := h.row (by omega)
  injection e with e1 _ e3
  injection e1 with e1
  injection e1 with e1
  subst e1 e3
  have hjm : l[j] ∈ l := List.getElem_mem hj
  have hqj : l[j].2.ownBlock ≠ some q := h6 _ hjm
  have hbq : w'.heap[q]? = _ := hg.block q (by simpa [World.setCell] using h3) (fun e => hqj e.symm)
  have hoth : ∀ k, k < w.heap.size → k ≠ q → l[j].2.ownBlock ≠ some k → w'.heap[k]? = w.heap[k]? := fun k hk hne hn => by
    rw [hg.block k (by simpa [World.setCell] using hk) (fun e => hn e.symm)]
    rw [Below.heap_setCell _ _ _ _ (by simpa using hne), Below.heap_setCell _ _ _ _ (by simpa using hne), Below.heap_setCell _ _ _ _ (by simpa using hne)]
  have hblk : l[j].2.ownBlock = (l.set j ((⟨i, f, t, bs⟩ : Pkt), l[j].2))[j]?.bind fun p => p.2.ownBlock := by simp [hj]
  have hmem : ∀ p ∈ l.set j ((⟨i, f, t, bs⟩ : Pkt), l[j].2), (∃ p' ∈ l, p'.2 = p.2) := fun p hp => by
    rcases List.mem_or_eq_of_mem_set hp with hp | rfl
    · exact ⟨p, hp, rfl⟩
    · exact ⟨l[j], hjm, rfl⟩
  have hap : ∀ a b (ha : a < l.length) (hb : b < l.length), a ≠ b → Far l[a].2 l[b].2 := fun a b ha hb hne => by
    rcases Nat.lt_or_ge a b with h' | h'
    · exact List.pairwise_iff_getElem.1 h.apart a b ha hb h'
    · intro k e1 e2
      exact List.pairwise_iff_getElem.1 h.apart b a hb ha (by omega) k e2 e1
  refine ⟨by rw [List.length_set]; exact h.len, by rw [List.length_set]; exact ⟨_, _, rfl⟩, fun _ => ⟨q, cap, by rw [List.length_set], h1, h2, lt_keepP hbq (by simpa [World.setCell] using h3), ?_, fun a ha => ?_, fun p hp => ?_⟩, fun p hp => ?_, ?_⟩
  · rw [List.length_set]
    exact there_block' (there_set' (there_set' (there_set' h4 _ _ _) _ _ _) _ _ _) hbq
  · have ha' : a < l.length := by simpa using ha
    refine PkAt.block ?_ hbq
    by_cases e : a = j
    · subst e
      rw [List.getElem_set_self]
      obtain ⟨c0, c1, c2, c3⟩ := h5 a ha'
      have hr := World.rangeAt_setCells_same w q (a * 4) [.int .i64 i, .int .i64 f, .int .i64 t] (there_sub h4 _ _ (by simp; omega))
      refine ⟨hr 0 _ rfl, hr 1 _ rfl, hr 2 _ rfl, ?_⟩
      rw [setO (by omega), setO (by omega), setO (by omega)]
      exact c3
    · rw [List.getElem_set_ne (fun e' => e e'.symm)]
      obtain ⟨c0, c1, c2, c3⟩ := h5 a ha'
      have hh : ∀ s, s < 4 → ((((w.setCell ⟨q, j * 4, none⟩ (.int .i64 i)).setCell ⟨q, j * 4 + 1, none⟩ (.int .i64 f)).setCell ⟨q, j * 4 + 2, none⟩ (.int .i64 t))).cell? ⟨q, a * 4 + s, none⟩ = w.cell? ⟨q, a * 4 + s, none⟩ := fun s hs => by
        rw [setO (by omega), setO (by omega), setO (by omega)]
      exact ⟨(hh 0 (by omega)).trans c0, (hh 1 (by omega)).trans c1, (hh 2 (by omega)).trans c2, (hh 3 (by omega)).trans c3⟩
  · obtain ⟨p', hp', e⟩ := hmem p hp
    rw [← e]; exact h6 p' hp'
  · obtain ⟨a, ha, rfl⟩ := List.mem_iff_getElem.1 hp
    have ha' : a < l.length := by simpa using ha
    by_cases e : a = j
    · subst e
      rw [List.getElem_set_self]
      exact ⟨⟨ho, (h.bytes _ hjm).1.lt⟩, hbl⟩
    · rw [List.getElem_set_ne (fun e' => e e'.symm)]
      have ham : l[a] ∈ l := List.getElem_mem ha'
      obtain ⟨hb1, hb2⟩ := h.bytes _ ham
      refine ⟨⟨hb1.own.block fun k ek => hoth k (hb1.own.2.lt k ek).2 (fun e' => h6 _ ham (by rw [ek, e'])) (hap a j ha' hj e k ek), hb1.lt⟩, hb2⟩
  · rw [List.pairwise_iff_getElem]
    intro a b ha1 hb1 hab
    have ha : a < l.length := by simpa using ha1
    have hb : b < l.length := by simpa using hb1
    have e : ∀ c (hc : c < l.length) (hc' : c < (l.set j ((⟨i, f, t, bs⟩ : Pkt), l[j].2)).length), (l.set j ((⟨i, f, t, bs⟩ : Pkt), l[j].2))[c].2 = l[c].2 := fun c hc hc' => by
      by_cases e : c = j
      · subst e; rw [List.getElem_set_self]
      · rw [List.getElem_set_ne (fun e' => e e'.symm)]
    rw [e a ha, e b hb]
    exact hap a b ha hb (by omega)

/-- of the blocks that were there, only those of S have turned -/
structure Touched (S : Nat → Prop) (w w' : World) : Prop where
  os : w'.os = w.os
  tape : w'.tape = w.tape
  output : w'.output = w.output
  size : w.heap.size ≤ w'.heap.size
  block : ∀ k, k < w.heap.size → ¬ S k → w'.heap[k]? = w.heap[k]?
theorem Touched.refl (S : Nat → Prop) (w : World) : Touched S w w := ⟨rfl, rfl, rfl, Nat.le_refl _, fun _ _ _ => rfl⟩
theorem Touched.trans {S : Nat → Prop} {w w1 w2 : World} (h : Touched S w w1) (k : Touched S w1 w2) : Touched S w w2 :=
  ⟨k.os.trans h.os, k.tape.trans h.tape, k.output.trans h.output, Nat.le_trans h.size k.size, fun i hi hn => (k.block i (Nat.lt_of_lt_of_le hi h.size) hn).trans (h.block i hi hn)⟩
theorem Touched.rows {S : Nat → Prop} {w w' : World} {row : Option Nat} (h : w.grownBy w' row) (h1 : ∀ k, row = some k → S k) : Touched S w w' :=
  ⟨h.os, h.tape, h.output, h.size, fun k hk hn => h.block k hk (fun e => hn (h1 k e.symm))⟩
theorem Touched.turned {S : Nat → Prop} {w w' : World} {lo hi : Nat} (h : Touched S w w') (h1 : ∀ k, S k → lo ≤ k ∧ k < hi) : Turned lo hi w w' :=
  ⟨h.os, h.tape, h.output, h.size, fun k hk hn => h.block k hk (fun e => by have := h1 k e; omega)⟩
theorem Touched.of_below {S : Nat → Prop} {w w' : World} (h : Below w.heap.size w w') : Touched S w w' := ⟨h.os, h.tape, h.output, h.size, fun k hk _ => h.block k hk⟩
theorem Touched.wide {S S' : Nat → Prop} {w w' : World} (h : Touched S w w') (h1 : ∀ k, S k → S' k) : Touched S' w w' := ⟨h.os, h.tape, h.output, h.size, fun k hk hn => h.block k hk fun e => hn (h1 k e)⟩
/-- the blocks that packets lie in -/
def pkBlocks (v : Value) (l : List Pk) (k : Nat) : Prop := (0 < l.length ∧ v.ownBlock = some k) ∨ ∃ p ∈ l, p.2.ownBlock = some k
theorem PksR.blocks {w : World} {lo hi : Nat} {v : Value} {l : List Pk} (h : PksR lo hi w v l) : ∀ k, pkBlocks v l k → lo ≤ k ∧ k < hi := fun k hk => by
  rcases hk with ⟨h0, e⟩ | ⟨p, hp, e⟩
  · obtain ⟨q, cap, rfl, h1, h2, _⟩ := h.row h0
    injection e with e
    subst e
    exact ⟨h1, h2⟩
  · exact (h.bytes p hp).1.lt k e

set_option maxHeartbeats 4000000 in
set_option maxRecDepth 100000 in
theorem markPacketS_u (v : Value) (l : List Pk) (k0 : Nat) (w : World) {lo hi : Nat} (hv : PksR lo hi w v l) (hlo : lo ≤ w.heap.size) (hl : l.length ≤ 1100000) (hb : bulk (cont l) ≤ 2200000) (hk0 : k0 ≤ 10000000) :
    Calls Try.prog 44 #[v, .int .i64 k0] w fun r w' => r = .returned (.int .i64 ((k0 + mkN (cont l) : Nat) : Int)) ∧ PksR lo hi w' v (mkPs k0 l) ∧ Touched (pkBlocks v l) w w' := by
  have hsh := hv.sh
  obtain ⟨a, cap, rfl⟩ := hsh
  have hrow : 0 < l.length → ∃ q, a = some ⟨q, 0, none⟩ ∧ lo ≤ q ∧ q < hi := fun h0 => by
    obtain ⟨q, cap', e, h1, h2, _⟩ := hv.row h0
    injection e with e1 _ _
    exact ⟨q, e1, h1, h2⟩
  have hmN : ∀ j, mkN (cont (l.take j)) ≤ 6000000 := fun j => by
    have h1 := mkN_take_le l j
    have h2 : mkN (cont l) ≤ 6000000 := by simp only [mkN, cont_len]; omega
    omega
  have HV : Hid (PksR lo hi w (.slice a l.length cap) l) := hv
  clear hv
  go_enter Try.func44, Try.ntmps44
  go_wp2
  go_loopw [1, 5] (fun c i wr => ∃ j : Nat, j ≤ l.length ∧ i = .int .i64 j ∧ c = .int .i64 ((k0 + mkN (cont (l.take j)) : Nat) : Int) ∧ PksR lo hi wr (.slice a l.length cap) (mkPs k0 (l.take j) ++ l.drop j) ∧ Touched (pkBlocks (.slice a l.length cap) l) w wr) (fun _ i _ => l.length - (intOf i).toNat)
  case atStart => exact ⟨0, Nat.zero_le _, rfl, by simp [mkN, cont, bulk], by simpa [mkPs] using HV.out, Touched.refl _ _⟩
  case round =>
    obtain ⟨j, hj, rfl, rfl, hP, hT⟩ := hrel
    have hsz := hT.size
    by_cases hlt : j < l.length
    · obtain ⟨q, rfl, hq1, hq2⟩ := hrow (by omega)
      have hlen : (mkPs k0 (l.take j) ++ l.drop j).length = l.length := by rw [List.length_append, mkPs_len, List.length_take, List.length_drop]; omega
      have hP' : PksR lo hi wr (.slice (some ⟨q, 0, none⟩) (mkPs k0 (l.take j) ++ l.drop j).length cap) (mkPs k0 (l.take j) ++ l.drop j) := by rw [hlen]; exact hP
      obtain ⟨q', cap', e, g1, g2, g3, g4, g5, g6⟩ := hP'.row (by omega)
      injection e with e1 _ e3
      injection e1 with e1
      injection e1 with e1
      subst e1 e3
      rw [hlen] at g4
      have hjj : j < (mkPs k0 (l.take j) ++ l.drop j).length := by omega
      have hat := mk_at k0 l j hlt hjj
      obtain ⟨c0, c1, c2, c3⟩ := g5 j hjj
      rw [hat] at c0 c1 c2 c3
      have hpm : l[j] ∈ mkPs k0 (l.take j) ++ l.drop j := by rw [← hat]; exact List.getElem_mem hjj
      have hby := (hP'.bytes _ hpm).1
      have hne : l[j].2.ownBlock ≠ some q := g6 _ hpm
      obtain ⟨a', cap', e3⟩ := hby.own.shape
      have f0 := there_free' g4 (j * 4) (by omega)
      have f1 := there_free' g4 (j * 4 + 1) (by omega)
      have f2 := there_free' g4 (j * 4 + 2) (by omega)
      have hbj : l[j].1.bs.length ≤ 2200000 := by
        have : l[j].1 ∈ cont l := List.mem_map_of_mem (List.getElem_mem hlt)
        have := bulk_mem this
        omega
      have hmj := hmN j
      have HSt : Hid (mkN (cont (l.take (j + 1))) = mkN (cont (l.take j)) + 3 + l[j].1.bs.length) := mkN_take l j hlt
      have HM : Hid (∀ (w2 : World) (i f t : Int), i = ((k0 + mkN (cont (l.take j)) : Nat) : Int) → f = ((k0 + mkN (cont (l.take j)) + 1 : Nat) : Int) → t = ((k0 + mkN (cont (l.take j)) + 2 : Nat) : Int) → ((((wr.setCell ⟨q, j * 4, none⟩ (.int .i64 i)).setCell ⟨q, j * 4 + 1, none⟩ (.int .i64 f)).setCell ⟨q, j * 4 + 2, none⟩ (.int .i64 t))).grownBy w2 l[j].2.ownBlock → Own w2 lo l[j].2 (marksL (k0 + mkN (cont (l.take j)) + 3) l[j].1.bs.length) → PksR lo hi w2 (.slice (some ⟨q, 0, none⟩) l.length cap) (mkPs k0 (l.take (j + 1)) ++ l.drop (j + 1)) ∧ Touched (pkBlocks (.slice (some ⟨q, 0, none⟩) l.length cap) l) w w2) := fun w2 i f t ei ef et hg ho => by
        subst ei ef et
        refine ⟨?_, ?_⟩
        · have h := hP'.put j hjj ((k0 + mkN (cont (l.take j)) : Nat) : Int) ((k0 + mkN (cont (l.take j)) + 1 : Nat) : Int) ((k0 + mkN (cont (l.take j)) + 2 : Nat) : Int) (marksL (k0 + mkN (cont (l.take j)) + 3) l[j].1.bs.length) (by rw [marksL_len]; unfold maxLen; omega) (by rw [hat]; exact hg) (by rw [hat]; exact ho)
          rw [hat, hlen] at h
          rw [← mkPs_step k0 l j hlt]
          exact h
        · refine hT.trans ((Touched.rows (grown_trans (grown_trans (grown_set wr q _ _ (some q) rfl) (grown_set _ _ _ _ _ rfl)) (grown_set _ _ _ _ _ rfl)) (fun k e => .inl ⟨by omega, e⟩)).trans (Touched.rows hg fun k e => .inr ⟨l[j], List.getElem_mem hlt, e⟩))
      have HO : Hid (∀ u, (∀ k, l[j].2.ownBlock = some k → u.heap[k]? = wr.heap[k]?) → Own u lo l[j].2 l[j].1.bs) := fun u hu => hby.own.block hu
      have HNE : Hid (l[j].2.ownBlock ≠ some q) := hne
      clear hP hP' hpm hby hat g5 g6 g4 hrow HV hT hne hmN hjj hlen
      rw [e3] at c3 HM HO HNE
      clear e3
      generalize l[j].1 = p at *
      generalize mkN (cont (l.take j)) = M at *
      go_wp2_with (go_at_call 19; refine (markByteS_z _ p.bs _ (k0 + M + 3) (by omega) _ lo (HO.out _ (fun k ek => (by have hne : k ≠ q := fun e => HNE.out (by rw [ek, e]); rw [Below.heap_setCell _ _ _ _ (by simpa using hne), Below.heap_setCell _ _ _ _ (by simpa using hne), Below.heap_setCell _ _ _ _ (by simpa using hne)]))) (by omega) (by omega)).mono ?_; rintro r w1 ⟨rfl, ho1, hg1⟩; have HH : Hid (PksR lo hi w1 (.slice (some ⟨q, 0, none⟩) l.length cap) (mkPs k0 (l.take (j + 1)) ++ l.drop (j + 1)) ∧ Touched (pkBlocks (.slice (some ⟨q, 0, none⟩) l.length cap) l) w w1) := HM.out w1 _ _ _ (by omega) (by omega) (by omega) hg1 ho1; clear hg1 ho1)
      go_roundw
      case rel => exact ⟨j + 1, by omega, by go_num, by have := HSt.out; go_num, HH.out.1, HH.out.2⟩
      case measure => simp [intOf]; omega
    · obtain rfl : j = l.length := by omega
      rw [List.take_length, List.drop_length, List.append_nil] at hP
      go_wp2
      go_ret
      exact ⟨by simp, hP, hT⟩

set_option maxHeartbeats 4000000 in
set_option maxRecDepth 100000 in
theorem heldPacketS_u (v : Value) (l : List Pk) (k0 : Nat) (w : World) {lo hi : Nat} (hv : PksR lo hi w v (mkPs k0 l)) (hl : l.length ≤ 1100000) (hb : bulk (cont l) ≤ 2200000) (hk0 : k0 ≤ 10000000) :
    Calls Try.prog 46 #[v, .int .i64 k0] w fun r w' => r = .returned (.int .i64 ((k0 + mkN (cont l) : Nat) : Int)) ∧ w' = w := by
  obtain ⟨a, cap, rfl⟩ := hv.sh
  rw [mkPs_len] at hv ⊢
  have hmN : ∀ j, mkN (cont (l.take j)) ≤ 6000000 := fun j => by
    have h1 := mkN_take_le l j
    have h2 : mkN (cont l) ≤ 6000000 := by simp only [mkN, cont_len]; omega
    omega
  have hrow : ∀ j, j < l.length → ∃ q, a = some ⟨q, 0, none⟩ ∧ ∃ p' : Value, PkAt w q (j * 4) (mkPk (k0 + mkN (cont (l.take j))) (l[j]?.getD ([].headD (⟨0, 0, 0, []⟩, .slice none 0 0))).1, p') ∧ Bs w p' (marksL (k0 + mkN (cont (l.take j)) + 3) (l[j]?.getD ([].headD (⟨0, 0, 0, []⟩, .slice none 0 0))).1.bs.length) := fun j hj => by
    have hj' : j < (mkPs k0 l).length := by rw [mkPs_len]; exact hj
    obtain ⟨q, cap', e, h1, h2, h3, h4, h5, h6⟩ := hv.row (by omega)
    injection e with e1 _ _
    have h := h5 j hj'
    have hb' := (hv.bytes _ (List.getElem_mem hj'))
    rw [mkPs_get k0 l j hj hj'] at h hb'
    rw [List.getElem?_eq_getElem hj]
    exact ⟨q, e1, _, h, hb'.1.bs hb'.2⟩
  clear hv
  go_enter Try.func46, Try.ntmps46
  go_wp2
  go_loopw [1, 5] (fun c i wr => ∃ j : Nat, j ≤ l.length ∧ i = .int .i64 j ∧ c = .int .i64 ((k0 + mkN (cont (l.take j)) : Nat) : Int) ∧ wr = w) (fun _ i _ => l.length - (intOf i).toNat)
  case atStart => exact ⟨0, Nat.zero_le _, rfl, by simp [mkN, cont, bulk], rfl⟩
  case round =>
    obtain ⟨j, hj, rfl, rfl, hwr⟩ := hrel
    obtain rfl := hwr.symm
    by_cases hlt : j < l.length
    · obtain ⟨q, rfl, p', ⟨c0, c1, c2, c3⟩, hB⟩ := hrow j hlt
      have HSt : Hid (mkN (cont (l.take (j + 1))) = mkN (cont (l.take j)) + 3 + (l[j]?.getD ([].headD (⟨0, 0, 0, []⟩, .slice none 0 0))).1.bs.length) := by
        show _ = _
        rw [mkN_take l j hlt, List.getElem?_eq_getElem hlt]; rfl
      have hbj : (l[j]?.getD ([].headD (⟨0, 0, 0, []⟩, .slice none 0 0))).1.bs.length ≤ 2200000 := by
        rw [List.getElem?_eq_getElem hlt]
        have : l[j].1 ∈ cont l := List.mem_map_of_mem (List.getElem_mem hlt)
        have := bulk_mem this
        show l[j].1.bs.length ≤ _
        omega
      have hmj := hmN j
      obtain ⟨a', cap', e3⟩ := hB.sh
      subst e3
      clear hrow hmN hwr
      generalize (l[j]?.getD ([].headD (⟨0, 0, 0, []⟩, .slice none 0 0))).1 = p at *
      generalize mkN (cont (l.take j)) = M at *
      have e0 : w.cell? ⟨q, j * 4, none⟩ = some (.int .i64 ((k0 : Int) + M)) := by rw [c0]; simp [mkPk]
      have e1 : w.cell? ⟨q, j * 4 + 1, none⟩ = some (.int .i64 ((k0 : Int) + M + 1)) := by rw [c1]; simp [mkPk]
      have e2 : w.cell? ⟨q, j * 4 + 2, none⟩ = some (.int .i64 ((k0 : Int) + M + 1 + 1)) := by rw [c2]; simp [mkPk]; omega
      clear c0 c1 c2
      go_wp2_with (go_at_call 73; refine (heldByteS_z _ _ (k0 + M + 3) _ (by omega) _ hB (by omega) (by omega)).mono ?_; rintro r w1 ⟨rfl, hw1⟩; obtain rfl := hw1.symm)
      go_roundw
      case rel => exact ⟨j + 1, by omega, by go_num, by have := HSt.out; go_num, trivial⟩
      case measure => simp [intOf]; omega
    · obtain rfl : j = l.length := by omega
      go_wp2
      go_ret
      exact ⟨by simp, rfl⟩
end Go.Proofs.Ythondmpnleleiaa
