/-
  laws.toPacket, toPacketS: copies in memory of their own.
-/
import Derived.Test.YthondmpnleleiaaPkSz
import Derived.Test.YthondmpnleleiaaCopyB
namespace Go.Proofs.Ythondmpnleleiaa
open Go.RowKit
set_option linter.unusedVariables false
set_option linter.unusedSimpArgs false

set_option maxHeartbeats 2000000 in
set_option maxRecDepth 100000 in
theorem toPacket_any (i f t : Int) (a : Option Addr) (cap : Nat) (l : List Int) (w : World) (hv : Bs w (.slice a l.length cap) l) (hl : l.length ≤ 1048576) :
    Calls Try.prog 67 #[.agg #[.int .i64 i, .int .i64 f, .int .i64 t, .slice a l.length cap]] w fun e w' => ∃ q, e = .returned (.agg #[.int .i64 i, .int .i64 f, .int .i64 t, .slice (some ⟨q, 0, none⟩) l.length l.length]) ∧ Own w' w.heap.size (.slice (some ⟨q, 0, none⟩) l.length l.length) l ∧ Below w.heap.size w w' := by
  have HT : Hid (∀ w', Below w.heap.size w w' → Calls Try.prog 15 #[.slice a l.length cap] w' fun e w'' => ∃ q, e = .returned (.slice (some ⟨q, 0, none⟩) l.length l.length) ∧ w'.heap.size ≤ q ∧ q < w''.heap.size ∧ Own w'' w'.heap.size (.slice (some ⟨q, 0, none⟩) l.length l.length) l ∧ Below w'.heap.size w' w'') := fun w' hb => toByteS_own _ l w' (hv.below hb) hl
  clear hv
  have hb0 : Hid (Below w.heap.size w (((w.alloc (.cells #[.int .i64 i, .int .i64 f, .int .i64 t, .slice a l.length cap] 90)).alloc (.cells #[.int .i64 0, .int .i64 0, .int .i64 0, .slice none 0 0] 48)).alloc (.cells #[.int .i64 i, .int .i64 f, .int .i64 t, .slice none 0 0] 48))) := (((Below.refl _ _).alloc (Nat.le_refl _) _).alloc (by simp) _).alloc (by simp; omega) _
  go_enter Try.func67, Try.ntmps67
  go_wp2_with (go_at_call 15; refine (HT.out _ hb0.out).mono ?_; rintro e w1 ⟨q, rfl, hq1, hq2, ho1, hb1⟩; obtain ⟨hcc, hff⟩ := bcell hb1; have hz1 := hb1.size; simp at hz1 hq1; have r0 : w1.cell? ⟨w.heap.size + 1, 0, none⟩ = some (.int .i64 0) := (hcc _ 0 (by simp)).trans (by simp [go_sem]); have r1 : w1.cell? ⟨w.heap.size + 1, 1, none⟩ = some (.int .i64 0) := (hcc _ 1 (by simp)).trans (by simp [go_sem]); have r2 : w1.cell? ⟨w.heap.size + 1, 2, none⟩ = some (.int .i64 0) := (hcc _ 2 (by simp)).trans (by simp [go_sem]); have r3 : w1.cell? ⟨w.heap.size + 1, 3, none⟩ = some (.slice none 0 0) := (hcc _ 3 (by simp)).trans (by simp [go_sem]); have q0 : w1.cell? ⟨w.heap.size + 2, 0, none⟩ = some (.int .i64 i) := (hcc _ 0 (by simp)).trans (by simp [go_sem]); have q1 : w1.cell? ⟨w.heap.size + 2, 1, none⟩ = some (.int .i64 f) := (hcc _ 1 (by simp)).trans (by simp [go_sem]); have q2 : w1.cell? ⟨w.heap.size + 2, 2, none⟩ = some (.int .i64 t) := (hcc _ 2 (by simp)).trans (by simp [go_sem]); have q3 : w1.cell? ⟨w.heap.size + 2, 3, none⟩ = some (.slice none 0 0) := (hcc _ 3 (by simp)).trans (by simp [go_sem]))
  refine bodyPost_ret (v := .agg #[.int .i64 i, .int .i64 f, .int .i64 t, .slice (some ⟨q, 0, none⟩) l.length l.length]) (by simp [results, Try.results67, go_sem, r0, r1, r2, r3]) rfl ⟨q, rfl, ?_, ?_⟩
  · exact (((((ho1.setLow (b := w.heap.size + 1 + 1) (by simp) _).setLow (b := w.heap.size + 1) (by simp) _).setLow (b := w.heap.size + 1) (by simp) _).setLow (b := w.heap.size + 1) (by simp) _).setLow (b := w.heap.size + 1) (by simp) _).le (by simp; omega)
  · exact (((((hb0.out.trans (hb1.mono (by simp; omega))).setCell (show w.heap.size ≤ w.heap.size + 1 + 1 by omega) _).setCell (Nat.le_succ _) _).setCell (Nat.le_succ _) _).setCell (Nat.le_succ _) _).setCell (Nat.le_succ _) _

/-- a copy under way -/
structure CopP (w wr : World) (l L : List Pk) (k : Nat) : Prop where
  below : Below w.heap.size w wr
  size : w.heap.size < wr.heap.size
  there : wr.there w.heap.size 0 (l.length * 4)
  len : L.length = k
  con : cont L = cont (l.take k)
  rows : ∀ j (h : j < L.length), PkAt wr w.heap.size (j * 4) L[j]
  bytes : ∀ p ∈ L, Own wr (w.heap.size + 1) p.2 p.1.bs
  apart : L.Pairwise fun x y => Far x.2 y.2
theorem CopP.later {w wr w1 : World} {l L : List Pk} {k : Nat} (h : CopP w wr l L k) (hb : Below wr.heap.size wr w1) : CopP w w1 l L k :=
  ⟨h.below.trans (hb.mono (Nat.le_of_lt h.size)), Nat.lt_of_lt_of_le h.size hb.size, there_below h.there hb h.size, h.len, h.con, fun j hj => (h.rows j hj).below hb, fun p hp => (h.bytes p hp).below hb, h.apart⟩
theorem PkAt.set {w : World} {q off : Nat} {p : Pk} (h : PkAt w q off p) (o : Nat) (x : Value) (ho : off + 4 ≤ o) : PkAt (w.setCell ⟨q, o, none⟩ x) q off p := by
  obtain ⟨h0, h1, h2, h3⟩ := h
  have c : ∀ j, j < 4 → (w.setCell ⟨q, o, none⟩ x).cell? ⟨q, off + j, none⟩ = w.cell? ⟨q, off + j, none⟩ := fun j hj => World.cell?_setCell_other w _ _ _ (by intro e; injection e with _ h2 _; omega)
  exact ⟨(c 0 (by omega)).trans h0, (c 1 (by omega)).trans h1, (c 2 (by omega)).trans h2, (c 3 (by omega)).trans h3⟩
theorem four_at {w : World} {q o : Nat} {a b c d : Value} (h : w.there q o 4) :
    ∃ u, u = ((((w.setCell ⟨q, o, none⟩ a).setCell ⟨q, o + 1, none⟩ b).setCell ⟨q, o + 2, none⟩ c).setCell ⟨q, o + 3, none⟩ d) ∧ u.cell? ⟨q, o, none⟩ = some a ∧ u.cell? ⟨q, o + 1, none⟩ = some b ∧ u.cell? ⟨q, o + 2, none⟩ = some c ∧ u.cell? ⟨q, o + 3, none⟩ = some d := by
  have hr := World.rangeAt_setCells_same w q o [a, b, c, d] (by simpa using h)
  refine ⟨_, rfl, hr 0 a rfl, hr 1 b rfl, hr 2 c rfl, hr 3 d rfl⟩
theorem CopP.step {w w0 wr : World} {l L : List Pk} {k : Nat} (h : CopP w wr l L k) (hk : k < l.length) (u : Value) (hu : Own wr w0.heap.size u l[k].1.bs) (hL : ∀ p ∈ L, ∀ j, p.2.ownBlock = some j → j < w0.heap.size) (hw : w.heap.size < w0.heap.size) :
    CopP w ((((wr.setCell ⟨w.heap.size, k * 4, none⟩ (.int .i64 l[k].1.id)).setCell ⟨w.heap.size, k * 4 + 1, none⟩ (.int .i64 l[k].1.fr)).setCell ⟨w.heap.size, k * 4 + 2, none⟩ (.int .i64 l[k].1.to)).setCell ⟨w.heap.size, k * 4 + 3, none⟩ u) l (L ++ [(l[k].1, u)]) (k + 1) := by
  have hle : w.heap.size ≤ w.heap.size := Nat.le_refl _
  have hb : ∀ (v : Value) (x : World) (bs : List Int) (o : Nat) (y : Value), Own x (w.heap.size + 1) v bs → Own (x.setCell ⟨w.heap.size, o, none⟩ y) (w.heap.size + 1) v bs := fun v x bs o y ho => ho.setLow (by omega) _
  refine ⟨(((h.below.setCell hle _).setCell hle _).setCell hle _).setCell hle _, by simpa [World.setCell] using h.size, there_set' (there_set' (there_set' (there_set' h.there _ _ _) _ _ _) _ _ _) _ _ _, by rw [List.length_append, h.len]; rfl, ?_, fun j hj => ?_, fun p hp => ?_, ?_⟩
  · rw [List.take_succ_eq_append_getElem hk]
    simp only [cont, List.map_append] at *
    rw [show L.map Prod.fst = (l.take k).map Prod.fst from h.con]; rfl
  · rw [List.length_append, h.len] at hj
    rcases Nat.lt_or_ge j k with hj' | hj'
    · have hjl : j < L.length := by rw [h.len]; exact hj'
      rw [List.getElem_append_left hjl]
      exact ((((h.rows j hjl).set _ _ (by omega)).set _ _ (by omega)).set _ _ (by omega)).set _ _ (by omega)
    · have hjk : j = k := by simp at hj; omega
      subst hjk
      rw [List.getElem_append_right (by rw [h.len]; exact Nat.le_refl _)]
      simp only [h.len, Nat.sub_self, List.getElem_cons_zero]
      obtain ⟨x, hx, h0, h1, h2, h3⟩ := four_at (w := wr) (q := w.heap.size) (o := j * 4) (a := .int .i64 l[j].1.id) (b := .int .i64 l[j].1.fr) (c := .int .i64 l[j].1.to) (d := u) (there_sub h.there _ _ (by omega))
      subst hx
      exact ⟨h0, h1, h2, h3⟩
  · rcases List.mem_append.1 hp with hp | hp
    · exact hb _ _ _ _ _ (hb _ _ _ _ _ (hb _ _ _ _ _ (hb _ _ _ _ _ (h.bytes p hp))))
    · rw [List.mem_singleton.1 hp]
      exact hb _ _ _ _ _ (hb _ _ _ _ _ (hb _ _ _ _ _ (hb _ _ _ _ _ (hu.le hw))))
  · refine List.pairwise_append.2 ⟨h.apart, List.pairwise_singleton _ _, fun x hx y hy j e1 e2 => ?_⟩
    rw [List.mem_singleton.1 hy] at e2
    have h1 := hL x hx j e1
    have h2 := (hu.2.lt j e2).1
    omega
theorem CopP.lts {w wr : World} {l L : List Pk} {k : Nat} (h : CopP w wr l L k) : ∀ p ∈ L, ∀ j, p.2.ownBlock = some j → j < wr.heap.size := fun p hp j e => ((h.bytes p hp).2.lt j e).2
theorem CopP.r {w wr : World} {l L : List Pk} (h : CopP w wr l L l.length) (hl : l.length ≤ maxLen) (hbl : ∀ p ∈ l, p.1.bs.length ≤ maxLen) : PksR w.heap.size wr.heap.size wr (.slice (some ⟨w.heap.size, 0, none⟩) l.length l.length) L := by
  have e : L.length = l.length := h.len
  refine ⟨by omega, by rw [e]; exact ⟨_, _, rfl⟩, fun h0 => ?_, fun p hp => ⟨.of ((h.bytes p hp).le (Nat.le_succ _)), ?_⟩, h.apart⟩
  · exact ⟨w.heap.size, l.length, by rw [e], Nat.le_refl _, h.size, h.size, by rw [e]; exact h.there, fun j hj => h.rows j (by omega), fun p hp e => by have := ((h.bytes p hp).2.lt _ e).1; omega⟩
  · have hm : p.1 ∈ cont l := by
      have : p.1 ∈ cont L := List.mem_map_of_mem hp
      rwa [h.con, List.take_length] at this
    obtain ⟨p', hp', e'⟩ := List.mem_map.1 hm
    rw [← e']; exact hbl p' hp'

set_option maxHeartbeats 4000000 in
set_option maxRecDepth 100000 in
theorem toPacketS_u (v : Value) (l : List Pk) (w : World) (hv : Pks w v l) (hl' : l.length ≤ 1048576) (hbl : ∀ p ∈ l, p.1.bs.length ≤ 1048576) :
    Calls Try.prog 36 #[v] w fun r w' => ∃ q L, r = .returned (.slice (some ⟨q, 0, none⟩) l.length l.length) ∧ cont L = cont l ∧ PksR w.heap.size w'.heap.size w' (.slice (some ⟨q, 0, none⟩) l.length l.length) L ∧ Below w.heap.size w w' := by
  have HV : Hid (Pks w v l) := hv
  obtain ⟨hl, _, a, cap, rfl, hc⟩ := hv
  obtain ⟨i0, hi, hz0, hz1, hz2⟩ := info_parts infoPk
  have hmk : ∀ u : World, (Instr.makeSlice 27 (.int .i64 (l.length : Int)) (.int .i64 (l.length : Int))).run Try.prog u =
      .ok (.slice (some ⟨u.heap.size, 0, none⟩) l.length l.length) (u.alloc (.cells (madeCells #[.int .i64 0, .int .i64 0, .int .i64 0, .slice none 0 0] (l.length * 4)) 48)) := fun u => by
    have h := run_make (P := Try.prog) u 27 48 i0 _ Try.underlying27 hi hz0 .i64 .i64 (l.length : Int) (l.length : Int) (by omega) (Int.le_refl _) (by rw [hz2]; omega) (by omega)
    simpa [hz1, Value.cells] using h
  go_enter Try.func36, Try.ntmps36
  go_wp2
  go_loopw [4] (fun i wr => ∃ (k : Nat) (L : List Pk), k ≤ l.length ∧ i = .int .i64 k ∧ CopP w wr l L k) (fun i _ => l.length - (intOf i).toNat)
  case atStart => exact ⟨0, [], Nat.zero_le _, rfl, ⟨(Below.refl _ _).alloc (Nat.le_refl _) _, by simp, by have h := there_new' w (madeCells #[.int .i64 0, .int .i64 0, .int .i64 0, .slice none 0 0] (l.length * 4)) 48; rwa [size_madeCells] at h, rfl, rfl, fun j hj => absurd hj (by simp), fun p hp => absurd hp (by simp), .nil⟩⟩
  case round =>
    obtain ⟨k, L, hk, rfl, hC⟩ := hrel
    have hsz := hC.size
    by_cases hlt : k < l.length
    · obtain ⟨b, off, rfl, hcell⟩ := hc k hlt
      obtain ⟨c0, c1, c2, c3⟩ := (hcell k hlt).below hC.below
      have hbs : Bs wr l[k].2 l[k].1.bs := (HV.out.bs k hlt).below hC.below
      obtain ⟨a', cap', e3⟩ := hbs.sh
      rw [e3] at c3 hbs
      have hbk := hbl _ (List.getElem_mem hlt)
      have HC : Hid (CopP w wr l L k) := hC
      have HS : Hid (∀ w1 u, CopP w w1 l L k → Own w1 wr.heap.size u l[k].1.bs → CopP w ((((w1.setCell ⟨w.heap.size, k * 4, none⟩ (.int .i64 l[k].1.id)).setCell ⟨w.heap.size, k * 4 + 1, none⟩ (.int .i64 l[k].1.fr)).setCell ⟨w.heap.size, k * 4 + 2, none⟩ (.int .i64 l[k].1.to)).setCell ⟨w.heap.size, k * 4 + 3, none⟩ u) l (L ++ [(l[k].1, u)]) (k + 1)) := fun w1 u h1 hu => h1.step hlt u hu hC.lts hC.size
      clear hcell hc hC e3 hbl
      generalize l[k] = p at *
      go_wp2_with (go_at_call 67; refine (toPacket_any _ _ _ _ _ _ _ hbs hbk).mono ?_; rintro r w1 ⟨q, rfl, ho1, hb1⟩; have HC1 : Hid (CopP w w1 l L k) := HC.out.later hb1; obtain ⟨y0, d0⟩ := there_get' HC1.out.there (k * 4) (by omega); obtain ⟨y1, d1⟩ := there_get' HC1.out.there (k * 4 + 1) (by omega); obtain ⟨y2, d2⟩ := there_get' HC1.out.there (k * 4 + 2) (by omega); obtain ⟨y3, d3⟩ := there_get' HC1.out.there (k * 4 + 3) (by omega); have f0 := there_free' HC1.out.there (k * 4) (by omega); have f1 := there_free' HC1.out.there (k * 4 + 1) (by omega); have f2 := there_free' HC1.out.there (k * 4 + 2) (by omega); have f3 := there_free' HC1.out.there (k * 4 + 3) (by omega); clear c0 c1 c2 c3 hb1)
      go_roundw
      case rel => exact ⟨k + 1, _, by omega, by go_num, HS.out _ _ HC1.out ho1⟩
      case measure => simp [intOf]; omega
    · have e : k = l.length := by omega
      subst e
      have hc' : cont L = cont l := by rw [hC.con, List.take_length]
      go_wp2
      go_ret
      exact ⟨_, L, rfl, hc', hC.r hl fun p hp => (by have := hbl p hp; unfold maxLen; omega), hC.below⟩
end Go.Proofs.Ythondmpnleleiaa
