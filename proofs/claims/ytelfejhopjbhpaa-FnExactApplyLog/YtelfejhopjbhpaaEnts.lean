/-
  Slices of entries: what a slice value holds.
-/
import Derived.Test.YtelfejhopjbhpaaEntOne
namespace Go.Proofs.Ytelfejhopjbhpaa
open Go.RowKit
set_option linter.unusedVariables false

set_option maxHeartbeats 2000000 in
theorem szEntryS_any (v : Value) (l : List Ent) (w : World) (hv : Es w v l) :
    Calls Try.prog 11 #[v, .int .i64 1048576] w fun r w' =>
      (∃ s : Int, r = .returned (.int .i64 s) ∧ s ≤ 1048576 ∧ (0 ≤ s → l.length ≤ 1048576)) ∧ Below w.heap.size w w' := by
  have hV : Hid (Es w v l) := hv
  obtain ⟨hl, hf, a, cap, rfl, hc⟩ := hv
  unfold maxLen at hl
  go_enter Try.func11, Try.ntmps11
  go_wp2
  · go_ret
    exact ⟨⟨_, rfl, by omega, by omega⟩, Below.refl _ _⟩
  · go_loopw [1, 5] (fun s i wr => ∃ (k : Nat) (x : Int), k ≤ l.length ∧ i = .int .i64 k ∧ s = .int .i64 x ∧ 0 ≤ x ∧ x ≤ 1048576 ∧ Below w.heap.size w wr) (fun _ i _ => l.length - (intOf i).toNat)
    case atStart => exact ⟨0, _, Nat.zero_le _, rfl, rfl, by omega, by omega, Below.refl _ _⟩
    case round =>
      obtain ⟨k, x, hk, rfl, rfl, hx, hx', hB⟩ := hrel
      by_cases hlt : k < l.length
      · obtain ⟨b, off, rfl, hj⟩ := hc k hlt
        obtain ⟨c0, c1, c2, c3, c4, c5, c6⟩ := (hj k hlt).below hB
        have hfk := hf l[k] (List.getElem_mem hlt)
        have hsz := hB.size
        clear hc hj
        go_wp2_with (go_at_call 36; refine (szEntry_any l[k] _ hx hx' hfk _).mono ?_; rintro r w1 ⟨⟨s, rfl, hs⟩, hb⟩)
        · go_ret
          exact ⟨⟨_, rfl, by omega, by omega⟩, hB.trans (hb.mono (by omega))⟩
        · go_roundw
          case rel => exact ⟨k + 1, s, by omega, by go_num, rfl, by omega, by omega, hB.trans (hb.mono (by omega))⟩
          case measure => simp [intOf]; omega
      · go_wp2
        go_ret
        exact ⟨⟨_, rfl, by omega, by omega⟩, hB⟩

theorem infoEntry : (Try.prog.info? 35).map (fun i => (i.zero, i.size, i.bytes)) = some (some (.agg #[.int .i64 0, .int .i64 0, .int .i64 0, .int .i64 0, .string .empty, .string .empty, .string .empty]), 7, 80) := by kernel_rfl

theorem made_some (w : World) (z : Array Value) (n i : Nat) (t : TypeId) (hi : i < n) : ∃ y, (w.alloc (.cells (madeCells z n) t)).cell? ⟨w.heap.size, i, none⟩ = some y := by
  rw [World.cell?_alloc_new]
  exact ⟨_, Array.getElem?_eq_getElem (by rw [size_madeCells]; exact hi)⟩

/-- what has been copied after k rounds -/
structure CopiedE (w wr : World) (l : List Ent) (k : Nat) : Prop where
  below : Below w.heap.size w wr
  size : w.heap.size < wr.heap.size
  free : ∀ i, wr.frozen? ⟨w.heap.size, i, none⟩ = false
  there : ∀ i, i < l.length * 7 → ∃ y, wr.cell? ⟨w.heap.size, i, none⟩ = some y
  ents : ∀ j (h : j < l.length), j < k → EntAt wr w.heap.size (j * 7) l[j]

theorem CopiedE.start (w : World) (l : List Ent) (z : Array Value) : CopiedE w (w.alloc (.cells (madeCells z (l.length * 7)) 35)) l 0 :=
  ⟨(Below.refl _ _).alloc (Nat.le_refl _) _, by simp, fun i => by simp, fun i hi => made_some w z _ i _ hi, fun j _ h => absurd h (by omega)⟩

theorem CopiedE.later {w wr w1 : World} {l : List Ent} {k : Nat} (h : CopiedE w wr l k) (hb : Below wr.heap.size wr w1) : CopiedE w w1 l k := by
  refine ⟨h.below.trans (hb.mono (Nat.le_of_lt h.size)), Nat.lt_of_lt_of_le h.size hb.size, fun i => (hb.frozen h.size).trans (h.free i), fun i hi => ?_, fun j hj hjk => (h.ents j hj hjk).below hb⟩
  obtain ⟨y, hy⟩ := h.there i hi
  exact ⟨y, (hb.cell h.size).trans hy⟩

theorem set_there {w : World} {b i j : Nat} {x : Value} (h : ∃ y, w.cell? ⟨b, i, none⟩ = some y) : ∃ y, (w.setCell ⟨b, j, none⟩ x).cell? ⟨b, i, none⟩ = some y := by
  obtain ⟨y, hy⟩ := h
  by_cases e : j = i
  · subst e
    exact ⟨x, World.cell?_setCell_same w _ _ hy⟩
  · exact ⟨y, (World.cell?_setCell_other w _ _ _ (by intro h; injection h with _ h2 _; exact e h2)).trans hy⟩
theorem set_other {w : World} {b i j : Nat} {x : Value} (h : j ≠ i) : (w.setCell ⟨b, j, none⟩ x).cell? ⟨b, i, none⟩ = w.cell? ⟨b, i, none⟩ :=
  World.cell?_setCell_other w _ _ _ (by intro e; injection e with _ h2 _; exact h h2)
theorem set_same {w : World} {b i : Nat} {x : Value} (h : ∃ y, w.cell? ⟨b, i, none⟩ = some y) : (w.setCell ⟨b, i, none⟩ x).cell? ⟨b, i, none⟩ = some x := by
  obtain ⟨y, hy⟩ := h
  exact World.cell?_setCell_same w _ _ hy

/-- an entry stored, cell by cell -/
def putEnt (w : World) (b off : Nat) (e : Ent) : World :=
  ((((((w.setCell ⟨b, off, none⟩ (.int .i64 e.t)).setCell ⟨b, off + 1, none⟩ (.int .i64 e.cl)).setCell ⟨b, off + 2, none⟩ (.int .i64 e.sq)).setCell ⟨b, off + 3, none⟩ (.int .i64 e.op)).setCell ⟨b, off + 4, none⟩ (.string e.k)).setCell ⟨b, off + 5, none⟩ (.string e.v)).setCell ⟨b, off + 6, none⟩ (.string e.o)

theorem putEnt_other (w : World) (b off : Nat) (e : Ent) (i : Nat) (h : i < off ∨ off + 6 < i) : (putEnt w b off e).cell? ⟨b, i, none⟩ = w.cell? ⟨b, i, none⟩ := by
  unfold putEnt
  rw [set_other (by omega), set_other (by omega), set_other (by omega), set_other (by omega), set_other (by omega), set_other (by omega), set_other (by omega)]
theorem putEnt_at (w : World) (b off : Nat) (e : Ent) (h : ∀ i, i < 7 → ∃ y, w.cell? ⟨b, off + i, none⟩ = some y) : EntAt (putEnt w b off e) b off e := by
  unfold putEnt EntAt
  have h0 := h 0 (by omega)
  have h1 := h 1 (by omega)
  have h2 := h 2 (by omega)
  have h3 := h 3 (by omega)
  have h4 := h 4 (by omega)
  have h5 := h 5 (by omega)
  have h6 := h 6 (by omega)
  rw [Nat.add_zero] at h0
  refine ⟨?_, ?_, ?_, ?_, ?_, ?_, ?_⟩
  · rw [set_other (by omega), set_other (by omega), set_other (by omega), set_other (by omega), set_other (by omega), set_other (by omega), set_same h0]
  · rw [set_other (by omega), set_other (by omega), set_other (by omega), set_other (by omega), set_other (by omega), set_same (set_there h1)]
  · rw [set_other (by omega), set_other (by omega), set_other (by omega), set_other (by omega), set_same (set_there (set_there h2))]
  · rw [set_other (by omega), set_other (by omega), set_other (by omega), set_same (set_there (set_there (set_there h3)))]
  · rw [set_other (by omega), set_other (by omega), set_same (set_there (set_there (set_there (set_there h4))))]
  · rw [set_other (by omega), set_same (set_there (set_there (set_there (set_there (set_there h5)))))]
  · rw [set_same (set_there (set_there (set_there (set_there (set_there (set_there h6))))))]
theorem putEnt_frozen (w : World) (b off : Nat) (e : Ent) (a : Addr) : (putEnt w b off e).frozen? a = w.frozen? a := by
  unfold putEnt
  simp only [World.frozen?_setCell]
theorem putEnt_size (w : World) (b off : Nat) (e : Ent) : (putEnt w b off e).heap.size = w.heap.size := by
  unfold putEnt
  simp [World.setCell]
theorem putEnt_below {B : Nat} {w wr : World} (h : Below B w wr) (b off : Nat) (hb : B ≤ b) (e : Ent) : Below B w (putEnt wr b off e) :=
  ((((((h.setCell hb _).setCell hb _).setCell hb _).setCell hb _).setCell hb _).setCell hb _).setCell hb _

theorem CopiedE.step {w wr : World} {l : List Ent} {k : Nat} (h : CopiedE w wr l k) (hk : k < l.length) : CopiedE w (putEnt wr w.heap.size (k * 7) l[k]) l (k + 1) := by
  refine ⟨putEnt_below h.below _ _ (Nat.le_refl _) _, by rw [putEnt_size]; exact h.size, fun i => by rw [putEnt_frozen]; exact h.free i, fun i hi => ?_, fun j hj hjk => ?_⟩
  · unfold putEnt
    exact set_there (set_there (set_there (set_there (set_there (set_there (set_there (h.there i hi)))))))
  · by_cases e : j = k
    · subst e
      exact putEnt_at _ _ _ _ (fun i hi => h.there _ (by omega))
    · obtain ⟨h0, h1, h2, h3, h4, h5, h6⟩ := h.ents j hj (by omega)
      have hlt : j < k := by omega
      exact ⟨(putEnt_other _ _ _ _ _ (by omega)).trans h0, (putEnt_other _ _ _ _ _ (by omega)).trans h1, (putEnt_other _ _ _ _ _ (by omega)).trans h2, (putEnt_other _ _ _ _ _ (by omega)).trans h3, (putEnt_other _ _ _ _ _ (by omega)).trans h4, (putEnt_other _ _ _ _ _ (by omega)).trans h5, (putEnt_other _ _ _ _ _ (by omega)).trans h6⟩

theorem CopiedE.es {w wr : World} {l : List Ent} (h : CopiedE w wr l l.length) (hl : l.length ≤ maxLen) (hf : ∀ e ∈ l, e.fits) : Es wr (.slice (some ⟨w.heap.size, 0, none⟩) l.length l.length) l :=
  ⟨hl, hf, _, _, rfl, fun i hi => ⟨_, _, rfl, fun j hj => by rw [Nat.zero_add]; exact h.ents j hj hj⟩⟩

set_option maxHeartbeats 2000000 in
set_option maxRecDepth 100000 in
theorem toEntryS_any (v : Value) (l : List Ent) (w : World) (hv : Es w v l) (hl' : l.length ≤ 1048576) :
    Calls Try.prog 12 #[v] w fun r w' => ∃ g, w.heap.size ≤ g ∧ r = .returned (.slice (some ⟨g, 0, none⟩) l.length l.length) ∧ Es w' (.slice (some ⟨g, 0, none⟩) l.length l.length) l ∧ Below w.heap.size w w' ∧ g < w'.heap.size ∧ ∀ i, w'.frozen? ⟨g, i, none⟩ = false := by
  obtain ⟨hl, hf, a, cap, rfl, hc⟩ := hv
  obtain ⟨i0, hi, hz0, hz1, hz2⟩ := info_parts infoEntry
  have hmk : ∀ u : World, (Instr.makeSlice 23 (.int .i64 (l.length : Int)) (.int .i64 (l.length : Int))).run Try.prog u =
      .ok (.slice (some ⟨u.heap.size, 0, none⟩) l.length l.length) (u.alloc (.cells (madeCells #[.int .i64 0, .int .i64 0, .int .i64 0, .int .i64 0, .string .empty, .string .empty, .string .empty] (l.length * 7)) 35)) := fun u => by
    have h := run_make (P := Try.prog) u 23 35 i0 _ Try.underlying23 hi hz0 .i64 .i64 (l.length : Int) (l.length : Int) (by omega) (Int.le_refl _) (by rw [hz2]; omega) (by omega)
    simpa [hz1, Value.cells] using h
  go_enter Try.func12, Try.ntmps12
  go_wp2
  go_loopw [4] (fun i wr => ∃ k : Nat, k ≤ l.length ∧ i = .int .i64 k ∧ CopiedE w wr l k) (fun i _ => l.length - (intOf i).toNat)
  case atStart => exact ⟨0, Nat.zero_le _, rfl, CopiedE.start w l _⟩
  case round =>
    obtain ⟨k, hk, rfl, hC⟩ := hrel
    by_cases hlt : k < l.length
    · obtain ⟨b, off, rfl, hcell⟩ := hc k hlt
      obtain ⟨c0, c1, c2, c3, c4, c5, c6⟩ := (hcell k hlt).below hC.below
      clear hcell hc
      go_wp2_with (go_at_call 37; refine (toEntry_any l[k] _).mono ?_; rintro r w1 ⟨rfl, hb⟩; have hC1 := hC.later hb; obtain ⟨y0, d0⟩ := hC1.there (k * 7) (by omega); obtain ⟨y1, d1⟩ := hC1.there (k * 7 + 1) (by omega); obtain ⟨y2, d2⟩ := hC1.there (k * 7 + 2) (by omega); obtain ⟨y3, d3⟩ := hC1.there (k * 7 + 3) (by omega); obtain ⟨y4, d4⟩ := hC1.there (k * 7 + 4) (by omega); obtain ⟨y5, d5⟩ := hC1.there (k * 7 + 5) (by omega); obtain ⟨y6, d6⟩ := hC1.there (k * 7 + 6) (by omega); have hfr := hC1.free; clear c0 c1 c2 c3 c4 c5 c6 hb)
      go_roundw
      case rel => exact ⟨k + 1, by omega, by go_num, hC1.step hlt⟩
      case measure => simp [intOf]; omega
    · have e : k = l.length := by omega
      subst e
      go_wp2
      go_ret
      exact ⟨_, Nat.le_refl _, rfl, hC.es hl hf, hC.below, hC.size, hC.free⟩
end Go.Proofs.Ytelfejhopjbhpaa
