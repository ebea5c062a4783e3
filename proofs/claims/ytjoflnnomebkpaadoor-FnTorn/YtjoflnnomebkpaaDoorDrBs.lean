/-
  spec.l2badStable.
-/
import Derived.Test.YtjoflnnomebkpaaDoorEntSet
import Derived.Test.YtjoflnnomebkpaaDoorDrSt
namespace Go.Proofs.YtjoflnnomebkpaaDoor
open Go.RowKit
set_option linter.unusedVariables false
set_option linter.unusedSimpArgs false

def entAtD (L : List Ent) (i : Nat) : Ent := L[i]?.getD ⟨0, 0, 0, 0, ⟨#[]⟩, ⟨#[]⟩, ⟨#[]⟩⟩
theorem entAtD_get {L : List Ent} {i : Nat} (h : i < L.length) : entAtD L i = L[i] := by
  unfold entAtD
  rw [List.getElem?_eq_getElem h]
  rfl
/-- a state with one thing spoilt: term, vote, log, where the draws stand -/
def badS (l : List Int) (k : Nat) (t vo : Int) (L : List Ent) : Int × Int × List Ent × Nat :=
  if pickV l k 6 = 0 then (-1, vo, L, k + 1)
  else if pickV l k 6 = 1 then (t, 8, L, k + 1)
  else if pickV l k 6 = 2 then (0, 1, L, k + 1)
  else if pickV l k 6 = 3 then (1073741825, vo, L, k + 1)
  else if L.length = 0 then (t, vo, L, k + 1)
  else if pickV l k 6 = 4 then (t, vo, L.set (pickV l (k + 1) L.length) (setTE ((pickV l (k + 1 + 1) 9 : Nat) : Int) (entAtD L (pickV l (k + 1) L.length))), k + 1 + 1 + 1)
  else (t, vo, L.set (pickV l (k + 1) L.length) (setCE (badC l (k + 1 + 1) (entAtD L (pickV l (k + 1) L.length)).cmd).1 (entAtD L (pickV l (k + 1) L.length))), (badC l (k + 1 + 1) (entAtD L (pickV l (k + 1) L.length)).cmd).2)
theorem badS_len (l : List Int) (k : Nat) (t vo : Int) (L : List Ent) : (badS l k t vo L).2.2.1.length = L.length := by
  unfold badS
  split
  · rfl
  split
  · rfl
  split
  · rfl
  split
  · rfl
  split
  · rfl
  split <;> simp
/-- what a spoilt state's call leaves -/
def BadAt (w0 w w' : World) (g : Nat) (v : Value) (l : List Int) (u : Value) (L : List Ent) (K : Nat) : Prop :=
  OwnE w' w0.heap.size u L ∧ Dr w0 w' g v l K [] ∧ ∀ b, b < w.heap.size → b ≠ g → u.ownBlock ≠ some b → w'.heap[b]? = w.heap[b]?
theorem badAt_quiet {w0 w w' : World} {g k K : Nat} {v u : Value} {l : List Int} {L : List Ent} (h : Dr w0 w g v l k []) (hO : OwnE w w0.heap.size u L) (hs : Src w' g v l K) (hg : w.grownBy w' (some g)) : BadAt w0 w w' g v l u L K :=
  ⟨hO.grown hg h.gl, h.call hs hg, fun b hb hne _ => hg.block b hb (fun e => hne (by injection e))⟩
theorem Dr.rebase {w0 w W : World} {g k k' : Nat} {v : Value} {l : List Int} {F : List (Nat × Array Value × TypeId)} (h : Dr w0 w g v l k []) (h' : Dr w W g v l k' F) : Dr w0 W g v l k' F :=
  ⟨grownBy_trans h.grown h'.grown, h'.src, h.gl, h.bs0, fun i x e => ⟨Nat.le_trans h.size (h'.blks i x e).1, (h'.blks i x e).2⟩, h'.dis⟩
theorem setCellsOther {g k : Nat} (h : k ≠ g) : ∀ (vs : List Value) (o : Nat) (w : World), (w.setCells g o vs).heap[k]? = w.heap[k]?
  | [], _, _ => rfl
  | v :: vs, o, w => (setCellsOther h vs (o + 1) _).trans (Below.heap_setCell w ⟨g, o, none⟩ v k h)
theorem six_cells (u : World) (q o : Nat) (c : CmdV) : ((((((u.setCell ⟨q, o, none⟩ (.int .i64 c.cl)).setCell ⟨q, o + 1, none⟩ (.int .i64 c.sq)).setCell ⟨q, o + 2, none⟩ (.int .i64 c.op)).setCell ⟨q, o + 3, none⟩ (.string c.ky)).setCell ⟨q, o + 4, none⟩ (.string c.vl)).setCell ⟨q, o + 5, none⟩ (.string c.ol)) = u.setCells q o c.cells := rfl
theorem longV_size (n : Nat) (x : Int) : (longV n x).size = n := by
  unfold longV
  rw [strOfNums_size, List.length_replicate]
theorem badC_fits (l : List Int) (k : Nat) (c : CmdV) (h : c.ky.size ≤ maxLen ∧ c.vl.size ≤ maxLen ∧ c.ol.size ≤ maxLen) : (badC l k c).1.ky.size ≤ maxLen ∧ (badC l k c).1.vl.size ≤ maxLen ∧ (badC l k c).1.ol.size ≤ maxLen := by
  obtain ⟨h1, h2, h3⟩ := h
  have hp : ∀ j, pickV l j 2 ≤ 2 := fun j => Nat.le_of_lt (pickV_lt l j 2 (by decide))
  have hq : ∀ j x, (longV (64 + pickV l j 2) x).size ≤ maxLen := fun j x => by rw [longV_size]; have := hp j; unfold maxLen; omega
  have hr : ∀ j x, (longV (pickV l j 2) x).size ≤ maxLen := fun j x => by rw [longV_size]; have := hp j; unfold maxLen; omega
  have h0 : (⟨#[]⟩ : ByteArray).size ≤ maxLen := Nat.zero_le _
  unfold badC
  split
  · exact ⟨h1, h2, h3⟩
  split
  · exact ⟨h1, h2, h3⟩
  split
  · exact ⟨h1, h2, h3⟩
  split
  · exact ⟨h1, h2, h3⟩
  split
  · exact ⟨h0, h2, h3⟩
  split
  · exact ⟨hq _ _, h2, h3⟩
  split
  · exact ⟨h1, hq _ _, h3⟩
  split
  · exact ⟨h1, h2, hq _ _⟩
  · exact ⟨hr _ _, hr _ _, hr _ _⟩
set_option maxHeartbeats 16000000 in
set_option maxRecDepth 100000 in
theorem l2badStable_any (g : Nat) (w0 w : World) (v : Value) (l : List Int) (k : Nat) (t vo : Int) (a : Option Addr) (cap n : Nat) (L : List Ent) (hL : l.length ≤ 1048576) (hk : k ≤ 400000000) (hn : n = L.length) (hn2 : n ≤ 200) (h : Dr w0 w g v l k []) (hO : OwnE w w0.heap.size (.slice a n cap) L) :
    Calls Tryd.prog 55 #[.pointer (some ⟨g, 0, none⟩), .agg #[.int .i64 t, .int .i64 vo, .slice a n cap]] w fun r w' => r = .returned (.agg #[.int .i64 (badS l k t vo L).1, .int .i64 (badS l k t vo L).2.1, .slice a n cap]) ∧ BadAt w0 w w' g v l (.slice a n cap) (badS l k t vo L).2.2.1 (badS l k t vo L).2.2.2 := by
  have hg0 : g < w.heap.size := h.src.lt
  have HD0 : Hid (Dr w ((w.alloc (.cells #[.int .i64 t, .int .i64 vo, .slice a n cap] 39)).alloc (.cells #[.int .i64 0, .int .i64 0, .slice none 0 0] 39)) g v l k [(w.heap.size, #[.int .i64 t, .int .i64 vo, .slice a n cap], 39), (w.heap.size + 1, #[.int .i64 0, .int .i64 0, .slice none 0 0], 39)]) := by
    have hX := ((Dr.start h.src).new #[.int .i64 t, .int .i64 vo, .slice a n cap] 39 (noU8_of rfl)).new #[.int .i64 0, .int .i64 0, .slice none 0 0] 39 (noU8_of rfl)
    have hY : Dr w ((w.alloc (.cells #[.int .i64 t, .int .i64 vo, .slice a n cap] 39)).alloc (.cells #[.int .i64 0, .int .i64 0, .slice none 0 0] 39)) g v l k [(w.heap.size, #[.int .i64 t, .int .i64 vo, .slice a n cap], 39), (w.heap.size + 1, #[.int .i64 0, .int .i64 0, .slice none 0 0], 39)] := by simpa using hX
    exact hY
  have HW : Hid (Dr w0 w g v l k []) := h
  have HO : Hid (OwnE w w0.heap.size (.slice a n cap) L) := hO
  have Hn : Hid (n = L.length) := hn
  clear h hO hn
  have hB : badS l k t vo L = badS l k t vo L := rfl
  conv at hB => rhs; unfold badS
  have HB : Hid (badS l k t vo L = _) := hB
  generalize badS l k t vo L = R at *
  clear hB
  have b6 := pickV_lt l k 6 (by decide)
  obtain ⟨p, hp⟩ : ∃ p, p = pickV l k 6 := ⟨_, rfl⟩
  rw [← hp] at b6 HB
  have Hp : Hid (p = pickV l k 6) := hp
  clear hp
  have A1 : True := trivial
  rcases (show p = 0 ∨ p = 1 ∨ p = 2 ∨ p = 3 ∨ ((p = 4 ∨ p = 5) ∧ n = 0) ∨ (p = 4 ∧ 0 < n) ∨ (p = 5 ∧ 0 < n) by omega) with c0 | c0 | c0 | c0 | ⟨c0, c1⟩ | ⟨c0, c1⟩ | ⟨c0, c1⟩
  · subst c0
    rw [if_pos rfl] at HB
    rw [HB.out]
    dsimp only
    go_enter Tryd.func55, Tryd.ntmps55
    go_wp2_with (go_at_call 44; clear A1; refine (HD0.out.pick1 6 hL (by omega) (by decide) (by decide)).mono ?_; rintro e w1 ⟨rfl, hd_⟩; rw [← Hp.out]; have HDw1 : Hid (Dr w w1 g v l (k + 1) [(w.heap.size, #[.int .i64 t, .int .i64 vo, .slice a n cap], 39), (w.heap.size + 1, #[.int .i64 0, .int .i64 0, .slice none 0 0], 39)]) := hd_; have ce1 := (hd_.blk 0 rfl).cell; have fe1 := (hd_.blk 0 rfl).free; have cz1 := (hd_.blk 1 rfl).cell; have fz1 := (hd_.blk 1 rfl).free; clear hd_)
    have d1 := HDw1.out.set 0 rfl 0 (by simp) (.int .i64 (-1)) rfl
    have d2 := d1.set 1 rfl 0 (by simp) (.int .i64 (-1)) rfl
    have d3 := d2.set 1 rfl 1 (by simp) (.int .i64 vo) rfl
    have d4 := d3.set 1 rfl 2 (by simp) (.slice a n cap) rfl
    exact bodyPost_ret (results_blk Tryd.results55 rfl (d4.blk 1 rfl) Tryd.underlying39 rfl infoStb rfl) rfl ⟨rfl, badAt_quiet HW.out HO.out d4.src d4.grown⟩
  · subst c0
    rw [if_neg (by decide), if_pos rfl] at HB
    rw [HB.out]
    dsimp only
    go_enter Tryd.func55, Tryd.ntmps55
    go_wp2_with (go_at_call 44; clear A1; refine (HD0.out.pick1 6 hL (by omega) (by decide) (by decide)).mono ?_; rintro e w1 ⟨rfl, hd_⟩; rw [← Hp.out]; have HDw1 : Hid (Dr w w1 g v l (k + 1) [(w.heap.size, #[.int .i64 t, .int .i64 vo, .slice a n cap], 39), (w.heap.size + 1, #[.int .i64 0, .int .i64 0, .slice none 0 0], 39)]) := hd_; have ce1 := (hd_.blk 0 rfl).cell; have fe1 := (hd_.blk 0 rfl).free; have cz1 := (hd_.blk 1 rfl).cell; have fz1 := (hd_.blk 1 rfl).free; clear hd_)
    have d1 := HDw1.out.set 0 rfl 1 (by simp) (.int .i64 8) rfl
    have d2 := d1.set 1 rfl 0 (by simp) (.int .i64 t) rfl
    have d3 := d2.set 1 rfl 1 (by simp) (.int .i64 8) rfl
    have d4 := d3.set 1 rfl 2 (by simp) (.slice a n cap) rfl
    exact bodyPost_ret (results_blk Tryd.results55 rfl (d4.blk 1 rfl) Tryd.underlying39 rfl infoStb rfl) rfl ⟨rfl, badAt_quiet HW.out HO.out d4.src d4.grown⟩
  · subst c0
    rw [if_neg (by decide), if_neg (by decide), if_pos rfl] at HB
    rw [HB.out]
    dsimp only
    go_enter Tryd.func55, Tryd.ntmps55
    go_wp2_with (go_at_call 44; clear A1; refine (HD0.out.pick1 6 hL (by omega) (by decide) (by decide)).mono ?_; rintro e w1 ⟨rfl, hd_⟩; rw [← Hp.out]; have HDw1 : Hid (Dr w w1 g v l (k + 1) [(w.heap.size, #[.int .i64 t, .int .i64 vo, .slice a n cap], 39), (w.heap.size + 1, #[.int .i64 0, .int .i64 0, .slice none 0 0], 39)]) := hd_; have ce1 := (hd_.blk 0 rfl).cell; have fe1 := (hd_.blk 0 rfl).free; have cz1 := (hd_.blk 1 rfl).cell; have fz1 := (hd_.blk 1 rfl).free; clear hd_)
    have d1 := HDw1.out.set 0 rfl 0 (by simp) (.int .i64 0) rfl
    have d2 := d1.set 0 rfl 1 (by simp) (.int .i64 1) rfl
    have d3 := d2.set 1 rfl 0 (by simp) (.int .i64 0) rfl
    have d4 := d3.set 1 rfl 1 (by simp) (.int .i64 1) rfl
    have d5 := d4.set 1 rfl 2 (by simp) (.slice a n cap) rfl
    exact bodyPost_ret (results_blk Tryd.results55 rfl (d5.blk 1 rfl) Tryd.underlying39 rfl infoStb rfl) rfl ⟨rfl, badAt_quiet HW.out HO.out d5.src d5.grown⟩
  · subst c0
    rw [if_neg (by decide), if_neg (by decide), if_neg (by decide), if_pos rfl] at HB
    rw [HB.out]
    dsimp only
    go_enter Tryd.func55, Tryd.ntmps55
    go_wp2_with (go_at_call 44; clear A1; refine (HD0.out.pick1 6 hL (by omega) (by decide) (by decide)).mono ?_; rintro e w1 ⟨rfl, hd_⟩; rw [← Hp.out]; have HDw1 : Hid (Dr w w1 g v l (k + 1) [(w.heap.size, #[.int .i64 t, .int .i64 vo, .slice a n cap], 39), (w.heap.size + 1, #[.int .i64 0, .int .i64 0, .slice none 0 0], 39)]) := hd_; have ce1 := (hd_.blk 0 rfl).cell; have fe1 := (hd_.blk 0 rfl).free; have cz1 := (hd_.blk 1 rfl).cell; have fz1 := (hd_.blk 1 rfl).free; clear hd_)
    have d1 := HDw1.out.set 0 rfl 0 (by simp) (.int .i64 1073741825) rfl
    have d2 := d1.set 1 rfl 0 (by simp) (.int .i64 1073741825) rfl
    have d3 := d2.set 1 rfl 1 (by simp) (.int .i64 vo) rfl
    have d4 := d3.set 1 rfl 2 (by simp) (.slice a n cap) rfl
    exact bodyPost_ret (results_blk Tryd.results55 rfl (d4.blk 1 rfl) Tryd.underlying39 rfl infoStb rfl) rfl ⟨rfl, badAt_quiet HW.out HO.out d4.src d4.grown⟩
  · have hL0 : L.length = 0 := by rw [← Hn.out]; exact c1
    rw [if_neg (by omega), if_neg (by omega), if_neg (by omega), if_neg (by omega), if_pos hL0] at HB
    rw [HB.out]
    dsimp only
    clear hL0
    subst c1
    have hq0 : ((p : Int) == 0) = false := by rw [beq_eq_false_iff_ne]; omega
    have hq1 : ((p : Int) == 1) = false := by rw [beq_eq_false_iff_ne]; omega
    have hq2 : ((p : Int) == 2) = false := by rw [beq_eq_false_iff_ne]; omega
    have hq3 : ((p : Int) == 3) = false := by rw [beq_eq_false_iff_ne]; omega
    clear c0
    go_enter Tryd.func55, Tryd.ntmps55
    go_wp2_with (go_at_call 44; clear A1; refine (HD0.out.pick1 6 hL (by omega) (by decide) (by decide)).mono ?_; rintro e w1 ⟨rfl, hd_⟩; rw [← Hp.out]; have HDw1 : Hid (Dr w w1 g v l (k + 1) [(w.heap.size, #[.int .i64 t, .int .i64 vo, .slice a 0 cap], 39), (w.heap.size + 1, #[.int .i64 0, .int .i64 0, .slice none 0 0], 39)]) := hd_; have ce1 := (hd_.blk 0 rfl).cell; have fe1 := (hd_.blk 0 rfl).free; have cz1 := (hd_.blk 1 rfl).cell; have fz1 := (hd_.blk 1 rfl).free; clear hd_)
    have d1 := HDw1.out.set 1 rfl 0 (by simp) (.int .i64 t) rfl
    have d2 := d1.set 1 rfl 1 (by simp) (.int .i64 vo) rfl
    have d3 := d2.set 1 rfl 2 (by simp) (.slice a 0 cap) rfl
    exact bodyPost_ret (results_blk Tryd.results55 rfl (d3.blk 1 rfl) Tryd.underlying39 rfl infoStb rfl) rfl ⟨rfl, badAt_quiet HW.out HO.out d3.src d3.grown⟩
  · subst c0
    have hL0 : 0 < L.length := by rw [← Hn.out]; exact c1
    rw [if_neg (by decide), if_neg (by decide), if_neg (by decide), if_neg (by decide), if_neg (by omega), if_pos rfl] at HB
    rw [HB.out]
    dsimp only
    have bi := pickV_lt l (k + 1) L.length hL0
    obtain ⟨i, hi⟩ : ∃ i, i = pickV l (k + 1) L.length := ⟨_, rfl⟩
    have Hi : Hid (i = pickV l (k + 1) L.length) := hi
    rw [← hi] at bi ⊢
    rw [entAtD_get bi]
    clear hi HB
    have bq := pickV_lt l (k + 1 + 1) 9 (by decide)
    obtain ⟨q, hq⟩ : ∃ q, q = pickV l (k + 1 + 1) 9 := ⟨_, rfl⟩
    have Hq : Hid (q = pickV l (k + 1 + 1) 9) := hq
    rw [← hq] at bq ⊢
    clear hq
    have HPN : Hid (∀ u : World, Dr w u g v l (k + 1) [(w.heap.size, #[.int .i64 t, .int .i64 vo, .slice a n cap], 39), (w.heap.size + 1, #[.int .i64 0, .int .i64 0, .slice none 0 0], 39)] → Calls Tryd.prog 44 #[.pointer (some ⟨g, 0, none⟩), .int .i64 n] u fun e w' => e = .returned (.int .i64 (i : Nat)) ∧ Dr w w' g v l (k + 1 + 1) [(w.heap.size, #[.int .i64 t, .int .i64 vo, .slice a n cap], 39), (w.heap.size + 1, #[.int .i64 0, .int .i64 0, .slice none 0 0], 39)]) := fun u hu => by
      rw [Hi.out, ← Hn.out]
      exact hu.pick1 n hL (by omega) c1 (by omega)
    have hin : i < n := by rw [Hn.out]; exact bi
    have c2 : (0 : Int) < (n : Int) := by omega
    have c3 : (i : Int) < (n : Int) := by omega
    have A2 : True := trivial
    clear hL0
    go_enter Tryd.func55, Tryd.ntmps55
    go_upto_region 14 with (first
      | (go_at_call 44; clear A1; refine (HD0.out.pick1 6 hL (by omega) (by decide) (by decide)).mono ?_; rintro e w1 ⟨rfl, hd_⟩; rw [← Hp.out]; have HDw1 : Hid (Dr w w1 g v l (k + 1) [(w.heap.size, #[.int .i64 t, .int .i64 vo, .slice a n cap], 39), (w.heap.size + 1, #[.int .i64 0, .int .i64 0, .slice none 0 0], 39)]) := hd_; have ce1 := (hd_.blk 0 rfl).cell; have fe1 := (hd_.blk 0 rfl).free; have cz1 := (hd_.blk 1 rfl).cell; have fz1 := (hd_.blk 1 rfl).free; clear hd_)
      | (go_at_call 44; clear A2; refine (HPN.out _ HDw1.out).mono ?_; rintro e w2 ⟨rfl, hd_⟩; have HDw2 : Hid (Dr w w2 g v l (k + 1 + 1) [(w.heap.size, #[.int .i64 t, .int .i64 vo, .slice a n cap], 39), (w.heap.size + 1, #[.int .i64 0, .int .i64 0, .slice none 0 0], 39)]) := hd_; have ce2 := (hd_.blk 0 rfl).cell; have fe2 := (hd_.blk 0 rfl).free; clear hd_))
    have HOw2 : Hid (OwnE w2 w0.heap.size (.slice a n cap) L) := HO.out.grown (HDw2.out.grown) HW.out.gl
    obtain ⟨qb, ha, hEA, hfr⟩ := ownAt HOw2.out Hn.out (k := i) bi (by unfold maxLen; omega)
    have hqb : w0.heap.size ≤ qb ∧ qb < w.heap.size := by
      refine ⟨(HOw2.out.2.lt qb (by rw [ha]; rfl)).1, ?_⟩
      exact (HO.out.2.lt qb (by rw [ha]; rfl)).2
    subst ha
    obtain ⟨e0, e1, e2, e3, e4, e5, e6⟩ := hEA
    go_cut [37] (fun _ wx => OwnE wx w0.heap.size (.slice (some ⟨qb, 0, none⟩) n cap) (L.set i (setTE (q : Int) L[i])) ∧ Dr w0 wx g v l (k + 1 + 1 + 1) [(w.heap.size, #[.int .i64 t, .int .i64 vo, .slice (some ⟨qb, 0, none⟩) n cap], 39), (w.heap.size + 1, #[.int .i64 0, .int .i64 0, .slice none 0 0], 39)] ∧ ∀ b, b < w.heap.size → b ≠ g → qb ≠ b → wx.heap[b]? = w.heap[b]?)
    case first =>
      have HDd : Hid (Dr w w2.drew g v l (k + 1 + 1) [(w.heap.size, #[.int .i64 t, .int .i64 vo, .slice (some ⟨qb, 0, none⟩) n cap], 39), (w.heap.size + 1, #[.int .i64 0, .int .i64 0, .slice none 0 0], 39)]) := HDw2.out.drew
      have HOd : Hid (OwnE w2.drew w0.heap.size (.slice (some ⟨qb, 0, none⟩) n cap) L) := HOw2.out.below (Below.refl _ _).drew
      go_region_with (go_at_call 44; refine (HDd.out.pickG 9 hL (by omega) (by decide) (by decide)).mono ?_; rintro e w3 ⟨rfl, hd_, hg_⟩; rw [← Hq.out]; have HDw3 : Hid (Dr w w3 g v l (k + 1 + 1 + 1) [(w.heap.size, #[.int .i64 t, .int .i64 vo, .slice (some ⟨qb, 0, none⟩) n cap], 39), (w.heap.size + 1, #[.int .i64 0, .int .i64 0, .slice none 0 0], 39)]) := hd_; have ce3 := (hd_.blk 0 rfl).cell; have HOw3 : Hid (OwnE w3 w0.heap.size (.slice (some ⟨qb, 0, none⟩) n cap) L) := HOd.out.grown hg_ HW.out.gl; obtain ⟨qc, hqc, ⟨d0, _⟩, hf3⟩ := ownAt HOw3.out Hn.out (k := i) bi (by unfold maxLen; omega); injection hqc with hqc; injection hqc with hqc; subst hqc; clear hd_ hg_)
      all_goals
        go_wp2_with fail
        go_meet
        exact ⟨HOw3.out.setT Hn.out i bi (q : Int), (HW.out.rebase HDw3.out).grew (grewCell (n := n) (c := cap) (.int .i64 (q : Int))) (fun q' hq' => by injection hq' with hq'; have : qb = q' := hq'; omega) (fun x hx => by
          have hx1 : w.heap.size ≤ x.1 := by
            obtain ⟨j, hj⟩ := List.getElem?_of_mem hx
            exact (HDw3.out.blks j x hj).1
          intro e
          injection e with e
          have : qb = x.1 := e
          omega), fun b hb hne hq => (Below.heap_setCell _ _ _ b (fun e => hq (by simpa using e.symm))).trans (HDw3.out.grown.block b hb (fun e => hne (by injection e)))⟩
    case rest =>
      obtain ⟨ho, hd, hoth⟩ := hcut
      have HOc : Hid (OwnE wc w0.heap.size (.slice (some ⟨qb, 0, none⟩) n cap) (L.set i (setTE (q : Int) L[i]))) := ho
      have HDc : Hid (Dr w0 wc g v l (k + 1 + 1 + 1) [(w.heap.size, #[.int .i64 t, .int .i64 vo, .slice (some ⟨qb, 0, none⟩) n cap], 39), (w.heap.size + 1, #[.int .i64 0, .int .i64 0, .slice none 0 0], 39)]) := hd
      have HOth : Hid (∀ b, b < w.heap.size → b ≠ g → qb ≠ b → wc.heap[b]? = w.heap[b]?) := hoth
      clear ho hoth
      have cec := (hd.blk 0 rfl).cell
      have czc := (hd.blk 1 rfl).cell
      have fzc := (hd.blk 1 rfl).free
      clear hd
      go_wp2_with fail
      have d1 := HDc.out.set 1 rfl 0 (by simp) (.int .i64 t) rfl
      have d2 := d1.set 1 rfl 1 (by simp) (.int .i64 vo) rfl
      have d3 := d2.set 1 rfl 2 (by simp) (.slice (some ⟨qb, 0, none⟩) n cap) rfl
      have o1 := ownE_blkS HOc.out (HDc.out.blk 1 rfl) (by decide) (set_keepS _ _ 0 (.int .i64 t))
      have o2 := ownE_blkS o1 (d1.blk 1 rfl) (by decide) (set_keepS _ _ 1 (.int .i64 vo))
      have o3 := ownE_blkS o2 (d2.blk 1 rfl) (by decide) (set_keepS _ _ 2 (.slice (some ⟨qb, 0, none⟩) n cap))
      exact bodyPost_ret (results_blk Tryd.results55 rfl (d3.blk 1 rfl) Tryd.underlying39 rfl infoStb rfl) rfl ⟨rfl, o3, d3.nilF, fun b hb hne hq => (set_keepS _ _ 2 _ b (by omega)).trans ((set_keepS _ _ 1 _ b (by omega)).trans ((set_keepS _ _ 0 _ b (by omega)).trans (HOth.out b hb hne (fun e => hq (by rw [e]; rfl)))))⟩
  · subst c0
    have hL0 : 0 < L.length := by rw [← Hn.out]; exact c1
    rw [if_neg (by decide), if_neg (by decide), if_neg (by decide), if_neg (by decide), if_neg (by omega), if_neg (by decide)] at HB
    rw [HB.out]
    dsimp only
    have bi := pickV_lt l (k + 1) L.length hL0
    obtain ⟨i, hi⟩ : ∃ i, i = pickV l (k + 1) L.length := ⟨_, rfl⟩
    have Hi : Hid (i = pickV l (k + 1) L.length) := hi
    rw [← hi] at bi ⊢
    rw [entAtD_get bi]
    clear hi HB
    have Hyf : Hid (L[i].fits) := HO.out.1 _ (List.getElem_mem bi)
    obtain ⟨y, hy⟩ : ∃ y, y = L[i] := ⟨_, rfl⟩
    have Hy : Hid (y = L[i]) := hy
    rw [← hy] at Hyf ⊢
    clear hy
    have hfit := badC_fits l (k + 1 + 1) y.cmd Hyf.out
    have HBC : Hid (∀ u : World, Src u g v l (k + 1 + 1) → Calls Tryd.prog 88 #[.pointer (some ⟨g, 0, none⟩), .agg #[.int .i64 y.cl, .int .i64 y.sq, .int .i64 y.op, .string y.k, .string y.v, .string y.o]] u fun r w' => r = .returned (.agg #[.int .i64 (badC l (k + 1 + 1) y.cmd).1.cl, .int .i64 (badC l (k + 1 + 1) y.cmd).1.sq, .int .i64 (badC l (k + 1 + 1) y.cmd).1.op, .string (badC l (k + 1 + 1) y.cmd).1.ky, .string (badC l (k + 1 + 1) y.cmd).1.vl, .string (badC l (k + 1 + 1) y.cmd).1.ol]) ∧ Src w' g v l (badC l (k + 1 + 1) y.cmd).2 ∧ u.grownBy w' (some g)) := fun u hu => l1badCmd_any g u v l (k + 1 + 1) y.cmd hL (by omega) hu
    generalize badC l (k + 1 + 1) y.cmd = CB at *
    obtain ⟨cb, KB⟩ := CB
    dsimp only at hfit HBC ⊢
    have Hfit : Hid (cb.ky.size ≤ maxLen ∧ cb.vl.size ≤ maxLen ∧ cb.ol.size ≤ maxLen) := hfit
    clear hfit
    have HPN : Hid (∀ u : World, Dr w u g v l (k + 1) [(w.heap.size, #[.int .i64 t, .int .i64 vo, .slice a n cap], 39), (w.heap.size + 1, #[.int .i64 0, .int .i64 0, .slice none 0 0], 39)] → Calls Tryd.prog 44 #[.pointer (some ⟨g, 0, none⟩), .int .i64 n] u fun e w' => e = .returned (.int .i64 (i : Nat)) ∧ Dr w w' g v l (k + 1 + 1) [(w.heap.size, #[.int .i64 t, .int .i64 vo, .slice a n cap], 39), (w.heap.size + 1, #[.int .i64 0, .int .i64 0, .slice none 0 0], 39)]) := fun u hu => by
      rw [Hi.out, ← Hn.out]
      exact hu.pick1 n hL (by omega) c1 (by omega)
    have hin : i < n := by rw [Hn.out]; exact bi
    have c2 : (0 : Int) < (n : Int) := by omega
    have c3 : (i : Int) < (n : Int) := by omega
    have A2 : True := trivial
    clear hL0
    go_enter Tryd.func55, Tryd.ntmps55
    go_upto_region 15 with (first
      | (go_at_call 44; clear A1; refine (HD0.out.pick1 6 hL (by omega) (by decide) (by decide)).mono ?_; rintro e w1 ⟨rfl, hd_⟩; rw [← Hp.out]; have HDw1 : Hid (Dr w w1 g v l (k + 1) [(w.heap.size, #[.int .i64 t, .int .i64 vo, .slice a n cap], 39), (w.heap.size + 1, #[.int .i64 0, .int .i64 0, .slice none 0 0], 39)]) := hd_; have ce1 := (hd_.blk 0 rfl).cell; have fe1 := (hd_.blk 0 rfl).free; have cz1 := (hd_.blk 1 rfl).cell; have fz1 := (hd_.blk 1 rfl).free; clear hd_)
      | (go_at_call 44; clear A2; refine (HPN.out _ HDw1.out).mono ?_; rintro e w2 ⟨rfl, hd_⟩; have HDw2 : Hid (Dr w w2 g v l (k + 1 + 1) [(w.heap.size, #[.int .i64 t, .int .i64 vo, .slice a n cap], 39), (w.heap.size + 1, #[.int .i64 0, .int .i64 0, .slice none 0 0], 39)]) := hd_; have ce2 := (hd_.blk 0 rfl).cell; have fe2 := (hd_.blk 0 rfl).free; clear hd_))
    have HOw2 : Hid (OwnE w2 w0.heap.size (.slice a n cap) L) := HO.out.grown (HDw2.out.grown) HW.out.gl
    obtain ⟨qb, ha, hEA, hfr⟩ := ownAt HOw2.out Hn.out (k := i) bi (by unfold maxLen; omega)
    have hqb : w0.heap.size ≤ qb ∧ qb < w.heap.size := by
      refine ⟨(HOw2.out.2.lt qb (by rw [ha]; rfl)).1, ?_⟩
      exact (HO.out.2.lt qb (by rw [ha]; rfl)).2
    subst ha
    obtain ⟨e0, e1, e2, e3, e4, e5, e6⟩ := hEA
    rw [← Hy.out] at e0 e1 e2 e3 e4 e5 e6
    go_cut [50] (fun _ wx => OwnE wx w0.heap.size (.slice (some ⟨qb, 0, none⟩) n cap) (L.set i (setCE cb y)) ∧ Dr w0 wx g v l KB [(w.heap.size, #[.int .i64 t, .int .i64 vo, .slice (some ⟨qb, 0, none⟩) n cap], 39), (w.heap.size + 1, #[.int .i64 0, .int .i64 0, .slice none 0 0], 39)] ∧ ∀ b, b < w.heap.size → b ≠ g → qb ≠ b → wx.heap[b]? = w.heap[b]?)
    case first =>
      have HDd : Hid (Dr w w2.drew g v l (k + 1 + 1) [(w.heap.size, #[.int .i64 t, .int .i64 vo, .slice (some ⟨qb, 0, none⟩) n cap], 39), (w.heap.size + 1, #[.int .i64 0, .int .i64 0, .slice none 0 0], 39)]) := HDw2.out.drew
      have HOd : Hid (OwnE w2.drew w0.heap.size (.slice (some ⟨qb, 0, none⟩) n cap) L) := HOw2.out.below (Below.refl _ _).drew
      go_region_with (go_at_call 88; refine (HBC.out _ HDd.out.src).mono ?_; rintro e w3 ⟨rfl, hs_, hg_⟩; have HDw3 : Hid (Dr w w3 g v l KB [(w.heap.size, #[.int .i64 t, .int .i64 vo, .slice (some ⟨qb, 0, none⟩) n cap], 39), (w.heap.size + 1, #[.int .i64 0, .int .i64 0, .slice none 0 0], 39)]) := HDd.out.call hs_ hg_; have ce3 := (HDw3.out.blk 0 rfl).cell; have HOw3 : Hid (OwnE w3 w0.heap.size (.slice (some ⟨qb, 0, none⟩) n cap) L) := HOd.out.grown hg_ HW.out.gl; obtain ⟨qc, hqc, ⟨d0, d1, d2, d3, d4, d5, d6⟩, hf3⟩ := ownAt HOw3.out Hn.out (k := i) bi (by unfold maxLen; omega); injection hqc with hqc; injection hqc with hqc; subst hqc; clear hs_ hg_)
      all_goals
        go_wp2_with fail
        go_meet
        rw [six_cells]
        exact ⟨(by rw [Hy.out]; exact HOw3.out.setC Hn.out i bi cb Hfit.out), (HW.out.rebase HDw3.out).grew (grewCells (n := n) (c := cap) cb.cells _ _) (fun q' hq' => by injection hq' with hq'; have : qb = q' := hq'; omega) (fun x hx => by
          have hx1 : w.heap.size ≤ x.1 := by
            obtain ⟨j, hj⟩ := List.getElem?_of_mem hx
            exact (HDw3.out.blks j x hj).1
          intro e
          injection e with e
          have : qb = x.1 := e
          omega), fun b hb hne hq => (setCellsOther (fun e => hq e.symm) _ _ _).trans (HDw3.out.grown.block b hb (fun e => hne (by injection e)))⟩
    case rest =>
      obtain ⟨ho, hd, hoth⟩ := hcut
      have HOc : Hid (OwnE wc w0.heap.size (.slice (some ⟨qb, 0, none⟩) n cap) (L.set i (setCE cb y))) := ho
      have HDc : Hid (Dr w0 wc g v l KB [(w.heap.size, #[.int .i64 t, .int .i64 vo, .slice (some ⟨qb, 0, none⟩) n cap], 39), (w.heap.size + 1, #[.int .i64 0, .int .i64 0, .slice none 0 0], 39)]) := hd
      have HOth : Hid (∀ b, b < w.heap.size → b ≠ g → qb ≠ b → wc.heap[b]? = w.heap[b]?) := hoth
      clear ho hoth
      have cec := (hd.blk 0 rfl).cell
      have czc := (hd.blk 1 rfl).cell
      have fzc := (hd.blk 1 rfl).free
      clear hd
      go_wp2_with fail
      have d1 := HDc.out.set 1 rfl 0 (by simp) (.int .i64 t) rfl
      have d2 := d1.set 1 rfl 1 (by simp) (.int .i64 vo) rfl
      have d3 := d2.set 1 rfl 2 (by simp) (.slice (some ⟨qb, 0, none⟩) n cap) rfl
      have o1 := ownE_blkS HOc.out (HDc.out.blk 1 rfl) (by decide) (set_keepS _ _ 0 (.int .i64 t))
      have o2 := ownE_blkS o1 (d1.blk 1 rfl) (by decide) (set_keepS _ _ 1 (.int .i64 vo))
      have o3 := ownE_blkS o2 (d2.blk 1 rfl) (by decide) (set_keepS _ _ 2 (.slice (some ⟨qb, 0, none⟩) n cap))
      exact bodyPost_ret (results_blk Tryd.results55 rfl (d3.blk 1 rfl) Tryd.underlying39 rfl infoStb rfl) rfl ⟨rfl, o3, d3.nilF, fun b hb hne hq => (set_keepS _ _ 2 _ b (by omega)).trans ((set_keepS _ _ 1 _ b (by omega)).trans ((set_keepS _ _ 0 _ b (by omega)).trans (HOth.out b hb hne (fun e => hq (by rw [e]; rfl)))))⟩
end Go.Proofs.YtjoflnnomebkpaaDoor
