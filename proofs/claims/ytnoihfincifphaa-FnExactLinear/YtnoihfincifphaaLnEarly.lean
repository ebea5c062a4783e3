/-
  (*impl.judge).tooEarly.
-/
import Derived.Test.YtnoihfincifphaaLnLike
import Derived.Test.YtnoihfincifphaaLnEarP
import Derived.Test.YtnoihfincifphaaRegRound
namespace Go.Proofs.Ytnoihfincifphaa
open Go.RowKit Go.Maps Go.Shelf
set_option linter.unusedVariables false
set_option linter.unusedSimpArgs false
attribute [local go_sem] Oper.semAt_some

set_option maxHeartbeats 8000000 in
set_option maxRecDepth 100000 in
theorem tooEarly_any (jb bt bp bl bo : Nat) (ea : Option Addr) (en ec : Nat) (oa : Option Addr) (oc : Nat) (t : Cm → Option (Nat × Nat)) (os : List Cm) (n : Nat) (w : World)
    (h : JB w jb bt bp bl bo (.slice ea en ec) (.slice oa os.length oc)) (hM : MT w bt n t) (hO : Cms w (.slice oa os.length oc) os) (hos : ∀ c ∈ os, c.fits) (hl2 : os.length ≤ 4096) (hl : en ≤ 4096) :
    Calls Try.prog 44 #[.pointer (some ⟨jb, 0, none⟩)] w fun e w' => e = .returned (.int .i64 (stE t en (bkL os hos os.length)).1) ∧ Below w.heap.size w w' := by
  have HJB : Hid (Blk w jb #[.slice ea en ec, .slice oa os.length oc, .map (some bt), .map (some bp), .map (some bl), .map (some bo)] 84) := h.blk
  have HO : Hid (Cms w (.slice oa os.length oc) os) := hO
  have HM : Hid (MT w bt n t) := hM
  have hjl := h.blk.lt
  have hlt' := h.lt.1
  obtain ⟨F, hF⟩ : ∃ F, F = (stE t en (bkL os hos os.length)).1 := ⟨_, rfl⟩
  have HF : Hid (F = (stE t en (bkL os hos os.length)).1) := hF
  rw [← hF]
  clear hF
  refine (callsIn_wide (n := 6)).1 ?_
  refine callsIn_of_wp_marks Try.func44 rfl trivial ?_ rfl
  simp only [Try.ntmps44, List.size_toArray, List.length_cons, List.length_nil, Nat.reduceAdd, Nat.reduceSub, Array.replicate_succ, Array.replicate_zero, List.push_toArray, List.append_toArray, List.nil_append, List.cons_append]
  refine wpIn_wide.2 ?_
  obtain ⟨W, hW⟩ : ∃ W, W = w.alloc (.cells #[.pointer (some ⟨jb, 0, none⟩)] 78) := ⟨_, rfl⟩
  have hz : W.heap.size = w.heap.size + 1 := by rw [hW]; simp
  have HB : Hid (Below w.heap.size w W) := by show Below _ _ _; rw [hW]; exact (Below.refl _ _).alloc (Nat.le_refl _) _
  have HX : Hid (Blk W w.heap.size #[.pointer (some ⟨jb, 0, none⟩)] 78) := by show Blk _ _ _ _; rw [hW]; exact Blk.new _ _ _
  have j0 : W.cell? ⟨jb, 0, none⟩ = some (.slice ea en ec) := (HJB.out.keep (HB.out.block jb hjl)).cell 0
  have x0 : W.cell? ⟨w.heap.size, 0, none⟩ = some (.pointer (some ⟨jb, 0, none⟩)) := HX.out.cell 0
  have a1 : ∀ o : Obj, (W.alloc o).cell? ⟨jb, 0, none⟩ = some (.slice ea en ec) := fun o => (World.cell?_alloc_lt _ _ _ (by show jb < W.heap.size; omega)).trans j0
  have a2 : ∀ o o' : Obj, ((W.alloc o).alloc o').cell? ⟨jb, 0, none⟩ = some (.slice ea en ec) := fun o o' => (World.cell?_alloc_lt _ _ _ (by show jb < (W.alloc o).heap.size; simp; omega)).trans (a1 o)
  have b1 : ∀ o : Obj, (W.alloc o).cell? ⟨w.heap.size, 0, none⟩ = some (.pointer (some ⟨jb, 0, none⟩)) := fun o => (World.cell?_alloc_lt _ _ _ (by show w.heap.size < W.heap.size; omega)).trans x0
  have b2 : ∀ o o' : Obj, ((W.alloc o).alloc o').cell? ⟨w.heap.size, 0, none⟩ = some (.pointer (some ⟨jb, 0, none⟩)) := fun o o' => (World.cell?_alloc_lt _ _ _ (by show w.heap.size < (W.alloc o).heap.size; simp; omega)).trans (b1 o)
  have n1 : ¬ jb = W.heap.size := by omega
  have n2 : ¬ w.heap.size = W.heap.size := by omega
  have n3 : ¬ jb = W.heap.size + 1 := by omega
  have n4 : ¬ w.heap.size = W.heap.size + 1 := by omega
  go_upto_region 1 with fail
  rw [← hW]
  clear hW h hM hO
  go_cut [3, 4] from 7 to 11 (fun x3 x4 wc => ∃ fb rb : Nat, x3 = .pointer (some ⟨fb, 0, none⟩) ∧ x4 = .pointer (some ⟨rb, 0, none⟩) ∧ w.heap.size < fb ∧ w.heap.size < rb ∧ fb ≠ rb ∧ Blk wc fb #[.int .i64 (-1)] 3 ∧ Blk wc rb #[.int .i64 en] 3 ∧ Blk wc w.heap.size #[.pointer (some ⟨jb, 0, none⟩)] 78 ∧ Below w.heap.size w wc)
  case first =>
    go_region
    · go_wp2_with fail
      go_meet
      exact ⟨_, _, rfl, rfl, by omega, by omega, by omega, ((Blk.new' W _ _ (by omega)).alloc _).drew, (Blk.new' _ _ _ (by simp; omega)).drew, ((HX.out.alloc _).alloc _).drew, ((HB.out.alloc (by omega) _).alloc (by simp; omega) _).drew⟩
    · go_wp2_with fail
      go_meet
      exact ⟨_, _, rfl, rfl, by omega, by omega, by omega, (Blk.new' _ _ _ (by simp; omega)).drew, ((Blk.new' W _ _ (by omega)).alloc _).drew, ((HX.out.alloc _).alloc _).drew, ((HB.out.alloc (by omega) _).alloc (by simp; omega) _).drew⟩
  case rest =>
    obtain ⟨fb, rb, h3, h4, hf, hr, hfr, hBF, hBR, hBX, hBw⟩ := hcut
    rw [h3, h4]
    have HBF : Hid (Blk wc fb #[.int .i64 (-1)] 3) := hBF
    have HBR : Hid (Blk wc rb #[.int .i64 en] 3) := hBR
    have HBX : Hid (Blk wc w.heap.size #[.pointer (some ⟨jb, 0, none⟩)] 78) := hBX
    have HBw : Hid (Below w.heap.size w wc) := hBw
    clear h3 h4 hBF hBR hBX hBw a1 a2 b1 b2 n1 n2 n3 n4 j0 x0 HX HB hz
    clear W
    have j1 : wc.cell? ⟨jb, 1, none⟩ = some (.slice oa os.length oc) := (HJB.out.keep (HBw.out.block jb hjl)).cell 1
    have x0 : wc.cell? ⟨w.heap.size, 0, none⟩ = some (.pointer (some ⟨jb, 0, none⟩)) := HBX.out.cell 0
    go_wp2_with (go_at_call 77; refine (back_any _ _ _ _).mono ?_; rintro e w2 ⟨rfl, rfl⟩)
    obtain ⟨W0, hW0⟩ : ∃ W0, W0 = wc.alloc (.cells #[.slice oa os.length oc] 31) := ⟨_, rfl⟩
    have hz0 : W0.heap.size = wc.heap.size + 1 := by rw [hW0]; simp
    have HB0 : Hid (Below wc.heap.size wc W0) := by show Below _ _ _; rw [hW0]; exact (Below.refl _ _).alloc (Nat.le_refl _) _
    have HS0 : Hid (Blk W0 wc.heap.size #[.slice oa os.length oc] 31) := by show Blk _ _ _ _; rw [hW0]; exact Blk.new _ _ _
    have hzw := HBw.out.size
    have hfl := HBF.out.lt
    have hrl := HBR.out.lt
    have hxl := HBX.out.lt
    rw [← hW0]
    clear hW0 j1 x0
    have HLK : Hid (∀ (c : Cm), c.fits → ∀ u : World, u.heap[bt]? = w.heap[bt]? → (Instr.lookup 79 (.map (some bt)) (.agg #[.int .i64 c.cl, .int .i64 c.sq, .int .i64 c.op, .string c.k, .string c.v, .string c.o]) false).run Try.prog u = .ok (.agg #[.int .i64 (askR t c), .int .i64 (repR t c)]) u) := fun c hc u hu => by
      have := HM.out.look lawC Try.underlying79 zeroTn c hc u hu
      rw [show (t c).elim (.agg #[.int .i64 0, .int .i64 0]) tnV = .agg #[.int .i64 (askR t c), .int .i64 (repR t c)] from tn_vals t c] at this
      exact this
    have HSQ : SeqStopsK Fence.wide 5 Try.prog 96 #[.pointer (some ⟨wc.heap.size, 0, none⟩)] ixE (KpB w.heap.size wc.heap.size) (fun ys => ys = bkL os hos os.length) (fun _ => True) os.length W0 :=
      back_stops Fence.wide 5 trivial rfl (by omega) wc.heap.size w.heap.size oa oc os hos hl2 W0 (by omega) (by omega) (HS0.out.cell 0) (HO.out.below (HBw.out.trans (HB0.out.mono hzw))) (fun b off e h => by
        obtain ⟨b', off', e', hj⟩ := HO.out.at_ h
        rw [e] at e'
        simp only [Option.some.injEq, Addr.mk.injEq] at e'
        rw [e'.1]
        exact cell_lt (hj 0 h 0 _ rfl))
    refine (wpIn_wide (n := 6)).1 (wpIn_rangeFunc_ownH (F := Fence.wide) (n := 6) rfl (by omega) (gf := 96) (lb := #[.pointer (some ⟨wc.heap.size, 0, none⟩)]) rfl trivial (enters_of Try.func96 (by kernel_rfl) rfl) HSQ KpB.trans (fun W l o o' h1 h2 h3 h4 => ⟨⟨rfl, rfl, rfl, by simp [World.putObj], fun j hj => by simp [World.putObj, Array.getElem?_setIfInBounds]; omega⟩, by simp [World.putObj, Array.getElem?_setIfInBounds]; omega⟩) (Below.refl _ _) (fun x => (rfl : (ixE x).size = 2))
      (fun pre W => Blk W w.heap.size #[.pointer (some ⟨jb, 0, none⟩)] 78 ∧ Blk W fb #[.int .i64 (stE t en pre).1] 3 ∧ Blk W rb #[.int .i64 (stE t en pre).2] 3 ∧ Below w.heap.size w W ∧ W0.heap.size ≤ W.heap.size)
      (fun _ _ _ => False)
      (fun s A B row hs hg hr => ⟨hs.1.keep (hg.block _ hs.1.lt (fun e => by have := (hr _ e.symm).1; omega)), hs.2.1.keep (hg.block _ hs.2.1.lt (fun e => by have := (hr _ e.symm).1; omega)), hs.2.2.1.keep (hg.block _ hs.2.2.1.lt (fun e => by have := (hr _ e.symm).1; omega)), hs.2.2.2.1.trans ⟨hg.os, hg.tape, hg.output, hg.size, fun j hj => hg.block j (by have := hs.2.2.2.1.size; omega) (fun e => by have := (hr _ e.symm).1; omega)⟩, Nat.le_trans hs.2.2.2.2 hg.size⟩)
      (fun _ _ _ _ _ hs _ _ => hs)
      ⟨HBX.out.keep (HB0.out.block _ (by omega)), HBF.out.keep (HB0.out.block _ (by omega)), HBR.out.keep (HB0.out.block _ (by omega)), HBw.out.trans (HB0.out.mono hzw), Nat.le_refl _⟩
      (fun x a' W => ∃ Bx, W0.heap.size ≤ Bx ∧ Blk W Bx #[.int .i64 x.1.2.cl, .int .i64 x.1.2.sq, .int .i64 x.1.2.op, .string x.1.2.k, .string x.1.2.v, .string x.1.2.o] 63 ∧ a' = { tmps := #[.pointer (some ⟨jb, 0, none⟩), .pointer (some ⟨w.heap.size, 0, none⟩), .int .i64 0, .pointer (some ⟨fb, 0, none⟩), .pointer (some ⟨rb, 0, none⟩), .int .i64 x.1.1, .pointer (some ⟨Bx, 0, none⟩), u7, u8, u9, u10, u11, .pointer (some ⟨jb, 0, none⟩), .pointer (some ⟨jb, 0, none⟩), .pointer (some ⟨jb, 1, none⟩), .slice oa os.length oc, .func (.func 96) #[] #[.pointer (some ⟨wc.heap.size, 0, none⟩)], .int .i64 x.1.1, .agg #[.int .i64 x.1.2.cl, .int .i64 x.1.2.sq, .int .i64 x.1.2.op, .string x.1.2.k, .string x.1.2.v, .string x.1.2.o], undef, undef, undef, undef, undef, undef, undef, undef, undef, undef, undef, undef, undef, undef, undef, undef, undef, undef, undef, undef], defers := [] })
      (fun x a' s A B row hs hg hr => by
        obtain ⟨Bx, h1, h2, h3⟩ := hs
        exact ⟨Bx, h1, h2.keep (hg.block _ h2.lt (fun e => by obtain ⟨_, o, ho, hn⟩ := hr _ e.symm; rw [show A.heap[Bx]? = _ from h2] at ho; cases ho; cases hn)), h3⟩)
      ?assign ?body ?done ?stop)
    case assign =>
      rintro l pre x W K ⟨i1, i2, i3, i4, i5⟩ hK
      have hzW := i4.size
      simp only [ixE]
      gi_wp2
      exact hK _ _ ((KeepsOthers.alloc _ _).from _) ⟨(Below.refl _ _).alloc (by omega) _, Below.heap_alloc _ _ _ (by omega)⟩ ⟨i1.alloc _, i2.alloc _, i3.alloc _, i4.alloc (by omega) _, by simp; omega⟩ ⟨W.heap.size, by omega, Blk.new _ _ _, rfl⟩
    case body =>
      rintro l pre x a' W hl' ⟨rec, hrec⟩ ⟨i1, i2, i3, i4, i5⟩ ⟨Bx, hBx, hC, rfl⟩ hpl
      have HST : Hid (stE t en (pre ++ [x]) = stpE t (stE t en pre) x) := stE_snoc t en pre x
      unfold stpE at HST
      obtain ⟨⟨ix, c⟩, hcf⟩ := x
      dsimp only at HST hC hcf
      obtain ⟨fd, hfd⟩ : ∃ fd, fd = (stE t en pre).1 := ⟨_, rfl⟩
      obtain ⟨r, hrr⟩ : ∃ r, r = (stE t en pre).2 := ⟨_, rfl⟩
      rw [← hfd, ← hrr] at HST
      rw [← hfd] at i2
      rw [← hrr] at i3
      obtain ⟨ak, hak⟩ : ∃ ak, ak = askR t c := ⟨_, rfl⟩
      obtain ⟨rp, hrp⟩ : ∃ rp, rp = repR t c := ⟨_, rfl⟩
      have HLC : Hid (∀ u : World, u.heap[bt]? = w.heap[bt]? → (Instr.lookup 79 (.map (some bt)) (.agg #[.int .i64 c.cl, .int .i64 c.sq, .int .i64 c.op, .string c.k, .string c.v, .string c.o]) false).run Try.prog u = .ok (.agg #[.int .i64 ak, .int .i64 rp]) u) := fun u hu => by rw [hak, hrp]; exact HLK.out c hcf u hu
      rw [← hak, ← hrp] at HST
      clear hfd hrr hak hrp
      have hft0 := field_t0
      have hft1 := field_t1
      obtain ⟨mn, hmn⟩ : ∃ mn, mn = min r rp := ⟨_, rfl⟩
      have hmi : min (r : Int) (rp : Int) = (mn : Int) := by rw [hmn]; omega
      rw [← hmn] at HST
      clear hmn
      obtain ⟨WD, hWD⟩ : ∃ WD, WD = W.drew := ⟨_, rfl⟩
      have HWD : Hid (WD = W.drew) := hWD
      have HaX : Hid (Blk WD w.heap.size #[.pointer (some ⟨jb, 0, none⟩)] 78) := by show Blk _ _ _ _; rw [hWD]; exact i1.drew
      have HaF : Hid (Blk WD fb #[.int .i64 fd] 3) := by show Blk _ _ _ _; rw [hWD]; exact i2.drew
      have HaR : Hid (Blk WD rb #[.int .i64 r] 3) := by show Blk _ _ _ _; rw [hWD]; exact i3.drew
      have HaC : Hid (Blk WD Bx #[.int .i64 c.cl, .int .i64 c.sq, .int .i64 c.op, .string c.k, .string c.v, .string c.o] 63) := by show Blk _ _ _ _; rw [hWD]; exact hC.drew
      have HaW : Hid (Below w.heap.size w WD) := by show Below _ _ _; rw [hWD]; exact i4.drew
      have HaK : Hid (KpB w.heap.size wc.heap.size W WD) := by show KpB _ _ _ _; rw [hWD]; exact ⟨(Below.refl _ _).drew, rfl⟩
      have HaO : Hid (KeepsOthers W WD) := by show KeepsOthers _ _; rw [hWD]; exact KeepsOthers.drew _
      have haz : W0.heap.size ≤ WD.heap.size := by rw [hWD]; exact i5
      clear hWD i1 i2 i3 i4 i5 hC
      have ar : WD.cell? ⟨rb, 0, none⟩ = some (.int .i64 r) := HaR.out.cell 0
      have ax : WD.cell? ⟨w.heap.size, 0, none⟩ = some (.pointer (some ⟨jb, 0, none⟩)) := HaX.out.cell 0
      have aj : WD.cell? ⟨jb, 2, none⟩ = some (.map (some bt)) := (HJB.out.keep (HaW.out.block jb hjl)).cell 2
      have ac0 : WD.cell? ⟨Bx, 0, none⟩ = some (.int .i64 c.cl) := HaC.out.cell 0
      have ac1 : WD.cell? ⟨Bx, 1, none⟩ = some (.int .i64 c.sq) := HaC.out.cell 1
      have ac2 : WD.cell? ⟨Bx, 2, none⟩ = some (.int .i64 c.op) := HaC.out.cell 2
      have ac3 : WD.cell? ⟨Bx, 3, none⟩ = some (.string c.k) := HaC.out.cell 3
      have ac4 : WD.cell? ⟨Bx, 4, none⟩ = some (.string c.v) := HaC.out.cell 4
      have ac5 : WD.cell? ⟨Bx, 5, none⟩ = some (.string c.o) := HaC.out.cell 5
      have al : (Instr.lookup 79 (.map (some bt)) (.agg #[.int .i64 c.cl, .int .i64 c.sq, .int .i64 c.op, .string c.k, .string c.v, .string c.o]) false).run Try.prog WD = .ok (.agg #[.int .i64 ak, .int .i64 rp]) WD := HLC.out _ (HaW.out.block bt hlt')
      have af : WD.cell? ⟨fb, 0, none⟩ = some (.int .i64 fd) := HaF.out.cell 0
      have afz : WD.frozen? ⟨fb, 0, none⟩ = false := HaF.out.free 0
      gi_wp2
      by_cases hlt : r < ak
      · have hq1 : decide ((r : Int) < (ak : Int)) = true := decide_eq_true (by omega)
        have hq2 : decide (r < ak) = true := decide_eq_true hlt
        have hq3 : (r : Int) < (ak : Int) := by omega
        rw [if_pos hlt] at HST
        refine wpIn_named ?_
        intro a0 ha0
        have hsz0 : a0.tmps.size = 39 := by rw [ha0]; rfl
        have e1 : a0.eval (.tmp 1) = .pointer (some ⟨w.heap.size, 0, none⟩) := by rw [ha0]; rfl
        have e3 : a0.eval (.tmp 3) = .pointer (some ⟨fb, 0, none⟩) := by rw [ha0]; rfl
        have e4 : a0.eval (.tmp 4) = .pointer (some ⟨rb, 0, none⟩) := by rw [ha0]; rfl
        have e5 : a0.eval (.tmp 5) = .int .i64 ix := by rw [ha0]; rfl
        have e6 : a0.eval (.tmp 6) = .pointer (some ⟨Bx, 0, none⟩) := by rw [ha0]; rfl
        have HA0 : Hid (a0 = _) := ha0
        clear ha0
        refine region_round (by kernel_rfl) (fun L aF w' => ∃ x : Nat → Value, aF = frame a0 [19, 20, 21, 22, 23, 24, 25, 26, 27] x ∧ w' = WD ∧ (L.getD 0 false = true → x 19 = .int .i64 r) ∧ (L.getD 1 false = true → x 20 = .pointer (some ⟨jb, 0, none⟩)) ∧ (L.getD 2 false = true → x 21 = .pointer (some ⟨jb, 0, none⟩)) ∧ (L.getD 3 false = true → x 22 = .pointer (some ⟨jb, 2, none⟩)) ∧ (L.getD 4 false = true → x 23 = .map (some bt)) ∧ (L.getD 5 false = true → x 24 = .agg #[.int .i64 c.cl, .int .i64 c.sq, .int .i64 c.op, .string c.k, .string c.v, .string c.o]) ∧ (L.getD 6 false = true → x 25 = .agg #[.int .i64 ak, .int .i64 rp]) ∧ (L.getD 7 false = true → x 26 = .int .i64 ak) ∧ (L.getD 8 false = true → x 27 = .bool true)) ?_ ?_ ?_
        · exact ⟨_, frame_self a0 [19, 20, 21, 22, 23, 24, 25, 26, 27], HWD.out.symm, fun h => (noBit h).elim, fun h => (noBit h).elim, fun h => (noBit h).elim, fun h => (noBit h).elim, fun h => (noBit h).elim, fun h => (noBit h).elim, fun h => (noBit h).elim, fun h => (noBit h).elim, fun h => (noBit h).elim⟩
        · rintro L a w' i hsL hi ⟨x, rfl, hw, h0, h1, h2, h3, h4, h5, h6, h7, h8⟩
          have hiL : i < 9 := (ready_mem hsL hi).1
          have hL : L.size = 9 := hsL
          rcases (show i = 0 ∨ i = 1 ∨ i = 2 ∨ i = 3 ∨ i = 4 ∨ i = 5 ∨ i = 6 ∨ i = 7 ∨ i = 8 by omega) with rfl | rfl | rfl | rfl | rfl | rfl | rfl | rfl | rfl
          · obtain rfl : WD = w' := hw.symm
            have ev4 : (frame a0 [19, 20, 21, 22, 23, 24, 25, 26, 27] x).tmps[4]?.getD undef = .pointer (some ⟨rb, 0, none⟩) := by have h := (frame_eval a0 [19, 20, 21, 22, 23, 24, 25, 26, 27] x 4 rfl).trans e4; simpa [Act.eval] using h
            refine ⟨_, rfl, rfl, (by intro c hc; cases hc), ?_⟩
            refine uponIn_val (v := .int .i64 r) (w := WD) ?_ ?_
            · obtain ⟨aa, haa⟩ : ∃ aa, aa = frame a0 [19, 20, 21, 22, 23, 24, 25, 26, 27] x := ⟨_, rfl⟩
              rw [← haa] at ev4 ⊢
              clear haa HA0 h0 h1 h2 h3 h4 h5 h6 h7 h8
              go_simp
            exact ⟨_, frame_put _ _ _ 19 _ rfl, rfl, fun h => upd_same _ _ _, fun h => by rw [upd_ne _ _ _ _ (by decide)]; exact h1 (keepBit h (by omega) (by decide)), fun h => by rw [upd_ne _ _ _ _ (by decide)]; exact h2 (keepBit h (by omega) (by decide)), fun h => by rw [upd_ne _ _ _ _ (by decide)]; exact h3 (keepBit h (by omega) (by decide)), fun h => by rw [upd_ne _ _ _ _ (by decide)]; exact h4 (keepBit h (by omega) (by decide)), fun h => by rw [upd_ne _ _ _ _ (by decide)]; exact h5 (keepBit h (by omega) (by decide)), fun h => by rw [upd_ne _ _ _ _ (by decide)]; exact h6 (keepBit h (by omega) (by decide)), fun h => by rw [upd_ne _ _ _ _ (by decide)]; exact h7 (keepBit h (by omega) (by decide)), fun h => by rw [upd_ne _ _ _ _ (by decide)]; exact h8 (keepBit h (by omega) (by decide))⟩
          · obtain rfl : WD = w' := hw.symm
            have ev1 : (frame a0 [19, 20, 21, 22, 23, 24, 25, 26, 27] x).tmps[1]?.getD undef = .pointer (some ⟨w.heap.size, 0, none⟩) := by have h := (frame_eval a0 [19, 20, 21, 22, 23, 24, 25, 26, 27] x 1 rfl).trans e1; simpa [Act.eval] using h
            refine ⟨_, rfl, rfl, (by intro c hc; cases hc), ?_⟩
            refine uponIn_val (v := .pointer (some ⟨jb, 0, none⟩)) (w := WD) ?_ ?_
            · obtain ⟨aa, haa⟩ : ∃ aa, aa = frame a0 [19, 20, 21, 22, 23, 24, 25, 26, 27] x := ⟨_, rfl⟩
              rw [← haa] at ev1 ⊢
              clear haa HA0 h0 h1 h2 h3 h4 h5 h6 h7 h8
              go_simp
            exact ⟨_, frame_put _ _ _ 20 _ rfl, rfl, fun h => by rw [upd_ne _ _ _ _ (by decide)]; exact h0 (keepBit h (by omega) (by decide)), fun h => upd_same _ _ _, fun h => by rw [upd_ne _ _ _ _ (by decide)]; exact h2 (keepBit h (by omega) (by decide)), fun h => by rw [upd_ne _ _ _ _ (by decide)]; exact h3 (keepBit h (by omega) (by decide)), fun h => by rw [upd_ne _ _ _ _ (by decide)]; exact h4 (keepBit h (by omega) (by decide)), fun h => by rw [upd_ne _ _ _ _ (by decide)]; exact h5 (keepBit h (by omega) (by decide)), fun h => by rw [upd_ne _ _ _ _ (by decide)]; exact h6 (keepBit h (by omega) (by decide)), fun h => by rw [upd_ne _ _ _ _ (by decide)]; exact h7 (keepBit h (by omega) (by decide)), fun h => by rw [upd_ne _ _ _ _ (by decide)]; exact h8 (keepBit h (by omega) (by decide))⟩
          · obtain rfl : WD = w' := hw.symm
            have ev20 : (frame a0 [19, 20, 21, 22, 23, 24, 25, 26, 27] x).tmps[20]?.getD undef = .pointer (some ⟨jb, 0, none⟩) := by have h := (frame_eval_in a0 [19, 20, 21, 22, 23, 24, 25, 26, 27] x 20 rfl (by omega)).trans (h1 (ready_needs hi (by decide))); simpa [Act.eval] using h
            refine ⟨_, rfl, rfl, (by intro c hc; cases hc), ?_⟩
            refine uponIn_val (v := .pointer (some ⟨jb, 0, none⟩)) (w := WD) ?_ ?_
            · obtain ⟨aa, haa⟩ : ∃ aa, aa = frame a0 [19, 20, 21, 22, 23, 24, 25, 26, 27] x := ⟨_, rfl⟩
              rw [← haa] at ev20 ⊢
              clear haa HA0 h0 h1 h2 h3 h4 h5 h6 h7 h8
              go_simp
            exact ⟨_, frame_put _ _ _ 21 _ rfl, rfl, fun h => by rw [upd_ne _ _ _ _ (by decide)]; exact h0 (keepBit h (by omega) (by decide)), fun h => by rw [upd_ne _ _ _ _ (by decide)]; exact h1 (keepBit h (by omega) (by decide)), fun h => upd_same _ _ _, fun h => by rw [upd_ne _ _ _ _ (by decide)]; exact h3 (keepBit h (by omega) (by decide)), fun h => by rw [upd_ne _ _ _ _ (by decide)]; exact h4 (keepBit h (by omega) (by decide)), fun h => by rw [upd_ne _ _ _ _ (by decide)]; exact h5 (keepBit h (by omega) (by decide)), fun h => by rw [upd_ne _ _ _ _ (by decide)]; exact h6 (keepBit h (by omega) (by decide)), fun h => by rw [upd_ne _ _ _ _ (by decide)]; exact h7 (keepBit h (by omega) (by decide)), fun h => by rw [upd_ne _ _ _ _ (by decide)]; exact h8 (keepBit h (by omega) (by decide))⟩
          · obtain rfl : WD = w' := hw.symm
            have ev21 : (frame a0 [19, 20, 21, 22, 23, 24, 25, 26, 27] x).tmps[21]?.getD undef = .pointer (some ⟨jb, 0, none⟩) := by have h := (frame_eval_in a0 [19, 20, 21, 22, 23, 24, 25, 26, 27] x 21 rfl (by omega)).trans (h2 (ready_needs hi (by decide))); simpa [Act.eval] using h
            refine ⟨_, rfl, rfl, (by intro c hc; cases hc), ?_⟩
            refine uponIn_val (v := .pointer (some ⟨jb, 2, none⟩)) (w := WD) ?_ ?_
            · obtain ⟨aa, haa⟩ : ∃ aa, aa = frame a0 [19, 20, 21, 22, 23, 24, 25, 26, 27] x := ⟨_, rfl⟩
              rw [← haa] at ev21 ⊢
              clear haa HA0 h0 h1 h2 h3 h4 h5 h6 h7 h8
              go_simp
            exact ⟨_, frame_put _ _ _ 22 _ rfl, rfl, fun h => by rw [upd_ne _ _ _ _ (by decide)]; exact h0 (keepBit h (by omega) (by decide)), fun h => by rw [upd_ne _ _ _ _ (by decide)]; exact h1 (keepBit h (by omega) (by decide)), fun h => by rw [upd_ne _ _ _ _ (by decide)]; exact h2 (keepBit h (by omega) (by decide)), fun h => upd_same _ _ _, fun h => by rw [upd_ne _ _ _ _ (by decide)]; exact h4 (keepBit h (by omega) (by decide)), fun h => by rw [upd_ne _ _ _ _ (by decide)]; exact h5 (keepBit h (by omega) (by decide)), fun h => by rw [upd_ne _ _ _ _ (by decide)]; exact h6 (keepBit h (by omega) (by decide)), fun h => by rw [upd_ne _ _ _ _ (by decide)]; exact h7 (keepBit h (by omega) (by decide)), fun h => by rw [upd_ne _ _ _ _ (by decide)]; exact h8 (keepBit h (by omega) (by decide))⟩
          · obtain rfl : WD = w' := hw.symm
            have ev22 : (frame a0 [19, 20, 21, 22, 23, 24, 25, 26, 27] x).tmps[22]?.getD undef = .pointer (some ⟨jb, 2, none⟩) := by have h := (frame_eval_in a0 [19, 20, 21, 22, 23, 24, 25, 26, 27] x 22 rfl (by omega)).trans (h3 (ready_needs hi (by decide))); simpa [Act.eval] using h
            refine ⟨_, rfl, rfl, (by intro c hc; cases hc), ?_⟩
            refine uponIn_val (v := .map (some bt)) (w := WD) ?_ ?_
            · obtain ⟨aa, haa⟩ : ∃ aa, aa = frame a0 [19, 20, 21, 22, 23, 24, 25, 26, 27] x := ⟨_, rfl⟩
              rw [← haa] at ev22 ⊢
              clear haa HA0 h0 h1 h2 h3 h4 h5 h6 h7 h8
              go_simp
            exact ⟨_, frame_put _ _ _ 23 _ rfl, rfl, fun h => by rw [upd_ne _ _ _ _ (by decide)]; exact h0 (keepBit h (by omega) (by decide)), fun h => by rw [upd_ne _ _ _ _ (by decide)]; exact h1 (keepBit h (by omega) (by decide)), fun h => by rw [upd_ne _ _ _ _ (by decide)]; exact h2 (keepBit h (by omega) (by decide)), fun h => by rw [upd_ne _ _ _ _ (by decide)]; exact h3 (keepBit h (by omega) (by decide)), fun h => upd_same _ _ _, fun h => by rw [upd_ne _ _ _ _ (by decide)]; exact h5 (keepBit h (by omega) (by decide)), fun h => by rw [upd_ne _ _ _ _ (by decide)]; exact h6 (keepBit h (by omega) (by decide)), fun h => by rw [upd_ne _ _ _ _ (by decide)]; exact h7 (keepBit h (by omega) (by decide)), fun h => by rw [upd_ne _ _ _ _ (by decide)]; exact h8 (keepBit h (by omega) (by decide))⟩
          · obtain rfl : WD = w' := hw.symm
            have ev6 : (frame a0 [19, 20, 21, 22, 23, 24, 25, 26, 27] x).tmps[6]?.getD undef = .pointer (some ⟨Bx, 0, none⟩) := by have h := (frame_eval a0 [19, 20, 21, 22, 23, 24, 25, 26, 27] x 6 rfl).trans e6; simpa [Act.eval] using h
            refine ⟨_, rfl, rfl, (by intro c hc; cases hc), ?_⟩
            refine uponIn_val (v := .agg #[.int .i64 c.cl, .int .i64 c.sq, .int .i64 c.op, .string c.k, .string c.v, .string c.o]) (w := WD) ?_ ?_
            · obtain ⟨aa, haa⟩ : ∃ aa, aa = frame a0 [19, 20, 21, 22, 23, 24, 25, 26, 27] x := ⟨_, rfl⟩
              rw [← haa] at ev6 ⊢
              clear haa HA0 h0 h1 h2 h3 h4 h5 h6 h7 h8
              go_simp
            exact ⟨_, frame_put _ _ _ 24 _ rfl, rfl, fun h => by rw [upd_ne _ _ _ _ (by decide)]; exact h0 (keepBit h (by omega) (by decide)), fun h => by rw [upd_ne _ _ _ _ (by decide)]; exact h1 (keepBit h (by omega) (by decide)), fun h => by rw [upd_ne _ _ _ _ (by decide)]; exact h2 (keepBit h (by omega) (by decide)), fun h => by rw [upd_ne _ _ _ _ (by decide)]; exact h3 (keepBit h (by omega) (by decide)), fun h => by rw [upd_ne _ _ _ _ (by decide)]; exact h4 (keepBit h (by omega) (by decide)), fun h => upd_same _ _ _, fun h => by rw [upd_ne _ _ _ _ (by decide)]; exact h6 (keepBit h (by omega) (by decide)), fun h => by rw [upd_ne _ _ _ _ (by decide)]; exact h7 (keepBit h (by omega) (by decide)), fun h => by rw [upd_ne _ _ _ _ (by decide)]; exact h8 (keepBit h (by omega) (by decide))⟩
          · obtain rfl : WD = w' := hw.symm
            have ev23 : (frame a0 [19, 20, 21, 22, 23, 24, 25, 26, 27] x).tmps[23]?.getD undef = .map (some bt) := by have h := (frame_eval_in a0 [19, 20, 21, 22, 23, 24, 25, 26, 27] x 23 rfl (by omega)).trans (h4 (ready_needs hi (by decide))); simpa [Act.eval] using h
            have ev24 : (frame a0 [19, 20, 21, 22, 23, 24, 25, 26, 27] x).tmps[24]?.getD undef = .agg #[.int .i64 c.cl, .int .i64 c.sq, .int .i64 c.op, .string c.k, .string c.v, .string c.o] := by have h := (frame_eval_in a0 [19, 20, 21, 22, 23, 24, 25, 26, 27] x 24 rfl (by omega)).trans (h5 (ready_needs hi (by decide))); simpa [Act.eval] using h
            refine ⟨_, rfl, rfl, (by intro c hc; cases hc), ?_⟩
            refine uponIn_val (v := .agg #[.int .i64 ak, .int .i64 rp]) (w := WD) ?_ ?_
            · obtain ⟨aa, haa⟩ : ∃ aa, aa = frame a0 [19, 20, 21, 22, 23, 24, 25, 26, 27] x := ⟨_, rfl⟩
              rw [← haa] at ev23 ev24 ⊢
              clear haa HA0 h0 h1 h2 h3 h4 h5 h6 h7 h8
              go_simp
            exact ⟨_, frame_put _ _ _ 25 _ rfl, rfl, fun h => by rw [upd_ne _ _ _ _ (by decide)]; exact h0 (keepBit h (by omega) (by decide)), fun h => by rw [upd_ne _ _ _ _ (by decide)]; exact h1 (keepBit h (by omega) (by decide)), fun h => by rw [upd_ne _ _ _ _ (by decide)]; exact h2 (keepBit h (by omega) (by decide)), fun h => by rw [upd_ne _ _ _ _ (by decide)]; exact h3 (keepBit h (by omega) (by decide)), fun h => by rw [upd_ne _ _ _ _ (by decide)]; exact h4 (keepBit h (by omega) (by decide)), fun h => by rw [upd_ne _ _ _ _ (by decide)]; exact h5 (keepBit h (by omega) (by decide)), fun h => upd_same _ _ _, fun h => by rw [upd_ne _ _ _ _ (by decide)]; exact h7 (keepBit h (by omega) (by decide)), fun h => by rw [upd_ne _ _ _ _ (by decide)]; exact h8 (keepBit h (by omega) (by decide))⟩
          · obtain rfl : WD = w' := hw.symm
            have ev25 : (frame a0 [19, 20, 21, 22, 23, 24, 25, 26, 27] x).tmps[25]?.getD undef = .agg #[.int .i64 ak, .int .i64 rp] := by have h := (frame_eval_in a0 [19, 20, 21, 22, 23, 24, 25, 26, 27] x 25 rfl (by omega)).trans (h6 (ready_needs hi (by decide))); simpa [Act.eval] using h
            refine ⟨_, rfl, rfl, (by intro c hc; cases hc), ?_⟩
            refine uponIn_val (v := .int .i64 ak) (w := WD) ?_ ?_
            · obtain ⟨aa, haa⟩ : ∃ aa, aa = frame a0 [19, 20, 21, 22, 23, 24, 25, 26, 27] x := ⟨_, rfl⟩
              rw [← haa] at ev25 ⊢
              clear haa HA0 h0 h1 h2 h3 h4 h5 h6 h7 h8
              go_simp
            exact ⟨_, frame_put _ _ _ 26 _ rfl, rfl, fun h => by rw [upd_ne _ _ _ _ (by decide)]; exact h0 (keepBit h (by omega) (by decide)), fun h => by rw [upd_ne _ _ _ _ (by decide)]; exact h1 (keepBit h (by omega) (by decide)), fun h => by rw [upd_ne _ _ _ _ (by decide)]; exact h2 (keepBit h (by omega) (by decide)), fun h => by rw [upd_ne _ _ _ _ (by decide)]; exact h3 (keepBit h (by omega) (by decide)), fun h => by rw [upd_ne _ _ _ _ (by decide)]; exact h4 (keepBit h (by omega) (by decide)), fun h => by rw [upd_ne _ _ _ _ (by decide)]; exact h5 (keepBit h (by omega) (by decide)), fun h => by rw [upd_ne _ _ _ _ (by decide)]; exact h6 (keepBit h (by omega) (by decide)), fun h => upd_same _ _ _, fun h => by rw [upd_ne _ _ _ _ (by decide)]; exact h8 (keepBit h (by omega) (by decide))⟩
          · obtain rfl : WD = w' := hw.symm
            have ev19 : (frame a0 [19, 20, 21, 22, 23, 24, 25, 26, 27] x).tmps[19]?.getD undef = .int .i64 r := by have h := (frame_eval_in a0 [19, 20, 21, 22, 23, 24, 25, 26, 27] x 19 rfl (by omega)).trans (h0 (ready_needs hi (by decide))); simpa [Act.eval] using h
            have ev26 : (frame a0 [19, 20, 21, 22, 23, 24, 25, 26, 27] x).tmps[26]?.getD undef = .int .i64 ak := by have h := (frame_eval_in a0 [19, 20, 21, 22, 23, 24, 25, 26, 27] x 26 rfl (by omega)).trans (h7 (ready_needs hi (by decide))); simpa [Act.eval] using h
            refine ⟨_, rfl, rfl, (by intro c hc; cases hc), ?_⟩
            refine uponIn_val (v := .bool true) (w := WD) ?_ ?_
            · obtain ⟨aa, haa⟩ : ∃ aa, aa = frame a0 [19, 20, 21, 22, 23, 24, 25, 26, 27] x := ⟨_, rfl⟩
              rw [← haa] at ev19 ev26 ⊢
              clear haa HA0 h0 h1 h2 h3 h4 h5 h6 h7 h8
              go_simp
            exact ⟨_, frame_put _ _ _ 27 _ rfl, rfl, fun h => by rw [upd_ne _ _ _ _ (by decide)]; exact h0 (keepBit h (by omega) (by decide)), fun h => by rw [upd_ne _ _ _ _ (by decide)]; exact h1 (keepBit h (by omega) (by decide)), fun h => by rw [upd_ne _ _ _ _ (by decide)]; exact h2 (keepBit h (by omega) (by decide)), fun h => by rw [upd_ne _ _ _ _ (by decide)]; exact h3 (keepBit h (by omega) (by decide)), fun h => by rw [upd_ne _ _ _ _ (by decide)]; exact h4 (keepBit h (by omega) (by decide)), fun h => by rw [upd_ne _ _ _ _ (by decide)]; exact h5 (keepBit h (by omega) (by decide)), fun h => by rw [upd_ne _ _ _ _ (by decide)]; exact h6 (keepBit h (by omega) (by decide)), fun h => by rw [upd_ne _ _ _ _ (by decide)]; exact h7 (keepBit h (by omega) (by decide)), fun h => upd_same _ _ _⟩
        · rintro L a w' hsL hr2 ⟨x, rfl, hw, h0, h1, h2, h3, h4, h5, h6, h7, h8⟩
          have hall := ready_nil hsL hr2 (by decide)
          replace h0 := h0 (hall 0 (by decide))
          replace h1 := h1 (hall 1 (by decide))
          replace h2 := h2 (hall 2 (by decide))
          replace h3 := h3 (hall 3 (by decide))
          replace h4 := h4 (hall 4 (by decide))
          replace h5 := h5 (hall 5 (by decide))
          replace h6 := h6 (hall 6 (by decide))
          replace h7 := h7 (hall 7 (by decide))
          replace h8 := h8 (hall 8 (by decide))
          obtain rfl : WD = w' := hw.symm
          rw [HA0.out]
          simp only [frame, List.zipIdx_cons, List.zipIdx_nil, List.map_cons, List.map_nil, List.contains_cons, List.contains_nil, Nat.reduceBEq, Nat.reduceAdd, Bool.or_false, Bool.false_or, Bool.or_true, Bool.true_or, Bool.false_eq_true, if_false, if_true, h0, h1, h2, h3, h4, h5, h6, h7, h8]
          gi_wp2
          obtain ⟨V, hV⟩ : ∃ V, V = (WD.setCell ⟨fb, 0, none⟩ (.int .i64 ix)) := ⟨_, rfl⟩
          have HbX : Hid (Blk V w.heap.size #[.pointer (some ⟨jb, 0, none⟩)] 78) := by show Blk _ _ _ _; rw [hV]; exact HaX.out.set_other _ (by simp only []; omega)
          have HbF : Hid (Blk V fb #[.int .i64 ix] 3) := by show Blk _ _ _ _; rw [hV]; exact HaF.out.set 0 _
          have HbR : Hid (Blk V rb #[.int .i64 r] 3) := by show Blk _ _ _ _; rw [hV]; exact HaR.out.set_other _ (by simp only []; omega)
          have HbC : Hid (Blk V Bx #[.int .i64 c.cl, .int .i64 c.sq, .int .i64 c.op, .string c.k, .string c.v, .string c.o] 63) := by show Blk _ _ _ _; rw [hV]; exact HaC.out.set_other _ (by simp only []; omega)
          have HbW : Hid (Below w.heap.size w V) := by show Below _ _ _; rw [hV]; exact HaW.out.setCell (by simp only []; omega) _
          have HbK : Hid (KpB w.heap.size wc.heap.size W V) := by show KpB _ _ _ _; rw [hV]; exact ⟨HaK.out.1.setCell (by simp only []; omega) _, (Below.heap_setCell _ _ _ _ (by simp only []; omega)).trans HaK.out.2⟩
          have HbO : Hid (KeepsOthers W V) := by show KeepsOthers _ _; rw [hV]; exact HaO.out.trans (KeepsOthers.setCell _ _ _)
          have hbz : W0.heap.size ≤ V.heap.size := by rw [hV]; have := haz; simp [World.setCell]; omega
          rw [← hV]
          clear hV
          obtain ⟨fv, hfv⟩ : ∃ fv, fv = (ix : Int) := ⟨_, rfl⟩
          rw [← hfv] at HbF HST
          clear hfv
          clear HaX HaF HaR HaC HaW HaK HaO haz HWD ar ax aj ac0 ac1 ac2 ac3 ac4 ac5 al af afz
          clear h0 h1 h2 h3 h4 h5 h6 h7 h8 hall hsL hr2 HA0 hsz0 e1 e3 e4 e5 e6
          clear L x a0
          clear WD
          obtain ⟨WE, hWE⟩ : ∃ WE, WE = V.drew := ⟨_, rfl⟩
          have HWD : Hid (WE = V.drew) := hWE
          have HaX : Hid (Blk WE w.heap.size #[.pointer (some ⟨jb, 0, none⟩)] 78) := by show Blk _ _ _ _; rw [hWE]; exact HbX.out.drew
          have HaF : Hid (Blk WE fb #[.int .i64 fv] 3) := by show Blk _ _ _ _; rw [hWE]; exact HbF.out.drew
          have HaR : Hid (Blk WE rb #[.int .i64 r] 3) := by show Blk _ _ _ _; rw [hWE]; exact HbR.out.drew
          have HaC : Hid (Blk WE Bx #[.int .i64 c.cl, .int .i64 c.sq, .int .i64 c.op, .string c.k, .string c.v, .string c.o] 63) := by show Blk _ _ _ _; rw [hWE]; exact HbC.out.drew
          have HaW : Hid (Below w.heap.size w WE) := by show Below _ _ _; rw [hWE]; exact HbW.out.drew
          have HaK : Hid (KpB w.heap.size wc.heap.size W WE) := by show KpB _ _ _ _; rw [hWE]; exact HbK.out.trans ⟨(Below.refl _ _).drew, rfl⟩
          have HaO : Hid (KeepsOthers W WE) := by show KeepsOthers _ _; rw [hWE]; exact HbO.out.trans (KeepsOthers.drew _)
          have haz : W0.heap.size ≤ WE.heap.size := by rw [hWE]; exact hbz
          clear hWE HbX HbF HbR HbC HbW HbK HbO hbz
          have ar : WE.cell? ⟨rb, 0, none⟩ = some (.int .i64 r) := HaR.out.cell 0
          have ax : WE.cell? ⟨w.heap.size, 0, none⟩ = some (.pointer (some ⟨jb, 0, none⟩)) := HaX.out.cell 0
          have aj : WE.cell? ⟨jb, 2, none⟩ = some (.map (some bt)) := (HJB.out.keep (HaW.out.block jb hjl)).cell 2
          have ac0 : WE.cell? ⟨Bx, 0, none⟩ = some (.int .i64 c.cl) := HaC.out.cell 0
          have ac1 : WE.cell? ⟨Bx, 1, none⟩ = some (.int .i64 c.sq) := HaC.out.cell 1
          have ac2 : WE.cell? ⟨Bx, 2, none⟩ = some (.int .i64 c.op) := HaC.out.cell 2
          have ac3 : WE.cell? ⟨Bx, 3, none⟩ = some (.string c.k) := HaC.out.cell 3
          have ac4 : WE.cell? ⟨Bx, 4, none⟩ = some (.string c.v) := HaC.out.cell 4
          have ac5 : WE.cell? ⟨Bx, 5, none⟩ = some (.string c.o) := HaC.out.cell 5
          have al : (Instr.lookup 79 (.map (some bt)) (.agg #[.int .i64 c.cl, .int .i64 c.sq, .int .i64 c.op, .string c.k, .string c.v, .string c.o]) false).run Try.prog WE = .ok (.agg #[.int .i64 ak, .int .i64 rp]) WE := HLC.out _ (HaW.out.block bt hlt')
          have arz : WE.frozen? ⟨rb, 0, none⟩ = false := HaR.out.free 0
          refine wpIn_named ?_
          intro a0 ha0
          have hsz0 : a0.tmps.size = 39 := by rw [ha0]; rfl
          have e1 : a0.eval (.tmp 1) = .pointer (some ⟨w.heap.size, 0, none⟩) := by rw [ha0]; rfl
          have e3 : a0.eval (.tmp 3) = .pointer (some ⟨fb, 0, none⟩) := by rw [ha0]; rfl
          have e4 : a0.eval (.tmp 4) = .pointer (some ⟨rb, 0, none⟩) := by rw [ha0]; rfl
          have e5 : a0.eval (.tmp 5) = .int .i64 ix := by rw [ha0]; rfl
          have e6 : a0.eval (.tmp 6) = .pointer (some ⟨Bx, 0, none⟩) := by rw [ha0]; rfl
          have HA0 : Hid (a0 = _) := ha0
          clear ha0
          refine region_round (by kernel_rfl) (fun L aF w' => ∃ x : Nat → Value, aF = frame a0 [29, 30, 31, 32, 33, 34, 35, 36, 37] x ∧ ((L.getD 9 false = false ∧ w' = WE) ∨ (L.getD 9 false = true ∧ w' = (WE.setCell ⟨rb, 0, none⟩ (.int .i64 mn)) ∧ (L.getD 0 false = true ∧ L.getD 1 false = true ∧ L.getD 2 false = true ∧ L.getD 3 false = true ∧ L.getD 4 false = true ∧ L.getD 5 false = true ∧ L.getD 6 false = true ∧ L.getD 7 false = true ∧ L.getD 8 false = true))) ∧ (L.getD 0 false = true → x 29 = .int .i64 r) ∧ (L.getD 1 false = true → x 30 = .pointer (some ⟨jb, 0, none⟩)) ∧ (L.getD 2 false = true → x 31 = .pointer (some ⟨jb, 0, none⟩)) ∧ (L.getD 3 false = true → x 32 = .pointer (some ⟨jb, 2, none⟩)) ∧ (L.getD 4 false = true → x 33 = .map (some bt)) ∧ (L.getD 5 false = true → x 34 = .agg #[.int .i64 c.cl, .int .i64 c.sq, .int .i64 c.op, .string c.k, .string c.v, .string c.o]) ∧ (L.getD 6 false = true → x 35 = .agg #[.int .i64 ak, .int .i64 rp]) ∧ (L.getD 7 false = true → x 36 = .int .i64 rp) ∧ (L.getD 8 false = true → x 37 = .int .i64 mn)) ?_ ?_ ?_
          · exact ⟨_, frame_self a0 [29, 30, 31, 32, 33, 34, 35, 36, 37], .inl ⟨by rfl, HWD.out.symm⟩, fun h => (noBit h).elim, fun h => (noBit h).elim, fun h => (noBit h).elim, fun h => (noBit h).elim, fun h => (noBit h).elim, fun h => (noBit h).elim, fun h => (noBit h).elim, fun h => (noBit h).elim, fun h => (noBit h).elim⟩
          · rintro L a w' i hsL hi ⟨x, rfl, hw, h0, h1, h2, h3, h4, h5, h6, h7, h8⟩
            have hiL : i < 10 := (ready_mem hsL hi).1
            have hL : L.size = 10 := hsL
            rcases (show i = 0 ∨ i = 1 ∨ i = 2 ∨ i = 3 ∨ i = 4 ∨ i = 5 ∨ i = 6 ∨ i = 7 ∨ i = 8 ∨ i = 9 by omega) with rfl | rfl | rfl | rfl | rfl | rfl | rfl | rfl | rfl | rfl
            · have hw' : L.getD 9 false = false ∧ w' = WE := hw.elim id fun hq => (readyBit hsL hi (hq.2.2.1)).elim
              obtain ⟨hb9, hw9⟩ := hw'
              obtain rfl : WE = w' := hw9.symm
              have ev4 : (frame a0 [29, 30, 31, 32, 33, 34, 35, 36, 37] x).tmps[4]?.getD undef = .pointer (some ⟨rb, 0, none⟩) := by have h := (frame_eval a0 [29, 30, 31, 32, 33, 34, 35, 36, 37] x 4 rfl).trans e4; simpa [Act.eval] using h
              refine ⟨_, rfl, rfl, (by intro c hc; cases hc), ?_⟩
              refine uponIn_val (v := .int .i64 r) (w := WE) ?_ ?_
              · obtain ⟨aa, haa⟩ : ∃ aa, aa = frame a0 [29, 30, 31, 32, 33, 34, 35, 36, 37] x := ⟨_, rfl⟩
                rw [← haa] at ev4 ⊢
                clear haa HA0 h0 h1 h2 h3 h4 h5 h6 h7 h8
                go_simp
              exact ⟨_, frame_put _ _ _ 29 _ rfl, .inl ⟨by rw [getD_set L 0 9 (by omega), hb9]; rfl, rfl⟩, fun h => upd_same _ _ _, fun h => by rw [upd_ne _ _ _ _ (by decide)]; exact h1 (keepBit h (by omega) (by decide)), fun h => by rw [upd_ne _ _ _ _ (by decide)]; exact h2 (keepBit h (by omega) (by decide)), fun h => by rw [upd_ne _ _ _ _ (by decide)]; exact h3 (keepBit h (by omega) (by decide)), fun h => by rw [upd_ne _ _ _ _ (by decide)]; exact h4 (keepBit h (by omega) (by decide)), fun h => by rw [upd_ne _ _ _ _ (by decide)]; exact h5 (keepBit h (by omega) (by decide)), fun h => by rw [upd_ne _ _ _ _ (by decide)]; exact h6 (keepBit h (by omega) (by decide)), fun h => by rw [upd_ne _ _ _ _ (by decide)]; exact h7 (keepBit h (by omega) (by decide)), fun h => by rw [upd_ne _ _ _ _ (by decide)]; exact h8 (keepBit h (by omega) (by decide))⟩
            · have hw' : L.getD 9 false = false ∧ w' = WE := hw.elim id fun hq => (readyBit hsL hi (hq.2.2.2.1)).elim
              obtain ⟨hb9, hw9⟩ := hw'
              obtain rfl : WE = w' := hw9.symm
              have ev1 : (frame a0 [29, 30, 31, 32, 33, 34, 35, 36, 37] x).tmps[1]?.getD undef = .pointer (some ⟨w.heap.size, 0, none⟩) := by have h := (frame_eval a0 [29, 30, 31, 32, 33, 34, 35, 36, 37] x 1 rfl).trans e1; simpa [Act.eval] using h
              refine ⟨_, rfl, rfl, (by intro c hc; cases hc), ?_⟩
              refine uponIn_val (v := .pointer (some ⟨jb, 0, none⟩)) (w := WE) ?_ ?_
              · obtain ⟨aa, haa⟩ : ∃ aa, aa = frame a0 [29, 30, 31, 32, 33, 34, 35, 36, 37] x := ⟨_, rfl⟩
                rw [← haa] at ev1 ⊢
                clear haa HA0 h0 h1 h2 h3 h4 h5 h6 h7 h8
                go_simp
              exact ⟨_, frame_put _ _ _ 30 _ rfl, .inl ⟨by rw [getD_set L 1 9 (by omega), hb9]; rfl, rfl⟩, fun h => by rw [upd_ne _ _ _ _ (by decide)]; exact h0 (keepBit h (by omega) (by decide)), fun h => upd_same _ _ _, fun h => by rw [upd_ne _ _ _ _ (by decide)]; exact h2 (keepBit h (by omega) (by decide)), fun h => by rw [upd_ne _ _ _ _ (by decide)]; exact h3 (keepBit h (by omega) (by decide)), fun h => by rw [upd_ne _ _ _ _ (by decide)]; exact h4 (keepBit h (by omega) (by decide)), fun h => by rw [upd_ne _ _ _ _ (by decide)]; exact h5 (keepBit h (by omega) (by decide)), fun h => by rw [upd_ne _ _ _ _ (by decide)]; exact h6 (keepBit h (by omega) (by decide)), fun h => by rw [upd_ne _ _ _ _ (by decide)]; exact h7 (keepBit h (by omega) (by decide)), fun h => by rw [upd_ne _ _ _ _ (by decide)]; exact h8 (keepBit h (by omega) (by decide))⟩
            · have hw' : L.getD 9 false = false ∧ w' = WE := hw.elim id fun hq => (readyBit hsL hi (hq.2.2.2.2.1)).elim
              obtain ⟨hb9, hw9⟩ := hw'
              obtain rfl : WE = w' := hw9.symm
              have ev30 : (frame a0 [29, 30, 31, 32, 33, 34, 35, 36, 37] x).tmps[30]?.getD undef = .pointer (some ⟨jb, 0, none⟩) := by have h := (frame_eval_in a0 [29, 30, 31, 32, 33, 34, 35, 36, 37] x 30 rfl (by omega)).trans (h1 (ready_needs hi (by decide))); simpa [Act.eval] using h
              refine ⟨_, rfl, rfl, (by intro c hc; cases hc), ?_⟩
              refine uponIn_val (v := .pointer (some ⟨jb, 0, none⟩)) (w := WE) ?_ ?_
              · obtain ⟨aa, haa⟩ : ∃ aa, aa = frame a0 [29, 30, 31, 32, 33, 34, 35, 36, 37] x := ⟨_, rfl⟩
                rw [← haa] at ev30 ⊢
                clear haa HA0 h0 h1 h2 h3 h4 h5 h6 h7 h8
                go_simp
              exact ⟨_, frame_put _ _ _ 31 _ rfl, .inl ⟨by rw [getD_set L 2 9 (by omega), hb9]; rfl, rfl⟩, fun h => by rw [upd_ne _ _ _ _ (by decide)]; exact h0 (keepBit h (by omega) (by decide)), fun h => by rw [upd_ne _ _ _ _ (by decide)]; exact h1 (keepBit h (by omega) (by decide)), fun h => upd_same _ _ _, fun h => by rw [upd_ne _ _ _ _ (by decide)]; exact h3 (keepBit h (by omega) (by decide)), fun h => by rw [upd_ne _ _ _ _ (by decide)]; exact h4 (keepBit h (by omega) (by decide)), fun h => by rw [upd_ne _ _ _ _ (by decide)]; exact h5 (keepBit h (by omega) (by decide)), fun h => by rw [upd_ne _ _ _ _ (by decide)]; exact h6 (keepBit h (by omega) (by decide)), fun h => by rw [upd_ne _ _ _ _ (by decide)]; exact h7 (keepBit h (by omega) (by decide)), fun h => by rw [upd_ne _ _ _ _ (by decide)]; exact h8 (keepBit h (by omega) (by decide))⟩
            · have hw' : L.getD 9 false = false ∧ w' = WE := hw.elim id fun hq => (readyBit hsL hi (hq.2.2.2.2.2.1)).elim
              obtain ⟨hb9, hw9⟩ := hw'
              obtain rfl : WE = w' := hw9.symm
              have ev31 : (frame a0 [29, 30, 31, 32, 33, 34, 35, 36, 37] x).tmps[31]?.getD undef = .pointer (some ⟨jb, 0, none⟩) := by have h := (frame_eval_in a0 [29, 30, 31, 32, 33, 34, 35, 36, 37] x 31 rfl (by omega)).trans (h2 (ready_needs hi (by decide))); simpa [Act.eval] using h
              refine ⟨_, rfl, rfl, (by intro c hc; cases hc), ?_⟩
              refine uponIn_val (v := .pointer (some ⟨jb, 2, none⟩)) (w := WE) ?_ ?_
              · obtain ⟨aa, haa⟩ : ∃ aa, aa = frame a0 [29, 30, 31, 32, 33, 34, 35, 36, 37] x := ⟨_, rfl⟩
                rw [← haa] at ev31 ⊢
                clear haa HA0 h0 h1 h2 h3 h4 h5 h6 h7 h8
                go_simp
              exact ⟨_, frame_put _ _ _ 32 _ rfl, .inl ⟨by rw [getD_set L 3 9 (by omega), hb9]; rfl, rfl⟩, fun h => by rw [upd_ne _ _ _ _ (by decide)]; exact h0 (keepBit h (by omega) (by decide)), fun h => by rw [upd_ne _ _ _ _ (by decide)]; exact h1 (keepBit h (by omega) (by decide)), fun h => by rw [upd_ne _ _ _ _ (by decide)]; exact h2 (keepBit h (by omega) (by decide)), fun h => upd_same _ _ _, fun h => by rw [upd_ne _ _ _ _ (by decide)]; exact h4 (keepBit h (by omega) (by decide)), fun h => by rw [upd_ne _ _ _ _ (by decide)]; exact h5 (keepBit h (by omega) (by decide)), fun h => by rw [upd_ne _ _ _ _ (by decide)]; exact h6 (keepBit h (by omega) (by decide)), fun h => by rw [upd_ne _ _ _ _ (by decide)]; exact h7 (keepBit h (by omega) (by decide)), fun h => by rw [upd_ne _ _ _ _ (by decide)]; exact h8 (keepBit h (by omega) (by decide))⟩
            · have hw' : L.getD 9 false = false ∧ w' = WE := hw.elim id fun hq => (readyBit hsL hi (hq.2.2.2.2.2.2.1)).elim
              obtain ⟨hb9, hw9⟩ := hw'
              obtain rfl : WE = w' := hw9.symm
              have ev32 : (frame a0 [29, 30, 31, 32, 33, 34, 35, 36, 37] x).tmps[32]?.getD undef = .pointer (some ⟨jb, 2, none⟩) := by have h := (frame_eval_in a0 [29, 30, 31, 32, 33, 34, 35, 36, 37] x 32 rfl (by omega)).trans (h3 (ready_needs hi (by decide))); simpa [Act.eval] using h
              refine ⟨_, rfl, rfl, (by intro c hc; cases hc), ?_⟩
              refine uponIn_val (v := .map (some bt)) (w := WE) ?_ ?_
              · obtain ⟨aa, haa⟩ : ∃ aa, aa = frame a0 [29, 30, 31, 32, 33, 34, 35, 36, 37] x := ⟨_, rfl⟩
                rw [← haa] at ev32 ⊢
                clear haa HA0 h0 h1 h2 h3 h4 h5 h6 h7 h8
                go_simp
              exact ⟨_, frame_put _ _ _ 33 _ rfl, .inl ⟨by rw [getD_set L 4 9 (by omega), hb9]; rfl, rfl⟩, fun h => by rw [upd_ne _ _ _ _ (by decide)]; exact h0 (keepBit h (by omega) (by decide)), fun h => by rw [upd_ne _ _ _ _ (by decide)]; exact h1 (keepBit h (by omega) (by decide)), fun h => by rw [upd_ne _ _ _ _ (by decide)]; exact h2 (keepBit h (by omega) (by decide)), fun h => by rw [upd_ne _ _ _ _ (by decide)]; exact h3 (keepBit h (by omega) (by decide)), fun h => upd_same _ _ _, fun h => by rw [upd_ne _ _ _ _ (by decide)]; exact h5 (keepBit h (by omega) (by decide)), fun h => by rw [upd_ne _ _ _ _ (by decide)]; exact h6 (keepBit h (by omega) (by decide)), fun h => by rw [upd_ne _ _ _ _ (by decide)]; exact h7 (keepBit h (by omega) (by decide)), fun h => by rw [upd_ne _ _ _ _ (by decide)]; exact h8 (keepBit h (by omega) (by decide))⟩
            · have hw' : L.getD 9 false = false ∧ w' = WE := hw.elim id fun hq => (readyBit hsL hi (hq.2.2.2.2.2.2.2.1)).elim
              obtain ⟨hb9, hw9⟩ := hw'
              obtain rfl : WE = w' := hw9.symm
              have ev6 : (frame a0 [29, 30, 31, 32, 33, 34, 35, 36, 37] x).tmps[6]?.getD undef = .pointer (some ⟨Bx, 0, none⟩) := by have h := (frame_eval a0 [29, 30, 31, 32, 33, 34, 35, 36, 37] x 6 rfl).trans e6; simpa [Act.eval] using h
              refine ⟨_, rfl, rfl, (by intro c hc; cases hc), ?_⟩
              refine uponIn_val (v := .agg #[.int .i64 c.cl, .int .i64 c.sq, .int .i64 c.op, .string c.k, .string c.v, .string c.o]) (w := WE) ?_ ?_
              · obtain ⟨aa, haa⟩ : ∃ aa, aa = frame a0 [29, 30, 31, 32, 33, 34, 35, 36, 37] x := ⟨_, rfl⟩
                rw [← haa] at ev6 ⊢
                clear haa HA0 h0 h1 h2 h3 h4 h5 h6 h7 h8
                go_simp
              exact ⟨_, frame_put _ _ _ 34 _ rfl, .inl ⟨by rw [getD_set L 5 9 (by omega), hb9]; rfl, rfl⟩, fun h => by rw [upd_ne _ _ _ _ (by decide)]; exact h0 (keepBit h (by omega) (by decide)), fun h => by rw [upd_ne _ _ _ _ (by decide)]; exact h1 (keepBit h (by omega) (by decide)), fun h => by rw [upd_ne _ _ _ _ (by decide)]; exact h2 (keepBit h (by omega) (by decide)), fun h => by rw [upd_ne _ _ _ _ (by decide)]; exact h3 (keepBit h (by omega) (by decide)), fun h => by rw [upd_ne _ _ _ _ (by decide)]; exact h4 (keepBit h (by omega) (by decide)), fun h => upd_same _ _ _, fun h => by rw [upd_ne _ _ _ _ (by decide)]; exact h6 (keepBit h (by omega) (by decide)), fun h => by rw [upd_ne _ _ _ _ (by decide)]; exact h7 (keepBit h (by omega) (by decide)), fun h => by rw [upd_ne _ _ _ _ (by decide)]; exact h8 (keepBit h (by omega) (by decide))⟩
            · have hw' : L.getD 9 false = false ∧ w' = WE := hw.elim id fun hq => (readyBit hsL hi (hq.2.2.2.2.2.2.2.2.1)).elim
              obtain ⟨hb9, hw9⟩ := hw'
              obtain rfl : WE = w' := hw9.symm
              have ev33 : (frame a0 [29, 30, 31, 32, 33, 34, 35, 36, 37] x).tmps[33]?.getD undef = .map (some bt) := by have h := (frame_eval_in a0 [29, 30, 31, 32, 33, 34, 35, 36, 37] x 33 rfl (by omega)).trans (h4 (ready_needs hi (by decide))); simpa [Act.eval] using h
              have ev34 : (frame a0 [29, 30, 31, 32, 33, 34, 35, 36, 37] x).tmps[34]?.getD undef = .agg #[.int .i64 c.cl, .int .i64 c.sq, .int .i64 c.op, .string c.k, .string c.v, .string c.o] := by have h := (frame_eval_in a0 [29, 30, 31, 32, 33, 34, 35, 36, 37] x 34 rfl (by omega)).trans (h5 (ready_needs hi (by decide))); simpa [Act.eval] using h
              refine ⟨_, rfl, rfl, (by intro c hc; cases hc), ?_⟩
              refine uponIn_val (v := .agg #[.int .i64 ak, .int .i64 rp]) (w := WE) ?_ ?_
              · obtain ⟨aa, haa⟩ : ∃ aa, aa = frame a0 [29, 30, 31, 32, 33, 34, 35, 36, 37] x := ⟨_, rfl⟩
                rw [← haa] at ev33 ev34 ⊢
                clear haa HA0 h0 h1 h2 h3 h4 h5 h6 h7 h8
                go_simp
              exact ⟨_, frame_put _ _ _ 35 _ rfl, .inl ⟨by rw [getD_set L 6 9 (by omega), hb9]; rfl, rfl⟩, fun h => by rw [upd_ne _ _ _ _ (by decide)]; exact h0 (keepBit h (by omega) (by decide)), fun h => by rw [upd_ne _ _ _ _ (by decide)]; exact h1 (keepBit h (by omega) (by decide)), fun h => by rw [upd_ne _ _ _ _ (by decide)]; exact h2 (keepBit h (by omega) (by decide)), fun h => by rw [upd_ne _ _ _ _ (by decide)]; exact h3 (keepBit h (by omega) (by decide)), fun h => by rw [upd_ne _ _ _ _ (by decide)]; exact h4 (keepBit h (by omega) (by decide)), fun h => by rw [upd_ne _ _ _ _ (by decide)]; exact h5 (keepBit h (by omega) (by decide)), fun h => upd_same _ _ _, fun h => by rw [upd_ne _ _ _ _ (by decide)]; exact h7 (keepBit h (by omega) (by decide)), fun h => by rw [upd_ne _ _ _ _ (by decide)]; exact h8 (keepBit h (by omega) (by decide))⟩
            · have hw' : L.getD 9 false = false ∧ w' = WE := hw.elim id fun hq => (readyBit hsL hi (hq.2.2.2.2.2.2.2.2.2.1)).elim
              obtain ⟨hb9, hw9⟩ := hw'
              obtain rfl : WE = w' := hw9.symm
              have ev35 : (frame a0 [29, 30, 31, 32, 33, 34, 35, 36, 37] x).tmps[35]?.getD undef = .agg #[.int .i64 ak, .int .i64 rp] := by have h := (frame_eval_in a0 [29, 30, 31, 32, 33, 34, 35, 36, 37] x 35 rfl (by omega)).trans (h6 (ready_needs hi (by decide))); simpa [Act.eval] using h
              refine ⟨_, rfl, rfl, (by intro c hc; cases hc), ?_⟩
              refine uponIn_val (v := .int .i64 rp) (w := WE) ?_ ?_
              · obtain ⟨aa, haa⟩ : ∃ aa, aa = frame a0 [29, 30, 31, 32, 33, 34, 35, 36, 37] x := ⟨_, rfl⟩
                rw [← haa] at ev35 ⊢
                clear haa HA0 h0 h1 h2 h3 h4 h5 h6 h7 h8
                go_simp
              exact ⟨_, frame_put _ _ _ 36 _ rfl, .inl ⟨by rw [getD_set L 7 9 (by omega), hb9]; rfl, rfl⟩, fun h => by rw [upd_ne _ _ _ _ (by decide)]; exact h0 (keepBit h (by omega) (by decide)), fun h => by rw [upd_ne _ _ _ _ (by decide)]; exact h1 (keepBit h (by omega) (by decide)), fun h => by rw [upd_ne _ _ _ _ (by decide)]; exact h2 (keepBit h (by omega) (by decide)), fun h => by rw [upd_ne _ _ _ _ (by decide)]; exact h3 (keepBit h (by omega) (by decide)), fun h => by rw [upd_ne _ _ _ _ (by decide)]; exact h4 (keepBit h (by omega) (by decide)), fun h => by rw [upd_ne _ _ _ _ (by decide)]; exact h5 (keepBit h (by omega) (by decide)), fun h => by rw [upd_ne _ _ _ _ (by decide)]; exact h6 (keepBit h (by omega) (by decide)), fun h => upd_same _ _ _, fun h => by rw [upd_ne _ _ _ _ (by decide)]; exact h8 (keepBit h (by omega) (by decide))⟩
            · have hw' : L.getD 9 false = false ∧ w' = WE := hw.elim id fun hq => (readyBit hsL hi (hq.2.2.2.2.2.2.2.2.2.2)).elim
              obtain ⟨hb9, hw9⟩ := hw'
              obtain rfl : WE = w' := hw9.symm
              have ev29 : (frame a0 [29, 30, 31, 32, 33, 34, 35, 36, 37] x).tmps[29]?.getD undef = .int .i64 r := by have h := (frame_eval_in a0 [29, 30, 31, 32, 33, 34, 35, 36, 37] x 29 rfl (by omega)).trans (h0 (ready_needs hi (by decide))); simpa [Act.eval] using h
              have ev36 : (frame a0 [29, 30, 31, 32, 33, 34, 35, 36, 37] x).tmps[36]?.getD undef = .int .i64 rp := by have h := (frame_eval_in a0 [29, 30, 31, 32, 33, 34, 35, 36, 37] x 36 rfl (by omega)).trans (h7 (ready_needs hi (by decide))); simpa [Act.eval] using h
              refine ⟨_, rfl, rfl, (by intro c hc; cases hc), ?_⟩
              refine uponIn_val (v := .int .i64 mn) (w := WE) ?_ ?_
              · obtain ⟨aa, haa⟩ : ∃ aa, aa = frame a0 [29, 30, 31, 32, 33, 34, 35, 36, 37] x := ⟨_, rfl⟩
                rw [← haa] at ev29 ev36 ⊢
                clear haa HA0 h0 h1 h2 h3 h4 h5 h6 h7 h8
                go_simp
              exact ⟨_, frame_put _ _ _ 37 _ rfl, .inl ⟨by rw [getD_set L 8 9 (by omega), hb9]; rfl, rfl⟩, fun h => by rw [upd_ne _ _ _ _ (by decide)]; exact h0 (keepBit h (by omega) (by decide)), fun h => by rw [upd_ne _ _ _ _ (by decide)]; exact h1 (keepBit h (by omega) (by decide)), fun h => by rw [upd_ne _ _ _ _ (by decide)]; exact h2 (keepBit h (by omega) (by decide)), fun h => by rw [upd_ne _ _ _ _ (by decide)]; exact h3 (keepBit h (by omega) (by decide)), fun h => by rw [upd_ne _ _ _ _ (by decide)]; exact h4 (keepBit h (by omega) (by decide)), fun h => by rw [upd_ne _ _ _ _ (by decide)]; exact h5 (keepBit h (by omega) (by decide)), fun h => by rw [upd_ne _ _ _ _ (by decide)]; exact h6 (keepBit h (by omega) (by decide)), fun h => by rw [upd_ne _ _ _ _ (by decide)]; exact h7 (keepBit h (by omega) (by decide)), fun h => upd_same _ _ _⟩
            · have hw' : L.getD 9 false = false ∧ w' = WE := hw.elim id fun hq => (readyBit hsL hi hq.1).elim
              obtain ⟨hb9, hw9⟩ := hw'
              obtain rfl : WE = w' := hw9.symm
              have ev4 : (frame a0 [29, 30, 31, 32, 33, 34, 35, 36, 37] x).tmps[4]?.getD undef = .pointer (some ⟨rb, 0, none⟩) := by have h := (frame_eval a0 [29, 30, 31, 32, 33, 34, 35, 36, 37] x 4 rfl).trans e4; simpa [Act.eval] using h
              have ev37 : (frame a0 [29, 30, 31, 32, 33, 34, 35, 36, 37] x).tmps[37]?.getD undef = .int .i64 mn := by have h := (frame_eval_in a0 [29, 30, 31, 32, 33, 34, 35, 36, 37] x 37 rfl (by omega)).trans (h8 (ready_needs hi (by decide))); simpa [Act.eval] using h
              refine ⟨_, rfl, rfl, (by intro c hc; cases hc), ?_⟩
              refine uponIn_skp (w := (WE.setCell ⟨rb, 0, none⟩ (.int .i64 mn))) ?_ ?_
              · obtain ⟨aa, haa⟩ : ∃ aa, aa = frame a0 [29, 30, 31, 32, 33, 34, 35, 36, 37] x := ⟨_, rfl⟩
                rw [← haa] at ev4 ev37 ⊢
                clear haa HA0 h0 h1 h2 h3 h4 h5 h6 h7 h8
                go_simp
              exact ⟨_, rfl, .inr ⟨setSelf (by omega), rfl, setBit (ready_needs hi (by decide)) (by omega), setBit (ready_needs hi (by decide)) (by omega), setBit (ready_needs hi (by decide)) (by omega), setBit (ready_needs hi (by decide)) (by omega), setBit (ready_needs hi (by decide)) (by omega), setBit (ready_needs hi (by decide)) (by omega), setBit (ready_needs hi (by decide)) (by omega), setBit (ready_needs hi (by decide)) (by omega), setBit (ready_needs hi (by decide)) (by omega)⟩, fun h => h0 (keepBit h (by omega) (by decide)), fun h => h1 (keepBit h (by omega) (by decide)), fun h => h2 (keepBit h (by omega) (by decide)), fun h => h3 (keepBit h (by omega) (by decide)), fun h => h4 (keepBit h (by omega) (by decide)), fun h => h5 (keepBit h (by omega) (by decide)), fun h => h6 (keepBit h (by omega) (by decide)), fun h => h7 (keepBit h (by omega) (by decide)), fun h => h8 (keepBit h (by omega) (by decide))⟩
          · rintro L a w' hsL hr2 ⟨x, rfl, hw, h0, h1, h2, h3, h4, h5, h6, h7, h8⟩
            have hall := ready_nil hsL hr2 (by decide)
            replace h0 := h0 (hall 0 (by decide))
            replace h1 := h1 (hall 1 (by decide))
            replace h2 := h2 (hall 2 (by decide))
            replace h3 := h3 (hall 3 (by decide))
            replace h4 := h4 (hall 4 (by decide))
            replace h5 := h5 (hall 5 (by decide))
            replace h6 := h6 (hall 6 (by decide))
            replace h7 := h7 (hall 7 (by decide))
            replace h8 := h8 (hall 8 (by decide))
            obtain rfl : w' = (WE.setCell ⟨rb, 0, none⟩ (.int .i64 mn)) := hw.elim (fun q => by have := hall 9 (by decide); rw [q.1] at this; cases this) fun q => q.2.1
            rw [HA0.out]
            simp only [frame, List.zipIdx_cons, List.zipIdx_nil, List.map_cons, List.map_nil, List.contains_cons, List.contains_nil, Nat.reduceBEq, Nat.reduceAdd, Bool.or_false, Bool.false_or, Bool.or_true, Bool.true_or, Bool.false_eq_true, if_false, if_true, h0, h1, h2, h3, h4, h5, h6, h7, h8]
            gi_wp2
            exact ⟨(HaO.out.trans (KeepsOthers.setCell _ _ _)).from _, ⟨HaK.out.1.setCell (by simp only []; omega) _, (Below.heap_setCell _ _ _ _ (by simp only []; omega)).trans HaK.out.2⟩, HaX.out.set_other _ (by simp only []; omega), by rw [HST.out]; exact HaF.out.set_other _ (by simp only []; omega), by rw [HST.out]; exact HaR.out.set 0 _, HaW.out.setCell (by simp only []; omega) _, by have := haz; simp [World.setCell]; omega⟩
      · have hq1 : decide ((r : Int) < (ak : Int)) = false := decide_eq_false (by omega)
        have hq2 : decide (r < ak) = false := decide_eq_false hlt
        have hq3 : ¬ (r : Int) < (ak : Int) := by omega
        rw [if_neg hlt] at HST
        refine wpIn_named ?_
        intro a0 ha0
        have hsz0 : a0.tmps.size = 39 := by rw [ha0]; rfl
        have e1 : a0.eval (.tmp 1) = .pointer (some ⟨w.heap.size, 0, none⟩) := by rw [ha0]; rfl
        have e3 : a0.eval (.tmp 3) = .pointer (some ⟨fb, 0, none⟩) := by rw [ha0]; rfl
        have e4 : a0.eval (.tmp 4) = .pointer (some ⟨rb, 0, none⟩) := by rw [ha0]; rfl
        have e5 : a0.eval (.tmp 5) = .int .i64 ix := by rw [ha0]; rfl
        have e6 : a0.eval (.tmp 6) = .pointer (some ⟨Bx, 0, none⟩) := by rw [ha0]; rfl
        have HA0 : Hid (a0 = _) := ha0
        clear ha0
        refine region_round (by kernel_rfl) (fun L aF w' => ∃ x : Nat → Value, aF = frame a0 [19, 20, 21, 22, 23, 24, 25, 26, 27] x ∧ w' = WD ∧ (L.getD 0 false = true → x 19 = .int .i64 r) ∧ (L.getD 1 false = true → x 20 = .pointer (some ⟨jb, 0, none⟩)) ∧ (L.getD 2 false = true → x 21 = .pointer (some ⟨jb, 0, none⟩)) ∧ (L.getD 3 false = true → x 22 = .pointer (some ⟨jb, 2, none⟩)) ∧ (L.getD 4 false = true → x 23 = .map (some bt)) ∧ (L.getD 5 false = true → x 24 = .agg #[.int .i64 c.cl, .int .i64 c.sq, .int .i64 c.op, .string c.k, .string c.v, .string c.o]) ∧ (L.getD 6 false = true → x 25 = .agg #[.int .i64 ak, .int .i64 rp]) ∧ (L.getD 7 false = true → x 26 = .int .i64 ak) ∧ (L.getD 8 false = true → x 27 = .bool false)) ?_ ?_ ?_
        · exact ⟨_, frame_self a0 [19, 20, 21, 22, 23, 24, 25, 26, 27], HWD.out.symm, fun h => (noBit h).elim, fun h => (noBit h).elim, fun h => (noBit h).elim, fun h => (noBit h).elim, fun h => (noBit h).elim, fun h => (noBit h).elim, fun h => (noBit h).elim, fun h => (noBit h).elim, fun h => (noBit h).elim⟩
        · rintro L a w' i hsL hi ⟨x, rfl, hw, h0, h1, h2, h3, h4, h5, h6, h7, h8⟩
          have hiL : i < 9 := (ready_mem hsL hi).1
          have hL : L.size = 9 := hsL
          rcases (show i = 0 ∨ i = 1 ∨ i = 2 ∨ i = 3 ∨ i = 4 ∨ i = 5 ∨ i = 6 ∨ i = 7 ∨ i = 8 by omega) with rfl | rfl | rfl | rfl | rfl | rfl | rfl | rfl | rfl
          · obtain rfl : WD = w' := hw.symm
            have ev4 : (frame a0 [19, 20, 21, 22, 23, 24, 25, 26, 27] x).tmps[4]?.getD undef = .pointer (some ⟨rb, 0, none⟩) := by have h := (frame_eval a0 [19, 20, 21, 22, 23, 24, 25, 26, 27] x 4 rfl).trans e4; simpa [Act.eval] using h
            refine ⟨_, rfl, rfl, (by intro c hc; cases hc), ?_⟩
            refine uponIn_val (v := .int .i64 r) (w := WD) ?_ ?_
            · obtain ⟨aa, haa⟩ : ∃ aa, aa = frame a0 [19, 20, 21, 22, 23, 24, 25, 26, 27] x := ⟨_, rfl⟩
              rw [← haa] at ev4 ⊢
              clear haa HA0 h0 h1 h2 h3 h4 h5 h6 h7 h8
              go_simp
            exact ⟨_, frame_put _ _ _ 19 _ rfl, rfl, fun h => upd_same _ _ _, fun h => by rw [upd_ne _ _ _ _ (by decide)]; exact h1 (keepBit h (by omega) (by decide)), fun h => by rw [upd_ne _ _ _ _ (by decide)]; exact h2 (keepBit h (by omega) (by decide)), fun h => by rw [upd_ne _ _ _ _ (by decide)]; exact h3 (keepBit h (by omega) (by decide)), fun h => by rw [upd_ne _ _ _ _ (by decide)]; exact h4 (keepBit h (by omega) (by decide)), fun h => by rw [upd_ne _ _ _ _ (by decide)]; exact h5 (keepBit h (by omega) (by decide)), fun h => by rw [upd_ne _ _ _ _ (by decide)]; exact h6 (keepBit h (by omega) (by decide)), fun h => by rw [upd_ne _ _ _ _ (by decide)]; exact h7 (keepBit h (by omega) (by decide)), fun h => by rw [upd_ne _ _ _ _ (by decide)]; exact h8 (keepBit h (by omega) (by decide))⟩
          · obtain rfl : WD = w' := hw.symm
            have ev1 : (frame a0 [19, 20, 21, 22, 23, 24, 25, 26, 27] x).tmps[1]?.getD undef = .pointer (some ⟨w.heap.size, 0, none⟩) := by have h := (frame_eval a0 [19, 20, 21, 22, 23, 24, 25, 26, 27] x 1 rfl).trans e1; simpa [Act.eval] using h
            refine ⟨_, rfl, rfl, (by intro c hc; cases hc), ?_⟩
            refine uponIn_val (v := .pointer (some ⟨jb, 0, none⟩)) (w := WD) ?_ ?_
            · obtain ⟨aa, haa⟩ : ∃ aa, aa = frame a0 [19, 20, 21, 22, 23, 24, 25, 26, 27] x := ⟨_, rfl⟩
              rw [← haa] at ev1 ⊢
              clear haa HA0 h0 h1 h2 h3 h4 h5 h6 h7 h8
              go_simp
            exact ⟨_, frame_put _ _ _ 20 _ rfl, rfl, fun h => by rw [upd_ne _ _ _ _ (by decide)]; exact h0 (keepBit h (by omega) (by decide)), fun h => upd_same _ _ _, fun h => by rw [upd_ne _ _ _ _ (by decide)]; exact h2 (keepBit h (by omega) (by decide)), fun h => by rw [upd_ne _ _ _ _ (by decide)]; exact h3 (keepBit h (by omega) (by decide)), fun h => by rw [upd_ne _ _ _ _ (by decide)]; exact h4 (keepBit h (by omega) (by decide)), fun h => by rw [upd_ne _ _ _ _ (by decide)]; exact h5 (keepBit h (by omega) (by decide)), fun h => by rw [upd_ne _ _ _ _ (by decide)]; exact h6 (keepBit h (by omega) (by decide)), fun h => by rw [upd_ne _ _ _ _ (by decide)]; exact h7 (keepBit h (by omega) (by decide)), fun h => by rw [upd_ne _ _ _ _ (by decide)]; exact h8 (keepBit h (by omega) (by decide))⟩
          · obtain rfl : WD = w' := hw.symm
            have ev20 : (frame a0 [19, 20, 21, 22, 23, 24, 25, 26, 27] x).tmps[20]?.getD undef = .pointer (some ⟨jb, 0, none⟩) := by have h := (frame_eval_in a0 [19, 20, 21, 22, 23, 24, 25, 26, 27] x 20 rfl (by omega)).trans (h1 (ready_needs hi (by decide))); simpa [Act.eval] using h
            refine ⟨_, rfl, rfl, (by intro c hc; cases hc), ?_⟩
            refine uponIn_val (v := .pointer (some ⟨jb, 0, none⟩)) (w := WD) ?_ ?_
            · obtain ⟨aa, haa⟩ : ∃ aa, aa = frame a0 [19, 20, 21, 22, 23, 24, 25, 26, 27] x := ⟨_, rfl⟩
              rw [← haa] at ev20 ⊢
              clear haa HA0 h0 h1 h2 h3 h4 h5 h6 h7 h8
              go_simp
            exact ⟨_, frame_put _ _ _ 21 _ rfl, rfl, fun h => by rw [upd_ne _ _ _ _ (by decide)]; exact h0 (keepBit h (by omega) (by decide)), fun h => by rw [upd_ne _ _ _ _ (by decide)]; exact h1 (keepBit h (by omega) (by decide)), fun h => upd_same _ _ _, fun h => by rw [upd_ne _ _ _ _ (by decide)]; exact h3 (keepBit h (by omega) (by decide)), fun h => by rw [upd_ne _ _ _ _ (by decide)]; exact h4 (keepBit h (by omega) (by decide)), fun h => by rw [upd_ne _ _ _ _ (by decide)]; exact h5 (keepBit h (by omega) (by decide)), fun h => by rw [upd_ne _ _ _ _ (by decide)]; exact h6 (keepBit h (by omega) (by decide)), fun h => by rw [upd_ne _ _ _ _ (by decide)]; exact h7 (keepBit h (by omega) (by decide)), fun h => by rw [upd_ne _ _ _ _ (by decide)]; exact h8 (keepBit h (by omega) (by decide))⟩
          · obtain rfl : WD = w' := hw.symm
            have ev21 : (frame a0 [19, 20, 21, 22, 23, 24, 25, 26, 27] x).tmps[21]?.getD undef = .pointer (some ⟨jb, 0, none⟩) := by have h := (frame_eval_in a0 [19, 20, 21, 22, 23, 24, 25, 26, 27] x 21 rfl (by omega)).trans (h2 (ready_needs hi (by decide))); simpa [Act.eval] using h
            refine ⟨_, rfl, rfl, (by intro c hc; cases hc), ?_⟩
            refine uponIn_val (v := .pointer (some ⟨jb, 2, none⟩)) (w := WD) ?_ ?_
            · obtain ⟨aa, haa⟩ : ∃ aa, aa = frame a0 [19, 20, 21, 22, 23, 24, 25, 26, 27] x := ⟨_, rfl⟩
              rw [← haa] at ev21 ⊢
              clear haa HA0 h0 h1 h2 h3 h4 h5 h6 h7 h8
              go_simp
            exact ⟨_, frame_put _ _ _ 22 _ rfl, rfl, fun h => by rw [upd_ne _ _ _ _ (by decide)]; exact h0 (keepBit h (by omega) (by decide)), fun h => by rw [upd_ne _ _ _ _ (by decide)]; exact h1 (keepBit h (by omega) (by decide)), fun h => by rw [upd_ne _ _ _ _ (by decide)]; exact h2 (keepBit h (by omega) (by decide)), fun h => upd_same _ _ _, fun h => by rw [upd_ne _ _ _ _ (by decide)]; exact h4 (keepBit h (by omega) (by decide)), fun h => by rw [upd_ne _ _ _ _ (by decide)]; exact h5 (keepBit h (by omega) (by decide)), fun h => by rw [upd_ne _ _ _ _ (by decide)]; exact h6 (keepBit h (by omega) (by decide)), fun h => by rw [upd_ne _ _ _ _ (by decide)]; exact h7 (keepBit h (by omega) (by decide)), fun h => by rw [upd_ne _ _ _ _ (by decide)]; exact h8 (keepBit h (by omega) (by decide))⟩
          · obtain rfl : WD = w' := hw.symm
            have ev22 : (frame a0 [19, 20, 21, 22, 23, 24, 25, 26, 27] x).tmps[22]?.getD undef = .pointer (some ⟨jb, 2, none⟩) := by have h := (frame_eval_in a0 [19, 20, 21, 22, 23, 24, 25, 26, 27] x 22 rfl (by omega)).trans (h3 (ready_needs hi (by decide))); simpa [Act.eval] using h
            refine ⟨_, rfl, rfl, (by intro c hc; cases hc), ?_⟩
            refine uponIn_val (v := .map (some bt)) (w := WD) ?_ ?_
            · obtain ⟨aa, haa⟩ : ∃ aa, aa = frame a0 [19, 20, 21, 22, 23, 24, 25, 26, 27] x := ⟨_, rfl⟩
              rw [← haa] at ev22 ⊢
              clear haa HA0 h0 h1 h2 h3 h4 h5 h6 h7 h8
              go_simp
            exact ⟨_, frame_put _ _ _ 23 _ rfl, rfl, fun h => by rw [upd_ne _ _ _ _ (by decide)]; exact h0 (keepBit h (by omega) (by decide)), fun h => by rw [upd_ne _ _ _ _ (by decide)]; exact h1 (keepBit h (by omega) (by decide)), fun h => by rw [upd_ne _ _ _ _ (by decide)]; exact h2 (keepBit h (by omega) (by decide)), fun h => by rw [upd_ne _ _ _ _ (by decide)]; exact h3 (keepBit h (by omega) (by decide)), fun h => upd_same _ _ _, fun h => by rw [upd_ne _ _ _ _ (by decide)]; exact h5 (keepBit h (by omega) (by decide)), fun h => by rw [upd_ne _ _ _ _ (by decide)]; exact h6 (keepBit h (by omega) (by decide)), fun h => by rw [upd_ne _ _ _ _ (by decide)]; exact h7 (keepBit h (by omega) (by decide)), fun h => by rw [upd_ne _ _ _ _ (by decide)]; exact h8 (keepBit h (by omega) (by decide))⟩
          · obtain rfl : WD = w' := hw.symm
            have ev6 : (frame a0 [19, 20, 21, 22, 23, 24, 25, 26, 27] x).tmps[6]?.getD undef = .pointer (some ⟨Bx, 0, none⟩) := by have h := (frame_eval a0 [19, 20, 21, 22, 23, 24, 25, 26, 27] x 6 rfl).trans e6; simpa [Act.eval] using h
            refine ⟨_, rfl, rfl, (by intro c hc; cases hc), ?_⟩
            refine uponIn_val (v := .agg #[.int .i64 c.cl, .int .i64 c.sq, .int .i64 c.op, .string c.k, .string c.v, .string c.o]) (w := WD) ?_ ?_
            · obtain ⟨aa, haa⟩ : ∃ aa, aa = frame a0 [19, 20, 21, 22, 23, 24, 25, 26, 27] x := ⟨_, rfl⟩
              rw [← haa] at ev6 ⊢
              clear haa HA0 h0 h1 h2 h3 h4 h5 h6 h7 h8
              go_simp
            exact ⟨_, frame_put _ _ _ 24 _ rfl, rfl, fun h => by rw [upd_ne _ _ _ _ (by decide)]; exact h0 (keepBit h (by omega) (by decide)), fun h => by rw [upd_ne _ _ _ _ (by decide)]; exact h1 (keepBit h (by omega) (by decide)), fun h => by rw [upd_ne _ _ _ _ (by decide)]; exact h2 (keepBit h (by omega) (by decide)), fun h => by rw [upd_ne _ _ _ _ (by decide)]; exact h3 (keepBit h (by omega) (by decide)), fun h => by rw [upd_ne _ _ _ _ (by decide)]; exact h4 (keepBit h (by omega) (by decide)), fun h => upd_same _ _ _, fun h => by rw [upd_ne _ _ _ _ (by decide)]; exact h6 (keepBit h (by omega) (by decide)), fun h => by rw [upd_ne _ _ _ _ (by decide)]; exact h7 (keepBit h (by omega) (by decide)), fun h => by rw [upd_ne _ _ _ _ (by decide)]; exact h8 (keepBit h (by omega) (by decide))⟩
          · obtain rfl : WD = w' := hw.symm
            have ev23 : (frame a0 [19, 20, 21, 22, 23, 24, 25, 26, 27] x).tmps[23]?.getD undef = .map (some bt) := by have h := (frame_eval_in a0 [19, 20, 21, 22, 23, 24, 25, 26, 27] x 23 rfl (by omega)).trans (h4 (ready_needs hi (by decide))); simpa [Act.eval] using h
            have ev24 : (frame a0 [19, 20, 21, 22, 23, 24, 25, 26, 27] x).tmps[24]?.getD undef = .agg #[.int .i64 c.cl, .int .i64 c.sq, .int .i64 c.op, .string c.k, .string c.v, .string c.o] := by have h := (frame_eval_in a0 [19, 20, 21, 22, 23, 24, 25, 26, 27] x 24 rfl (by omega)).trans (h5 (ready_needs hi (by decide))); simpa [Act.eval] using h
            refine ⟨_, rfl, rfl, (by intro c hc; cases hc), ?_⟩
            refine uponIn_val (v := .agg #[.int .i64 ak, .int .i64 rp]) (w := WD) ?_ ?_
            · obtain ⟨aa, haa⟩ : ∃ aa, aa = frame a0 [19, 20, 21, 22, 23, 24, 25, 26, 27] x := ⟨_, rfl⟩
              rw [← haa] at ev23 ev24 ⊢
              clear haa HA0 h0 h1 h2 h3 h4 h5 h6 h7 h8
              go_simp
            exact ⟨_, frame_put _ _ _ 25 _ rfl, rfl, fun h => by rw [upd_ne _ _ _ _ (by decide)]; exact h0 (keepBit h (by omega) (by decide)), fun h => by rw [upd_ne _ _ _ _ (by decide)]; exact h1 (keepBit h (by omega) (by decide)), fun h => by rw [upd_ne _ _ _ _ (by decide)]; exact h2 (keepBit h (by omega) (by decide)), fun h => by rw [upd_ne _ _ _ _ (by decide)]; exact h3 (keepBit h (by omega) (by decide)), fun h => by rw [upd_ne _ _ _ _ (by decide)]; exact h4 (keepBit h (by omega) (by decide)), fun h => by rw [upd_ne _ _ _ _ (by decide)]; exact h5 (keepBit h (by omega) (by decide)), fun h => upd_same _ _ _, fun h => by rw [upd_ne _ _ _ _ (by decide)]; exact h7 (keepBit h (by omega) (by decide)), fun h => by rw [upd_ne _ _ _ _ (by decide)]; exact h8 (keepBit h (by omega) (by decide))⟩
          · obtain rfl : WD = w' := hw.symm
            have ev25 : (frame a0 [19, 20, 21, 22, 23, 24, 25, 26, 27] x).tmps[25]?.getD undef = .agg #[.int .i64 ak, .int .i64 rp] := by have h := (frame_eval_in a0 [19, 20, 21, 22, 23, 24, 25, 26, 27] x 25 rfl (by omega)).trans (h6 (ready_needs hi (by decide))); simpa [Act.eval] using h
            refine ⟨_, rfl, rfl, (by intro c hc; cases hc), ?_⟩
            refine uponIn_val (v := .int .i64 ak) (w := WD) ?_ ?_
            · obtain ⟨aa, haa⟩ : ∃ aa, aa = frame a0 [19, 20, 21, 22, 23, 24, 25, 26, 27] x := ⟨_, rfl⟩
              rw [← haa] at ev25 ⊢
              clear haa HA0 h0 h1 h2 h3 h4 h5 h6 h7 h8
              go_simp
            exact ⟨_, frame_put _ _ _ 26 _ rfl, rfl, fun h => by rw [upd_ne _ _ _ _ (by decide)]; exact h0 (keepBit h (by omega) (by decide)), fun h => by rw [upd_ne _ _ _ _ (by decide)]; exact h1 (keepBit h (by omega) (by decide)), fun h => by rw [upd_ne _ _ _ _ (by decide)]; exact h2 (keepBit h (by omega) (by decide)), fun h => by rw [upd_ne _ _ _ _ (by decide)]; exact h3 (keepBit h (by omega) (by decide)), fun h => by rw [upd_ne _ _ _ _ (by decide)]; exact h4 (keepBit h (by omega) (by decide)), fun h => by rw [upd_ne _ _ _ _ (by decide)]; exact h5 (keepBit h (by omega) (by decide)), fun h => by rw [upd_ne _ _ _ _ (by decide)]; exact h6 (keepBit h (by omega) (by decide)), fun h => upd_same _ _ _, fun h => by rw [upd_ne _ _ _ _ (by decide)]; exact h8 (keepBit h (by omega) (by decide))⟩
          · obtain rfl : WD = w' := hw.symm
            have ev19 : (frame a0 [19, 20, 21, 22, 23, 24, 25, 26, 27] x).tmps[19]?.getD undef = .int .i64 r := by have h := (frame_eval_in a0 [19, 20, 21, 22, 23, 24, 25, 26, 27] x 19 rfl (by omega)).trans (h0 (ready_needs hi (by decide))); simpa [Act.eval] using h
            have ev26 : (frame a0 [19, 20, 21, 22, 23, 24, 25, 26, 27] x).tmps[26]?.getD undef = .int .i64 ak := by have h := (frame_eval_in a0 [19, 20, 21, 22, 23, 24, 25, 26, 27] x 26 rfl (by omega)).trans (h7 (ready_needs hi (by decide))); simpa [Act.eval] using h
            refine ⟨_, rfl, rfl, (by intro c hc; cases hc), ?_⟩
            refine uponIn_val (v := .bool false) (w := WD) ?_ ?_
            · obtain ⟨aa, haa⟩ : ∃ aa, aa = frame a0 [19, 20, 21, 22, 23, 24, 25, 26, 27] x := ⟨_, rfl⟩
              rw [← haa] at ev19 ev26 ⊢
              clear haa HA0 h0 h1 h2 h3 h4 h5 h6 h7 h8
              go_simp
            exact ⟨_, frame_put _ _ _ 27 _ rfl, rfl, fun h => by rw [upd_ne _ _ _ _ (by decide)]; exact h0 (keepBit h (by omega) (by decide)), fun h => by rw [upd_ne _ _ _ _ (by decide)]; exact h1 (keepBit h (by omega) (by decide)), fun h => by rw [upd_ne _ _ _ _ (by decide)]; exact h2 (keepBit h (by omega) (by decide)), fun h => by rw [upd_ne _ _ _ _ (by decide)]; exact h3 (keepBit h (by omega) (by decide)), fun h => by rw [upd_ne _ _ _ _ (by decide)]; exact h4 (keepBit h (by omega) (by decide)), fun h => by rw [upd_ne _ _ _ _ (by decide)]; exact h5 (keepBit h (by omega) (by decide)), fun h => by rw [upd_ne _ _ _ _ (by decide)]; exact h6 (keepBit h (by omega) (by decide)), fun h => by rw [upd_ne _ _ _ _ (by decide)]; exact h7 (keepBit h (by omega) (by decide)), fun h => upd_same _ _ _⟩
        · rintro L a w' hsL hr2 ⟨x, rfl, hw, h0, h1, h2, h3, h4, h5, h6, h7, h8⟩
          have hall := ready_nil hsL hr2 (by decide)
          replace h0 := h0 (hall 0 (by decide))
          replace h1 := h1 (hall 1 (by decide))
          replace h2 := h2 (hall 2 (by decide))
          replace h3 := h3 (hall 3 (by decide))
          replace h4 := h4 (hall 4 (by decide))
          replace h5 := h5 (hall 5 (by decide))
          replace h6 := h6 (hall 6 (by decide))
          replace h7 := h7 (hall 7 (by decide))
          replace h8 := h8 (hall 8 (by decide))
          obtain rfl : WD = w' := hw.symm
          rw [HA0.out]
          simp only [frame, List.zipIdx_cons, List.zipIdx_nil, List.map_cons, List.map_nil, List.contains_cons, List.contains_nil, Nat.reduceBEq, Nat.reduceAdd, Bool.or_false, Bool.false_or, Bool.or_true, Bool.true_or, Bool.false_eq_true, if_false, if_true, h0, h1, h2, h3, h4, h5, h6, h7, h8]
          gi_wp2
          obtain ⟨V, hV⟩ : ∃ V, V = WD := ⟨_, rfl⟩
          have HbX : Hid (Blk V w.heap.size #[.pointer (some ⟨jb, 0, none⟩)] 78) := by show Blk _ _ _ _; rw [hV]; exact HaX.out
          have HbF : Hid (Blk V fb #[.int .i64 fd] 3) := by show Blk _ _ _ _; rw [hV]; exact HaF.out
          have HbR : Hid (Blk V rb #[.int .i64 r] 3) := by show Blk _ _ _ _; rw [hV]; exact HaR.out
          have HbC : Hid (Blk V Bx #[.int .i64 c.cl, .int .i64 c.sq, .int .i64 c.op, .string c.k, .string c.v, .string c.o] 63) := by show Blk _ _ _ _; rw [hV]; exact HaC.out
          have HbW : Hid (Below w.heap.size w V) := by show Below _ _ _; rw [hV]; exact HaW.out
          have HbK : Hid (KpB w.heap.size wc.heap.size W V) := by show KpB _ _ _ _; rw [hV]; exact HaK.out
          have HbO : Hid (KeepsOthers W V) := by show KeepsOthers _ _; rw [hV]; exact HaO.out
          have hbz : W0.heap.size ≤ V.heap.size := by rw [hV]; exact haz
          rw [← hV]
          clear hV
          obtain ⟨fv, hfv⟩ : ∃ fv, fv = fd := ⟨_, rfl⟩
          rw [← hfv] at HbF HST
          clear hfv
          clear HaX HaF HaR HaC HaW HaK HaO haz HWD ar ax aj ac0 ac1 ac2 ac3 ac4 ac5 al af afz
          clear h0 h1 h2 h3 h4 h5 h6 h7 h8 hall hsL hr2 HA0 hsz0 e1 e3 e4 e5 e6
          clear L x a0
          clear WD
          obtain ⟨WE, hWE⟩ : ∃ WE, WE = V.drew := ⟨_, rfl⟩
          have HWD : Hid (WE = V.drew) := hWE
          have HaX : Hid (Blk WE w.heap.size #[.pointer (some ⟨jb, 0, none⟩)] 78) := by show Blk _ _ _ _; rw [hWE]; exact HbX.out.drew
          have HaF : Hid (Blk WE fb #[.int .i64 fv] 3) := by show Blk _ _ _ _; rw [hWE]; exact HbF.out.drew
          have HaR : Hid (Blk WE rb #[.int .i64 r] 3) := by show Blk _ _ _ _; rw [hWE]; exact HbR.out.drew
          have HaC : Hid (Blk WE Bx #[.int .i64 c.cl, .int .i64 c.sq, .int .i64 c.op, .string c.k, .string c.v, .string c.o] 63) := by show Blk _ _ _ _; rw [hWE]; exact HbC.out.drew
          have HaW : Hid (Below w.heap.size w WE) := by show Below _ _ _; rw [hWE]; exact HbW.out.drew
          have HaK : Hid (KpB w.heap.size wc.heap.size W WE) := by show KpB _ _ _ _; rw [hWE]; exact HbK.out.trans ⟨(Below.refl _ _).drew, rfl⟩
          have HaO : Hid (KeepsOthers W WE) := by show KeepsOthers _ _; rw [hWE]; exact HbO.out.trans (KeepsOthers.drew _)
          have haz : W0.heap.size ≤ WE.heap.size := by rw [hWE]; exact hbz
          clear hWE HbX HbF HbR HbC HbW HbK HbO hbz
          have ar : WE.cell? ⟨rb, 0, none⟩ = some (.int .i64 r) := HaR.out.cell 0
          have ax : WE.cell? ⟨w.heap.size, 0, none⟩ = some (.pointer (some ⟨jb, 0, none⟩)) := HaX.out.cell 0
          have aj : WE.cell? ⟨jb, 2, none⟩ = some (.map (some bt)) := (HJB.out.keep (HaW.out.block jb hjl)).cell 2
          have ac0 : WE.cell? ⟨Bx, 0, none⟩ = some (.int .i64 c.cl) := HaC.out.cell 0
          have ac1 : WE.cell? ⟨Bx, 1, none⟩ = some (.int .i64 c.sq) := HaC.out.cell 1
          have ac2 : WE.cell? ⟨Bx, 2, none⟩ = some (.int .i64 c.op) := HaC.out.cell 2
          have ac3 : WE.cell? ⟨Bx, 3, none⟩ = some (.string c.k) := HaC.out.cell 3
          have ac4 : WE.cell? ⟨Bx, 4, none⟩ = some (.string c.v) := HaC.out.cell 4
          have ac5 : WE.cell? ⟨Bx, 5, none⟩ = some (.string c.o) := HaC.out.cell 5
          have al : (Instr.lookup 79 (.map (some bt)) (.agg #[.int .i64 c.cl, .int .i64 c.sq, .int .i64 c.op, .string c.k, .string c.v, .string c.o]) false).run Try.prog WE = .ok (.agg #[.int .i64 ak, .int .i64 rp]) WE := HLC.out _ (HaW.out.block bt hlt')
          have arz : WE.frozen? ⟨rb, 0, none⟩ = false := HaR.out.free 0
          refine wpIn_named ?_
          intro a0 ha0
          have hsz0 : a0.tmps.size = 39 := by rw [ha0]; rfl
          have e1 : a0.eval (.tmp 1) = .pointer (some ⟨w.heap.size, 0, none⟩) := by rw [ha0]; rfl
          have e3 : a0.eval (.tmp 3) = .pointer (some ⟨fb, 0, none⟩) := by rw [ha0]; rfl
          have e4 : a0.eval (.tmp 4) = .pointer (some ⟨rb, 0, none⟩) := by rw [ha0]; rfl
          have e5 : a0.eval (.tmp 5) = .int .i64 ix := by rw [ha0]; rfl
          have e6 : a0.eval (.tmp 6) = .pointer (some ⟨Bx, 0, none⟩) := by rw [ha0]; rfl
          have HA0 : Hid (a0 = _) := ha0
          clear ha0
          refine region_round (by kernel_rfl) (fun L aF w' => ∃ x : Nat → Value, aF = frame a0 [29, 30, 31, 32, 33, 34, 35, 36, 37] x ∧ ((L.getD 9 false = false ∧ w' = WE) ∨ (L.getD 9 false = true ∧ w' = (WE.setCell ⟨rb, 0, none⟩ (.int .i64 mn)) ∧ (L.getD 0 false = true ∧ L.getD 1 false = true ∧ L.getD 2 false = true ∧ L.getD 3 false = true ∧ L.getD 4 false = true ∧ L.getD 5 false = true ∧ L.getD 6 false = true ∧ L.getD 7 false = true ∧ L.getD 8 false = true))) ∧ (L.getD 0 false = true → x 29 = .int .i64 r) ∧ (L.getD 1 false = true → x 30 = .pointer (some ⟨jb, 0, none⟩)) ∧ (L.getD 2 false = true → x 31 = .pointer (some ⟨jb, 0, none⟩)) ∧ (L.getD 3 false = true → x 32 = .pointer (some ⟨jb, 2, none⟩)) ∧ (L.getD 4 false = true → x 33 = .map (some bt)) ∧ (L.getD 5 false = true → x 34 = .agg #[.int .i64 c.cl, .int .i64 c.sq, .int .i64 c.op, .string c.k, .string c.v, .string c.o]) ∧ (L.getD 6 false = true → x 35 = .agg #[.int .i64 ak, .int .i64 rp]) ∧ (L.getD 7 false = true → x 36 = .int .i64 rp) ∧ (L.getD 8 false = true → x 37 = .int .i64 mn)) ?_ ?_ ?_
          · exact ⟨_, frame_self a0 [29, 30, 31, 32, 33, 34, 35, 36, 37], .inl ⟨by rfl, HWD.out.symm⟩, fun h => (noBit h).elim, fun h => (noBit h).elim, fun h => (noBit h).elim, fun h => (noBit h).elim, fun h => (noBit h).elim, fun h => (noBit h).elim, fun h => (noBit h).elim, fun h => (noBit h).elim, fun h => (noBit h).elim⟩
          · rintro L a w' i hsL hi ⟨x, rfl, hw, h0, h1, h2, h3, h4, h5, h6, h7, h8⟩
            have hiL : i < 10 := (ready_mem hsL hi).1
            have hL : L.size = 10 := hsL
            rcases (show i = 0 ∨ i = 1 ∨ i = 2 ∨ i = 3 ∨ i = 4 ∨ i = 5 ∨ i = 6 ∨ i = 7 ∨ i = 8 ∨ i = 9 by omega) with rfl | rfl | rfl | rfl | rfl | rfl | rfl | rfl | rfl | rfl
            · have hw' : L.getD 9 false = false ∧ w' = WE := hw.elim id fun hq => (readyBit hsL hi (hq.2.2.1)).elim
              obtain ⟨hb9, hw9⟩ := hw'
              obtain rfl : WE = w' := hw9.symm
              have ev4 : (frame a0 [29, 30, 31, 32, 33, 34, 35, 36, 37] x).tmps[4]?.getD undef = .pointer (some ⟨rb, 0, none⟩) := by have h := (frame_eval a0 [29, 30, 31, 32, 33, 34, 35, 36, 37] x 4 rfl).trans e4; simpa [Act.eval] using h
              refine ⟨_, rfl, rfl, (by intro c hc; cases hc), ?_⟩
              refine uponIn_val (v := .int .i64 r) (w := WE) ?_ ?_
              · obtain ⟨aa, haa⟩ : ∃ aa, aa = frame a0 [29, 30, 31, 32, 33, 34, 35, 36, 37] x := ⟨_, rfl⟩
                rw [← haa] at ev4 ⊢
                clear haa HA0 h0 h1 h2 h3 h4 h5 h6 h7 h8
                go_simp
              exact ⟨_, frame_put _ _ _ 29 _ rfl, .inl ⟨by rw [getD_set L 0 9 (by omega), hb9]; rfl, rfl⟩, fun h => upd_same _ _ _, fun h => by rw [upd_ne _ _ _ _ (by decide)]; exact h1 (keepBit h (by omega) (by decide)), fun h => by rw [upd_ne _ _ _ _ (by decide)]; exact h2 (keepBit h (by omega) (by decide)), fun h => by rw [upd_ne _ _ _ _ (by decide)]; exact h3 (keepBit h (by omega) (by decide)), fun h => by rw [upd_ne _ _ _ _ (by decide)]; exact h4 (keepBit h (by omega) (by decide)), fun h => by rw [upd_ne _ _ _ _ (by decide)]; exact h5 (keepBit h (by omega) (by decide)), fun h => by rw [upd_ne _ _ _ _ (by decide)]; exact h6 (keepBit h (by omega) (by decide)), fun h => by rw [upd_ne _ _ _ _ (by decide)]; exact h7 (keepBit h (by omega) (by decide)), fun h => by rw [upd_ne _ _ _ _ (by decide)]; exact h8 (keepBit h (by omega) (by decide))⟩
            · have hw' : L.getD 9 false = false ∧ w' = WE := hw.elim id fun hq => (readyBit hsL hi (hq.2.2.2.1)).elim
              obtain ⟨hb9, hw9⟩ := hw'
              obtain rfl : WE = w' := hw9.symm
              have ev1 : (frame a0 [29, 30, 31, 32, 33, 34, 35, 36, 37] x).tmps[1]?.getD undef = .pointer (some ⟨w.heap.size, 0, none⟩) := by have h := (frame_eval a0 [29, 30, 31, 32, 33, 34, 35, 36, 37] x 1 rfl).trans e1; simpa [Act.eval] using h
              refine ⟨_, rfl, rfl, (by intro c hc; cases hc), ?_⟩
              refine uponIn_val (v := .pointer (some ⟨jb, 0, none⟩)) (w := WE) ?_ ?_
              · obtain ⟨aa, haa⟩ : ∃ aa, aa = frame a0 [29, 30, 31, 32, 33, 34, 35, 36, 37] x := ⟨_, rfl⟩
                rw [← haa] at ev1 ⊢
                clear haa HA0 h0 h1 h2 h3 h4 h5 h6 h7 h8
                go_simp
              exact ⟨_, frame_put _ _ _ 30 _ rfl, .inl ⟨by rw [getD_set L 1 9 (by omega), hb9]; rfl, rfl⟩, fun h => by rw [upd_ne _ _ _ _ (by decide)]; exact h0 (keepBit h (by omega) (by decide)), fun h => upd_same _ _ _, fun h => by rw [upd_ne _ _ _ _ (by decide)]; exact h2 (keepBit h (by omega) (by decide)), fun h => by rw [upd_ne _ _ _ _ (by decide)]; exact h3 (keepBit h (by omega) (by decide)), fun h => by rw [upd_ne _ _ _ _ (by decide)]; exact h4 (keepBit h (by omega) (by decide)), fun h => by rw [upd_ne _ _ _ _ (by decide)]; exact h5 (keepBit h (by omega) (by decide)), fun h => by rw [upd_ne _ _ _ _ (by decide)]; exact h6 (keepBit h (by omega) (by decide)), fun h => by rw [upd_ne _ _ _ _ (by decide)]; exact h7 (keepBit h (by omega) (by decide)), fun h => by rw [upd_ne _ _ _ _ (by decide)]; exact h8 (keepBit h (by omega) (by decide))⟩
            · have hw' : L.getD 9 false = false ∧ w' = WE := hw.elim id fun hq => (readyBit hsL hi (hq.2.2.2.2.1)).elim
              obtain ⟨hb9, hw9⟩ := hw'
              obtain rfl : WE = w' := hw9.symm
              have ev30 : (frame a0 [29, 30, 31, 32, 33, 34, 35, 36, 37] x).tmps[30]?.getD undef = .pointer (some ⟨jb, 0, none⟩) := by have h := (frame_eval_in a0 [29, 30, 31, 32, 33, 34, 35, 36, 37] x 30 rfl (by omega)).trans (h1 (ready_needs hi (by decide))); simpa [Act.eval] using h
              refine ⟨_, rfl, rfl, (by intro c hc; cases hc), ?_⟩
              refine uponIn_val (v := .pointer (some ⟨jb, 0, none⟩)) (w := WE) ?_ ?_
              · obtain ⟨aa, haa⟩ : ∃ aa, aa = frame a0 [29, 30, 31, 32, 33, 34, 35, 36, 37] x := ⟨_, rfl⟩
                rw [← haa] at ev30 ⊢
                clear haa HA0 h0 h1 h2 h3 h4 h5 h6 h7 h8
                go_simp
              exact ⟨_, frame_put _ _ _ 31 _ rfl, .inl ⟨by rw [getD_set L 2 9 (by omega), hb9]; rfl, rfl⟩, fun h => by rw [upd_ne _ _ _ _ (by decide)]; exact h0 (keepBit h (by omega) (by decide)), fun h => by rw [upd_ne _ _ _ _ (by decide)]; exact h1 (keepBit h (by omega) (by decide)), fun h => upd_same _ _ _, fun h => by rw [upd_ne _ _ _ _ (by decide)]; exact h3 (keepBit h (by omega) (by decide)), fun h => by rw [upd_ne _ _ _ _ (by decide)]; exact h4 (keepBit h (by omega) (by decide)), fun h => by rw [upd_ne _ _ _ _ (by decide)]; exact h5 (keepBit h (by omega) (by decide)), fun h => by rw [upd_ne _ _ _ _ (by decide)]; exact h6 (keepBit h (by omega) (by decide)), fun h => by rw [upd_ne _ _ _ _ (by decide)]; exact h7 (keepBit h (by omega) (by decide)), fun h => by rw [upd_ne _ _ _ _ (by decide)]; exact h8 (keepBit h (by omega) (by decide))⟩
            · have hw' : L.getD 9 false = false ∧ w' = WE := hw.elim id fun hq => (readyBit hsL hi (hq.2.2.2.2.2.1)).elim
              obtain ⟨hb9, hw9⟩ := hw'
              obtain rfl : WE = w' := hw9.symm
              have ev31 : (frame a0 [29, 30, 31, 32, 33, 34, 35, 36, 37] x).tmps[31]?.getD undef = .pointer (some ⟨jb, 0, none⟩) := by have h := (frame_eval_in a0 [29, 30, 31, 32, 33, 34, 35, 36, 37] x 31 rfl (by omega)).trans (h2 (ready_needs hi (by decide))); simpa [Act.eval] using h
              refine ⟨_, rfl, rfl, (by intro c hc; cases hc), ?_⟩
              refine uponIn_val (v := .pointer (some ⟨jb, 2, none⟩)) (w := WE) ?_ ?_
              · obtain ⟨aa, haa⟩ : ∃ aa, aa = frame a0 [29, 30, 31, 32, 33, 34, 35, 36, 37] x := ⟨_, rfl⟩
                rw [← haa] at ev31 ⊢
                clear haa HA0 h0 h1 h2 h3 h4 h5 h6 h7 h8
                go_simp
              exact ⟨_, frame_put _ _ _ 32 _ rfl, .inl ⟨by rw [getD_set L 3 9 (by omega), hb9]; rfl, rfl⟩, fun h => by rw [upd_ne _ _ _ _ (by decide)]; exact h0 (keepBit h (by omega) (by decide)), fun h => by rw [upd_ne _ _ _ _ (by decide)]; exact h1 (keepBit h (by omega) (by decide)), fun h => by rw [upd_ne _ _ _ _ (by decide)]; exact h2 (keepBit h (by omega) (by decide)), fun h => upd_same _ _ _, fun h => by rw [upd_ne _ _ _ _ (by decide)]; exact h4 (keepBit h (by omega) (by decide)), fun h => by rw [upd_ne _ _ _ _ (by decide)]; exact h5 (keepBit h (by omega) (by decide)), fun h => by rw [upd_ne _ _ _ _ (by decide)]; exact h6 (keepBit h (by omega) (by decide)), fun h => by rw [upd_ne _ _ _ _ (by decide)]; exact h7 (keepBit h (by omega) (by decide)), fun h => by rw [upd_ne _ _ _ _ (by decide)]; exact h8 (keepBit h (by omega) (by decide))⟩
            · have hw' : L.getD 9 false = false ∧ w' = WE := hw.elim id fun hq => (readyBit hsL hi (hq.2.2.2.2.2.2.1)).elim
              obtain ⟨hb9, hw9⟩ := hw'
              obtain rfl : WE = w' := hw9.symm
              have ev32 : (frame a0 [29, 30, 31, 32, 33, 34, 35, 36, 37] x).tmps[32]?.getD undef = .pointer (some ⟨jb, 2, none⟩) := by have h := (frame_eval_in a0 [29, 30, 31, 32, 33, 34, 35, 36, 37] x 32 rfl (by omega)).trans (h3 (ready_needs hi (by decide))); simpa [Act.eval] using h
              refine ⟨_, rfl, rfl, (by intro c hc; cases hc), ?_⟩
              refine uponIn_val (v := .map (some bt)) (w := WE) ?_ ?_
              · obtain ⟨aa, haa⟩ : ∃ aa, aa = frame a0 [29, 30, 31, 32, 33, 34, 35, 36, 37] x := ⟨_, rfl⟩
                rw [← haa] at ev32 ⊢
                clear haa HA0 h0 h1 h2 h3 h4 h5 h6 h7 h8
                go_simp
              exact ⟨_, frame_put _ _ _ 33 _ rfl, .inl ⟨by rw [getD_set L 4 9 (by omega), hb9]; rfl, rfl⟩, fun h => by rw [upd_ne _ _ _ _ (by decide)]; exact h0 (keepBit h (by omega) (by decide)), fun h => by rw [upd_ne _ _ _ _ (by decide)]; exact h1 (keepBit h (by omega) (by decide)), fun h => by rw [upd_ne _ _ _ _ (by decide)]; exact h2 (keepBit h (by omega) (by decide)), fun h => by rw [upd_ne _ _ _ _ (by decide)]; exact h3 (keepBit h (by omega) (by decide)), fun h => upd_same _ _ _, fun h => by rw [upd_ne _ _ _ _ (by decide)]; exact h5 (keepBit h (by omega) (by decide)), fun h => by rw [upd_ne _ _ _ _ (by decide)]; exact h6 (keepBit h (by omega) (by decide)), fun h => by rw [upd_ne _ _ _ _ (by decide)]; exact h7 (keepBit h (by omega) (by decide)), fun h => by rw [upd_ne _ _ _ _ (by decide)]; exact h8 (keepBit h (by omega) (by decide))⟩
            · have hw' : L.getD 9 false = false ∧ w' = WE := hw.elim id fun hq => (readyBit hsL hi (hq.2.2.2.2.2.2.2.1)).elim
              obtain ⟨hb9, hw9⟩ := hw'
              obtain rfl : WE = w' := hw9.symm
              have ev6 : (frame a0 [29, 30, 31, 32, 33, 34, 35, 36, 37] x).tmps[6]?.getD undef = .pointer (some ⟨Bx, 0, none⟩) := by have h := (frame_eval a0 [29, 30, 31, 32, 33, 34, 35, 36, 37] x 6 rfl).trans e6; simpa [Act.eval] using h
              refine ⟨_, rfl, rfl, (by intro c hc; cases hc), ?_⟩
              refine uponIn_val (v := .agg #[.int .i64 c.cl, .int .i64 c.sq, .int .i64 c.op, .string c.k, .string c.v, .string c.o]) (w := WE) ?_ ?_
              · obtain ⟨aa, haa⟩ : ∃ aa, aa = frame a0 [29, 30, 31, 32, 33, 34, 35, 36, 37] x := ⟨_, rfl⟩
                rw [← haa] at ev6 ⊢
                clear haa HA0 h0 h1 h2 h3 h4 h5 h6 h7 h8
                go_simp
              exact ⟨_, frame_put _ _ _ 34 _ rfl, .inl ⟨by rw [getD_set L 5 9 (by omega), hb9]; rfl, rfl⟩, fun h => by rw [upd_ne _ _ _ _ (by decide)]; exact h0 (keepBit h (by omega) (by decide)), fun h => by rw [upd_ne _ _ _ _ (by decide)]; exact h1 (keepBit h (by omega) (by decide)), fun h => by rw [upd_ne _ _ _ _ (by decide)]; exact h2 (keepBit h (by omega) (by decide)), fun h => by rw [upd_ne _ _ _ _ (by decide)]; exact h3 (keepBit h (by omega) (by decide)), fun h => by rw [upd_ne _ _ _ _ (by decide)]; exact h4 (keepBit h (by omega) (by decide)), fun h => upd_same _ _ _, fun h => by rw [upd_ne _ _ _ _ (by decide)]; exact h6 (keepBit h (by omega) (by decide)), fun h => by rw [upd_ne _ _ _ _ (by decide)]; exact h7 (keepBit h (by omega) (by decide)), fun h => by rw [upd_ne _ _ _ _ (by decide)]; exact h8 (keepBit h (by omega) (by decide))⟩
            · have hw' : L.getD 9 false = false ∧ w' = WE := hw.elim id fun hq => (readyBit hsL hi (hq.2.2.2.2.2.2.2.2.1)).elim
              obtain ⟨hb9, hw9⟩ := hw'
              obtain rfl : WE = w' := hw9.symm
              have ev33 : (frame a0 [29, 30, 31, 32, 33, 34, 35, 36, 37] x).tmps[33]?.getD undef = .map (some bt) := by have h := (frame_eval_in a0 [29, 30, 31, 32, 33, 34, 35, 36, 37] x 33 rfl (by omega)).trans (h4 (ready_needs hi (by decide))); simpa [Act.eval] using h
              have ev34 : (frame a0 [29, 30, 31, 32, 33, 34, 35, 36, 37] x).tmps[34]?.getD undef = .agg #[.int .i64 c.cl, .int .i64 c.sq, .int .i64 c.op, .string c.k, .string c.v, .string c.o] := by have h := (frame_eval_in a0 [29, 30, 31, 32, 33, 34, 35, 36, 37] x 34 rfl (by omega)).trans (h5 (ready_needs hi (by decide))); simpa [Act.eval] using h
              refine ⟨_, rfl, rfl, (by intro c hc; cases hc), ?_⟩
              refine uponIn_val (v := .agg #[.int .i64 ak, .int .i64 rp]) (w := WE) ?_ ?_
              · obtain ⟨aa, haa⟩ : ∃ aa, aa = frame a0 [29, 30, 31, 32, 33, 34, 35, 36, 37] x := ⟨_, rfl⟩
                rw [← haa] at ev33 ev34 ⊢
                clear haa HA0 h0 h1 h2 h3 h4 h5 h6 h7 h8
                go_simp
              exact ⟨_, frame_put _ _ _ 35 _ rfl, .inl ⟨by rw [getD_set L 6 9 (by omega), hb9]; rfl, rfl⟩, fun h => by rw [upd_ne _ _ _ _ (by decide)]; exact h0 (keepBit h (by omega) (by decide)), fun h => by rw [upd_ne _ _ _ _ (by decide)]; exact h1 (keepBit h (by omega) (by decide)), fun h => by rw [upd_ne _ _ _ _ (by decide)]; exact h2 (keepBit h (by omega) (by decide)), fun h => by rw [upd_ne _ _ _ _ (by decide)]; exact h3 (keepBit h (by omega) (by decide)), fun h => by rw [upd_ne _ _ _ _ (by decide)]; exact h4 (keepBit h (by omega) (by decide)), fun h => by rw [upd_ne _ _ _ _ (by decide)]; exact h5 (keepBit h (by omega) (by decide)), fun h => upd_same _ _ _, fun h => by rw [upd_ne _ _ _ _ (by decide)]; exact h7 (keepBit h (by omega) (by decide)), fun h => by rw [upd_ne _ _ _ _ (by decide)]; exact h8 (keepBit h (by omega) (by decide))⟩
            · have hw' : L.getD 9 false = false ∧ w' = WE := hw.elim id fun hq => (readyBit hsL hi (hq.2.2.2.2.2.2.2.2.2.1)).elim
              obtain ⟨hb9, hw9⟩ := hw'
              obtain rfl : WE = w' := hw9.symm
              have ev35 : (frame a0 [29, 30, 31, 32, 33, 34, 35, 36, 37] x).tmps[35]?.getD undef = .agg #[.int .i64 ak, .int .i64 rp] := by have h := (frame_eval_in a0 [29, 30, 31, 32, 33, 34, 35, 36, 37] x 35 rfl (by omega)).trans (h6 (ready_needs hi (by decide))); simpa [Act.eval] using h
              refine ⟨_, rfl, rfl, (by intro c hc; cases hc), ?_⟩
              refine uponIn_val (v := .int .i64 rp) (w := WE) ?_ ?_
              · obtain ⟨aa, haa⟩ : ∃ aa, aa = frame a0 [29, 30, 31, 32, 33, 34, 35, 36, 37] x := ⟨_, rfl⟩
                rw [← haa] at ev35 ⊢
                clear haa HA0 h0 h1 h2 h3 h4 h5 h6 h7 h8
                go_simp
              exact ⟨_, frame_put _ _ _ 36 _ rfl, .inl ⟨by rw [getD_set L 7 9 (by omega), hb9]; rfl, rfl⟩, fun h => by rw [upd_ne _ _ _ _ (by decide)]; exact h0 (keepBit h (by omega) (by decide)), fun h => by rw [upd_ne _ _ _ _ (by decide)]; exact h1 (keepBit h (by omega) (by decide)), fun h => by rw [upd_ne _ _ _ _ (by decide)]; exact h2 (keepBit h (by omega) (by decide)), fun h => by rw [upd_ne _ _ _ _ (by decide)]; exact h3 (keepBit h (by omega) (by decide)), fun h => by rw [upd_ne _ _ _ _ (by decide)]; exact h4 (keepBit h (by omega) (by decide)), fun h => by rw [upd_ne _ _ _ _ (by decide)]; exact h5 (keepBit h (by omega) (by decide)), fun h => by rw [upd_ne _ _ _ _ (by decide)]; exact h6 (keepBit h (by omega) (by decide)), fun h => upd_same _ _ _, fun h => by rw [upd_ne _ _ _ _ (by decide)]; exact h8 (keepBit h (by omega) (by decide))⟩
            · have hw' : L.getD 9 false = false ∧ w' = WE := hw.elim id fun hq => (readyBit hsL hi (hq.2.2.2.2.2.2.2.2.2.2)).elim
              obtain ⟨hb9, hw9⟩ := hw'
              obtain rfl : WE = w' := hw9.symm
              have ev29 : (frame a0 [29, 30, 31, 32, 33, 34, 35, 36, 37] x).tmps[29]?.getD undef = .int .i64 r := by have h := (frame_eval_in a0 [29, 30, 31, 32, 33, 34, 35, 36, 37] x 29 rfl (by omega)).trans (h0 (ready_needs hi (by decide))); simpa [Act.eval] using h
              have ev36 : (frame a0 [29, 30, 31, 32, 33, 34, 35, 36, 37] x).tmps[36]?.getD undef = .int .i64 rp := by have h := (frame_eval_in a0 [29, 30, 31, 32, 33, 34, 35, 36, 37] x 36 rfl (by omega)).trans (h7 (ready_needs hi (by decide))); simpa [Act.eval] using h
              refine ⟨_, rfl, rfl, (by intro c hc; cases hc), ?_⟩
              refine uponIn_val (v := .int .i64 mn) (w := WE) ?_ ?_
              · obtain ⟨aa, haa⟩ : ∃ aa, aa = frame a0 [29, 30, 31, 32, 33, 34, 35, 36, 37] x := ⟨_, rfl⟩
                rw [← haa] at ev29 ev36 ⊢
                clear haa HA0 h0 h1 h2 h3 h4 h5 h6 h7 h8
                go_simp
              exact ⟨_, frame_put _ _ _ 37 _ rfl, .inl ⟨by rw [getD_set L 8 9 (by omega), hb9]; rfl, rfl⟩, fun h => by rw [upd_ne _ _ _ _ (by decide)]; exact h0 (keepBit h (by omega) (by decide)), fun h => by rw [upd_ne _ _ _ _ (by decide)]; exact h1 (keepBit h (by omega) (by decide)), fun h => by rw [upd_ne _ _ _ _ (by decide)]; exact h2 (keepBit h (by omega) (by decide)), fun h => by rw [upd_ne _ _ _ _ (by decide)]; exact h3 (keepBit h (by omega) (by decide)), fun h => by rw [upd_ne _ _ _ _ (by decide)]; exact h4 (keepBit h (by omega) (by decide)), fun h => by rw [upd_ne _ _ _ _ (by decide)]; exact h5 (keepBit h (by omega) (by decide)), fun h => by rw [upd_ne _ _ _ _ (by decide)]; exact h6 (keepBit h (by omega) (by decide)), fun h => by rw [upd_ne _ _ _ _ (by decide)]; exact h7 (keepBit h (by omega) (by decide)), fun h => upd_same _ _ _⟩
            · have hw' : L.getD 9 false = false ∧ w' = WE := hw.elim id fun hq => (readyBit hsL hi hq.1).elim
              obtain ⟨hb9, hw9⟩ := hw'
              obtain rfl : WE = w' := hw9.symm
              have ev4 : (frame a0 [29, 30, 31, 32, 33, 34, 35, 36, 37] x).tmps[4]?.getD undef = .pointer (some ⟨rb, 0, none⟩) := by have h := (frame_eval a0 [29, 30, 31, 32, 33, 34, 35, 36, 37] x 4 rfl).trans e4; simpa [Act.eval] using h
              have ev37 : (frame a0 [29, 30, 31, 32, 33, 34, 35, 36, 37] x).tmps[37]?.getD undef = .int .i64 mn := by have h := (frame_eval_in a0 [29, 30, 31, 32, 33, 34, 35, 36, 37] x 37 rfl (by omega)).trans (h8 (ready_needs hi (by decide))); simpa [Act.eval] using h
              refine ⟨_, rfl, rfl, (by intro c hc; cases hc), ?_⟩
              refine uponIn_skp (w := (WE.setCell ⟨rb, 0, none⟩ (.int .i64 mn))) ?_ ?_
              · obtain ⟨aa, haa⟩ : ∃ aa, aa = frame a0 [29, 30, 31, 32, 33, 34, 35, 36, 37] x := ⟨_, rfl⟩
                rw [← haa] at ev4 ev37 ⊢
                clear haa HA0 h0 h1 h2 h3 h4 h5 h6 h7 h8
                go_simp
              exact ⟨_, rfl, .inr ⟨setSelf (by omega), rfl, setBit (ready_needs hi (by decide)) (by omega), setBit (ready_needs hi (by decide)) (by omega), setBit (ready_needs hi (by decide)) (by omega), setBit (ready_needs hi (by decide)) (by omega), setBit (ready_needs hi (by decide)) (by omega), setBit (ready_needs hi (by decide)) (by omega), setBit (ready_needs hi (by decide)) (by omega), setBit (ready_needs hi (by decide)) (by omega), setBit (ready_needs hi (by decide)) (by omega)⟩, fun h => h0 (keepBit h (by omega) (by decide)), fun h => h1 (keepBit h (by omega) (by decide)), fun h => h2 (keepBit h (by omega) (by decide)), fun h => h3 (keepBit h (by omega) (by decide)), fun h => h4 (keepBit h (by omega) (by decide)), fun h => h5 (keepBit h (by omega) (by decide)), fun h => h6 (keepBit h (by omega) (by decide)), fun h => h7 (keepBit h (by omega) (by decide)), fun h => h8 (keepBit h (by omega) (by decide))⟩
          · rintro L a w' hsL hr2 ⟨x, rfl, hw, h0, h1, h2, h3, h4, h5, h6, h7, h8⟩
            have hall := ready_nil hsL hr2 (by decide)
            replace h0 := h0 (hall 0 (by decide))
            replace h1 := h1 (hall 1 (by decide))
            replace h2 := h2 (hall 2 (by decide))
            replace h3 := h3 (hall 3 (by decide))
            replace h4 := h4 (hall 4 (by decide))
            replace h5 := h5 (hall 5 (by decide))
            replace h6 := h6 (hall 6 (by decide))
            replace h7 := h7 (hall 7 (by decide))
            replace h8 := h8 (hall 8 (by decide))
            obtain rfl : w' = (WE.setCell ⟨rb, 0, none⟩ (.int .i64 mn)) := hw.elim (fun q => by have := hall 9 (by decide); rw [q.1] at this; cases this) fun q => q.2.1
            rw [HA0.out]
            simp only [frame, List.zipIdx_cons, List.zipIdx_nil, List.map_cons, List.map_nil, List.contains_cons, List.contains_nil, Nat.reduceBEq, Nat.reduceAdd, Bool.or_false, Bool.false_or, Bool.or_true, Bool.true_or, Bool.false_eq_true, if_false, if_true, h0, h1, h2, h3, h4, h5, h6, h7, h8]
            gi_wp2
            exact ⟨(HaO.out.trans (KeepsOthers.setCell _ _ _)).from _, ⟨HaK.out.1.setCell (by simp only []; omega) _, (Below.heap_setCell _ _ _ _ (by simp only []; omega)).trans HaK.out.2⟩, HaX.out.set_other _ (by simp only []; omega), by rw [HST.out]; exact HaF.out.set_other _ (by simp only []; omega), by rw [HST.out]; exact HaR.out.set 0 _, HaW.out.setCell (by simp only []; omega) _, by have := haz; simp [World.setCell]; omega⟩
    case done =>
      rintro D ys W hD rfl ⟨i1, i2, i3, i4, i5⟩ hKD
      have f0 : W.cell? ⟨fb, 0, none⟩ = some (.int .i64 (stE t en (bkL os hos os.length)).1) := i2.cell 0
      go_wp2
      refine ⟨by simp, .inl ⟨_, _, rfl, run_takeDeferred hKD, ?_⟩⟩
      exact ⟨_, results_tmp rfl _ _ _, by rw [HF.out]; rfl, i4.trans ⟨rfl, rfl, rfl, by simp [World.putObj], fun j hj => by simp [World.putObj, Array.getElem?_setIfInBounds]; omega⟩⟩
    case stop =>
      rintro D c pre W _ _ h _
      exact h.elim
end Go.Proofs.Ytnoihfincifphaa
