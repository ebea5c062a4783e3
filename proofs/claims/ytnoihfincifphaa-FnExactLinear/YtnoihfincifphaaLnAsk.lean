/-
  (*impl.judge).ask.
-/
import Derived.Test.YtnoihfincifphaaLnJ
import Derived.Test.YtnoihfincifphaaTbApply
import Derived.BigRegion
import Derived.BigQuiet
import Derived.Deep.QuietTactic
import Derived.Deep.RegionWith
import Derived.Deep.CutRange
namespace Go.Proofs.Ytnoihfincifphaa
open Go.RowKit Go.Maps
set_option linter.unusedVariables false
set_option linter.unusedSimpArgs false

def tnV (p : Nat × Nat) : Value := .agg #[.int .i64 p.1, .int .i64 p.2]
def okI (x : Int) : Prop := (Lit.int .i64 x).wf = true
def laF (la : Int → Int) (x : Int) : Option Int := if la x = 0 then none else some (la x)
theorem laF_elim (la : Int → Int) (x : Int) : (laF la x).elim (.int .i64 0) (fun y : Int => Value.int .i64 y) = .int .i64 (la x) := by
  unfold laF
  split
  · rename_i h; rw [h]; rfl
  · rfl
abbrev MT (w : World) (b n : Nat) (f : Cm → Option (Nat × Nat)) : Prop := FM 63 cmV Cm.fits tnV w b n f
abbrev MPl (w : World) (b n : Nat) (f : Cm → Option Nat) : Prop := FM 63 cmV Cm.fits (fun i : Nat => Value.int .i64 i) w b n f
abbrev MO (w : World) (b n : Nat) (f : Int → Option Cm) : Prop := FM 3 (fun x : Int => Value.int .i64 x) okI cmV w b n f
abbrev ML (w : World) (b n : Nat) (la : Int → Int) : Prop := FM 3 (fun x : Int => Value.int .i64 x) okI (fun y : Int => Value.int .i64 y) w b n (laF la)
theorem zeroCm (w : World) : (zeroValue 63).run Try.prog w = .ok (.agg #[.int .i64 0, .int .i64 0, .int .i64 0, .string ⟨#[]⟩, .string ⟨#[]⟩, .string ⟨#[]⟩]) w := by kernel_rfl
theorem zeroIn (w : World) : (zeroValue 3).run Try.prog w = .ok (.int .i64 0) w := by kernel_rfl
theorem zeroTn (w : World) : (zeroValue 128).run Try.prog w = .ok (.agg #[.int .i64 0, .int .i64 0]) w := by kernel_rfl
def cm0 : Cm := ⟨0, 0, 0, ⟨#[]⟩, ⟨#[]⟩, ⟨#[]⟩⟩
theorem op_elim (x : Option Cm) : x.elim (.agg #[.int .i64 0, .int .i64 0, .int .i64 0, .string ⟨#[]⟩, .string ⟨#[]⟩, .string ⟨#[]⟩]) cmV = cmV (x.getD cm0) := by cases x <;> rfl
/-- the judge's block and its maps, all of them other blocks -/
structure JB (w : World) (jb bt bp bl bo : Nat) (ev ov : Value) : Prop where
  blk : Blk w jb #[ev, ov, .map (some bt), .map (some bp), .map (some bl), .map (some bo)] 84
  tp : bt ≠ bp
  tl : bt ≠ bl
  to_ : bt ≠ bo
  pl : bp ≠ bl
  po : bp ≠ bo
  lo : bl ≠ bo
  jt : jb ≠ bt
  jp : jb ≠ bp
  jl : jb ≠ bl
  jo : jb ≠ bo
  lt : bt < w.heap.size ∧ bp < w.heap.size ∧ bl < w.heap.size ∧ bo < w.heap.size
theorem JB.keep {w w' : World} {jb bt bp bl bo : Nat} {ev ov : Value} (h : JB w jb bt bp bl bo ev ov) (hb : w'.heap[jb]? = w.heap[jb]?) (hz : w.heap.size ≤ w'.heap.size) : JB w' jb bt bp bl bo ev ov :=
  ⟨h.blk.keep hb, h.tp, h.tl, h.to_, h.pl, h.po, h.lo, h.jt, h.jp, h.jl, h.jo, by obtain ⟨a, b, c, d⟩ := h.lt; exact ⟨by omega, by omega, by omega, by omega⟩⟩

theorem below_dN {B : Nat} {a w : World} (h : Below B a w) (n : Nat) : Below B a (w.drewN n) := ⟨h.os, h.tape, h.output, h.size, h.block⟩
/-- two maps, each in three states -/
def st3 (k b : Nat) (x y : Obj) (h : Array Obj) : Array Obj := match k with
  | 0 => h
  | 1 => h.setIfInBounds b x
  | _ => h.setIfInBounds b y
theorem st3_size (k b : Nat) (x y : Obj) (h : Array Obj) : (st3 k b x y h).size = h.size := by
  unfold st3
  split <;> simp
theorem st3_other {k b c : Nat} (x y : Obj) (h : Array Obj) (hne : c ≠ b) : (st3 k b x y h)[c]? = h[c]? := by
  unfold st3
  split <;> simp [Array.getElem?_setIfInBounds, hne.symm]
theorem st3_comm {i j b c : Nat} (x y z u : Obj) (h : Array Obj) (hne : b ≠ c) : st3 i b x y (st3 j c z u h) = st3 j c z u (st3 i b x y h) := by
  unfold st3
  split <;> split <;> first | rfl | exact Array.setIfInBounds_comm _ _ hne.symm
theorem two_maps (u : World) {bo bl : Nat} (hne : bo ≠ bl) (ho : bo < u.heap.size) (hl : bl < u.heap.size) (o1 o2 p1 p2 : Obj) :
    ∃ Wd : Nat → Nat → World, Wd 0 0 = u ∧ (∀ j, ChangeMaps.setBlock (Wd 0 j) bo o1 = Wd 1 j) ∧ (∀ j, ChangeMaps.setBlock (Wd 1 j) bo o2 = Wd 2 j) ∧ (∀ i, ChangeMaps.setBlock (Wd i 0) bl p1 = Wd i 1) ∧ (∀ i, ChangeMaps.setBlock (Wd i 1) bl p2 = Wd i 2) ∧
      (∀ i j b, b ≠ bo → b ≠ bl → (Wd i j).heap[b]? = u.heap[b]?) ∧ (∀ j, (Wd 0 j).heap[bo]? = u.heap[bo]?) ∧ (∀ j, (Wd 1 j).heap[bo]? = some o1) ∧ (∀ j, (Wd 2 j).heap[bo]? = some o2) ∧ (∀ i, (Wd i 0).heap[bl]? = u.heap[bl]?) ∧ (∀ i, (Wd i 1).heap[bl]? = some p1) ∧ (∀ i, (Wd i 2).heap[bl]? = some p2) ∧
      ∀ i j, (Wd i j).heap.size = u.heap.size ∧ (Wd i j).os = u.os ∧ (Wd i j).tape = u.tape ∧ (Wd i j).output = u.output := by
  refine ⟨fun i j => { u with heap := st3 i bo o1 o2 (st3 j bl p1 p2 u.heap) }, rfl, fun j => ?_, fun j => ?_, fun i => ?_, fun i => ?_, fun i j b h1 h2 => ?_, fun j => ?_, fun j => ?_, fun j => ?_, fun i => ?_, fun i => ?_, fun i => ?_, fun i j => ⟨?_, rfl, rfl, rfl⟩⟩
  · rfl
  · show World.mk _ _ _ _ _ = World.mk _ _ _ _ _
    congr 1
    exact Array.setIfInBounds_setIfInBounds _
  · show World.mk _ _ _ _ _ = World.mk _ _ _ _ _
    congr 1
    show (st3 i bo o1 o2 u.heap).setIfInBounds bl p1 = st3 i bo o1 o2 (st3 1 bl p1 p2 u.heap)
    rw [st3_comm _ _ _ _ _ hne]; rfl
  · show World.mk _ _ _ _ _ = World.mk _ _ _ _ _
    congr 1
    show (st3 i bo o1 o2 (st3 1 bl p1 p2 u.heap)).setIfInBounds bl p2 = st3 i bo o1 o2 (st3 2 bl p1 p2 u.heap)
    rw [st3_comm _ _ _ _ _ hne, st3_comm _ _ _ _ _ hne]
    exact Array.setIfInBounds_setIfInBounds _
  · show (st3 i bo o1 o2 (st3 j bl p1 p2 u.heap))[b]? = _
    rw [st3_other _ _ _ h1, st3_other _ _ _ h2]
  · show (st3 j bl p1 p2 u.heap)[bo]? = _
    rw [st3_other _ _ _ hne]
  · show ((st3 j bl p1 p2 u.heap).setIfInBounds bo o1)[bo]? = _
    simp [Array.getElem?_setIfInBounds, st3_size, ho]
  · show ((st3 j bl p1 p2 u.heap).setIfInBounds bo o2)[bo]? = _
    simp [Array.getElem?_setIfInBounds, st3_size, ho]
  · show (st3 i bo o1 o2 u.heap)[bl]? = _
    rw [st3_other _ _ _ hne.symm]
  · show (st3 i bo o1 o2 (st3 1 bl p1 p2 u.heap))[bl]? = _
    rw [st3_other _ _ _ hne.symm]
    show (u.heap.setIfInBounds bl p1)[bl]? = _
    simp [Array.getElem?_setIfInBounds, hl]
  · show (st3 i bo o1 o2 (st3 2 bl p1 p2 u.heap))[bl]? = _
    rw [st3_other _ _ _ hne.symm]
    show (u.heap.setIfInBounds bl p2)[bl]? = _
    simp [Array.getElem?_setIfInBounds, hl]
  · show (st3 i bo o1 o2 (st3 j bl p1 p2 u.heap)).size = _
    rw [st3_size, st3_size]
theorem laF_set (la : Int → Int) (x y : Int) (hy : y ≠ 0) : ∀ d, (d = x → laF (setI la x y) d = some y) ∧ (d ≠ x → laF (setI la x y) d = laF la d) := by
  intro d
  refine ⟨fun e => ?_, fun e => ?_⟩
  · subst e; unfold laF; rw [setI_same, if_neg hy]
  · unfold laF; rw [setI_other _ _ e]
theorem opn_set (op : Int → Option Cm) (x : Int) (c : Cm) : ∀ d, (d = x → setI op x (some c) d = some c) ∧ (d ≠ x → setI op x (some c) d = op d) :=
  fun d => ⟨fun e => by subst e; exact setI_same _ _ _, fun e => setI_other _ _ e⟩
theorem tn_set {γ : Type} (f : Cm → Option γ) (c : Cm) (y : γ) : ∀ d, (cmV d = cmV c → setC f c (some y) d = some y) ∧ (cmV d ≠ cmV c → setC f c (some y) d = f d) :=
  fun d => ⟨fun e => by rw [cmV_inj e]; exact setC_same _ _ _, fun e => setC_other _ _ fun h => e (by rw [h])⟩

set_option maxHeartbeats 4000000 in
set_option maxRecDepth 100000 in
theorem ask_busy (jb bt bp bl bo : Nat) (ea : Option Addr) (en ec : Nat) (oa : Option Addr) (on oc : Nat) (at_ : Nat) (c : Cm) (n : Nat) (op : Int → Option Cm) (d : Cm) (w : World) (hJ : JB w jb bt bp bl bo (.slice ea en ec) (.slice oa on oc)) (hO : MO w bo n op) (hc : c.fits) (hop : op c.cl = some d) :
    Calls Try.prog 94 #[.pointer (some ⟨jb, 0, none⟩), .int .i64 at_, cmV c] w fun e w' => e = .returned (.bool false) ∧ Below w.heap.size w w' := by
  have hlk : ∀ u : World, u.heap[bo]? = w.heap[bo]? → (Instr.lookup 82 (.map (some bo)) (.int .i64 c.cl) true).run Try.prog u = .ok (.tuple #[.agg #[.int .i64 d.cl, .int .i64 d.sq, .int .i64 d.op, .string d.k, .string d.v, .string d.o], .bool true]) u := fun u hu => by
    have := hO.lookOk lawI Try.underlying82 zeroCm c.cl hc.cl u hu
    rw [hop] at this
    exact this
  have hlo := hJ.lt.2.2.2
  have hjl := hJ.blk.lt
  obtain ⟨W, hW⟩ : ∃ W, W = w.alloc (.cells #[.int .i64 c.cl, .int .i64 c.sq, .int .i64 c.op, .string c.k, .string c.v, .string c.o] 63) := ⟨_, rfl⟩
  have hz : W.heap.size = w.heap.size + 1 := by rw [hW]; simp
  have hbw : W.heap[bo]? = w.heap[bo]? := by rw [hW]; exact Below.heap_alloc _ _ _ hlo
  have HJ : Hid (Blk W jb #[.slice ea en ec, .slice oa on oc, .map (some bt), .map (some bp), .map (some bl), .map (some bo)] 84) := by show Blk _ _ _ _; rw [hW]; exact hJ.blk.alloc _
  have HC : Hid (Blk W w.heap.size #[.int .i64 c.cl, .int .i64 c.sq, .int .i64 c.op, .string c.k, .string c.v, .string c.o] 63) := by show Blk _ _ _ _; rw [hW]; exact Blk.new _ _ _
  have j5 : W.cell? ⟨jb, 5, none⟩ = some (.map (some bo)) := HJ.out.cell 5
  have c0 : W.cell? ⟨w.heap.size, 0, none⟩ = some (.int .i64 c.cl) := HC.out.cell 0
  have HB : Hid (Below w.heap.size w W) := by show Below _ _ _; rw [hW]; exact (Below.refl _ _).alloc (Nat.le_refl _) _
  have l0 : (Instr.lookup 82 (.map (some bo)) (.int .i64 c.cl) true).run Try.prog W.drew = .ok (.tuple #[.agg #[.int .i64 d.cl, .int .i64 d.sq, .int .i64 d.op, .string d.k, .string d.v, .string d.o], .bool true]) W.drew := hlk _ hbw
  have l1 : ∀ o : Obj, (Instr.lookup 82 (.map (some bo)) (.int .i64 c.cl) true).run Try.prog (W.drew.alloc o) = .ok (.tuple #[.agg #[.int .i64 d.cl, .int .i64 d.sq, .int .i64 d.op, .string d.k, .string d.v, .string d.o], .bool true]) (W.drew.alloc o) := fun o => hlk _ ((Below.heap_alloc _ _ _ (by show bo < W.heap.size; omega)).trans hbw)
  have l2 : ∀ o : Obj, (Instr.lookup 82 (.map (some bo)) (.int .i64 c.cl) true).run Try.prog (W.alloc o).drew = .ok (.tuple #[.agg #[.int .i64 d.cl, .int .i64 d.sq, .int .i64 d.op, .string d.k, .string d.v, .string d.o], .bool true]) (W.alloc o).drew := fun o => hlk _ ((Below.heap_alloc _ _ _ (by show bo < W.heap.size; omega)).trans hbw)
  have n1 : ¬ jb = W.heap.size := by omega
  have n2 : ¬ w.heap.size = W.heap.size := by omega
  clear hlk hJ hO
  unfold cmV
  go_enter Try.func94, Try.ntmps94
  go_upto_region 1 with fail
  rw [← hW]
  clear hW
  go_region
  go_wp2_with fail
  go_quiet (fail)
  go_wp2
  go_ret
  exact ⟨rfl, below_dN ((HB.out.alloc (by omega) _).drew) _⟩
set_option maxHeartbeats 4000000 in
set_option maxRecDepth 100000 in
theorem ask_seq (jb bt bp bl bo : Nat) (ea : Option Addr) (en ec : Nat) (oa : Option Addr) (on oc : Nat) (at_ : Nat) (c : Cm) (n : Nat) (op : Int → Option Cm) (la : Int → Int) (w : World) (hJ : JB w jb bt bp bl bo (.slice ea en ec) (.slice oa on oc)) (hO : MO w bo n op) (hc : c.fits) (hL : ML w bl n la) (hop : op c.cl = none) (hla : 0 ≤ la c.cl ∧ la c.cl ≤ 1073741824) (hsq : c.sq ≠ la c.cl + 1) :
    Calls Try.prog 94 #[.pointer (some ⟨jb, 0, none⟩), .int .i64 at_, cmV c] w fun e w' => e = .returned (.bool false) ∧ Below w.heap.size w w' := by
  have HLa : Hid (ML w bl n la) := hL
  have hlk : ∀ u : World, u.heap[bo]? = w.heap[bo]? → (Instr.lookup 82 (.map (some bo)) (.int .i64 c.cl) true).run Try.prog u = .ok (.tuple #[.agg #[.int .i64 0, .int .i64 0, .int .i64 0, .string ⟨#[]⟩, .string ⟨#[]⟩, .string ⟨#[]⟩], .bool false]) u := fun u hu => by
    have := hO.lookOk lawI Try.underlying82 zeroCm c.cl hc.cl u hu
    rw [hop] at this
    exact this
  have hlo := hJ.lt.2.2.2
  have hjl := hJ.blk.lt
  obtain ⟨W, hW⟩ : ∃ W, W = w.alloc (.cells #[.int .i64 c.cl, .int .i64 c.sq, .int .i64 c.op, .string c.k, .string c.v, .string c.o] 63) := ⟨_, rfl⟩
  have hz : W.heap.size = w.heap.size + 1 := by rw [hW]; simp
  have hbw : W.heap[bo]? = w.heap[bo]? := by rw [hW]; exact Below.heap_alloc _ _ _ hlo
  have HJ : Hid (Blk W jb #[.slice ea en ec, .slice oa on oc, .map (some bt), .map (some bp), .map (some bl), .map (some bo)] 84) := by show Blk _ _ _ _; rw [hW]; exact hJ.blk.alloc _
  have HC : Hid (Blk W w.heap.size #[.int .i64 c.cl, .int .i64 c.sq, .int .i64 c.op, .string c.k, .string c.v, .string c.o] 63) := by show Blk _ _ _ _; rw [hW]; exact Blk.new _ _ _
  have j5 : W.cell? ⟨jb, 5, none⟩ = some (.map (some bo)) := HJ.out.cell 5
  have c0 : W.cell? ⟨w.heap.size, 0, none⟩ = some (.int .i64 c.cl) := HC.out.cell 0
  have HB : Hid (Below w.heap.size w W) := by show Below _ _ _; rw [hW]; exact (Below.refl _ _).alloc (Nat.le_refl _) _
  have l0 : (Instr.lookup 82 (.map (some bo)) (.int .i64 c.cl) true).run Try.prog W.drew = .ok (.tuple #[.agg #[.int .i64 0, .int .i64 0, .int .i64 0, .string ⟨#[]⟩, .string ⟨#[]⟩, .string ⟨#[]⟩], .bool false]) W.drew := hlk _ hbw
  have l1 : ∀ o : Obj, (Instr.lookup 82 (.map (some bo)) (.int .i64 c.cl) true).run Try.prog (W.drew.alloc o) = .ok (.tuple #[.agg #[.int .i64 0, .int .i64 0, .int .i64 0, .string ⟨#[]⟩, .string ⟨#[]⟩, .string ⟨#[]⟩], .bool false]) (W.drew.alloc o) := fun o => hlk _ ((Below.heap_alloc _ _ _ (by show bo < W.heap.size; omega)).trans hbw)
  have l2 : ∀ o : Obj, (Instr.lookup 82 (.map (some bo)) (.int .i64 c.cl) true).run Try.prog (W.alloc o).drew = .ok (.tuple #[.agg #[.int .i64 0, .int .i64 0, .int .i64 0, .string ⟨#[]⟩, .string ⟨#[]⟩, .string ⟨#[]⟩], .bool false]) (W.alloc o).drew := fun o => hlk _ ((Below.heap_alloc _ _ _ (by show bo < W.heap.size; omega)).trans hbw)
  have n1 : ¬ jb = W.heap.size := by omega
  have n2 : ¬ w.heap.size = W.heap.size := by omega
  clear hlk hJ hO hL
  unfold cmV
  go_enter Try.func94, Try.ntmps94
  go_upto_region 1 with fail
  rw [← hW]
  clear hW
  go_region
  go_wp2_with fail
  obtain ⟨W2, hW2⟩ : ∃ W2, W2 = (W.alloc (.cells #[.int .i64 0, .int .i64 0, .int .i64 0, .string ⟨#[]⟩, .string ⟨#[]⟩, .string ⟨#[]⟩] 63)).drew := ⟨_, rfl⟩
  have hz2 : W2.heap.size = w.heap.size + 2 := by rw [hW2]; show (W.alloc _).heap.size = _; simp; omega
  have HJ2 : Hid (Blk W2 jb #[.slice ea en ec, .slice oa on oc, .map (some bt), .map (some bp), .map (some bl), .map (some bo)] 84) := by show Blk _ _ _ _; rw [hW2]; exact (HJ.out.alloc _).drew
  have HC2 : Hid (Blk W2 w.heap.size #[.int .i64 c.cl, .int .i64 c.sq, .int .i64 c.op, .string c.k, .string c.v, .string c.o] 63) := by show Blk _ _ _ _; rw [hW2]; exact (HC.out.alloc _).drew
  have HB2 : Hid (Below w.heap.size w W2) := by show Below _ _ _; rw [hW2]; exact (HB.out.alloc (by omega) _).drew
  rw [← hW2]
  clear hW2 l0 l1 l2 j5 c0 n1 n2 hbw HJ HC HB
  have k4 : W2.cell? ⟨jb, 4, none⟩ = some (.map (some bl)) := HJ2.out.cell 4
  have k1 : W2.cell? ⟨w.heap.size, 1, none⟩ = some (.int .i64 c.sq) := HC2.out.cell 1
  have k0 : W2.cell? ⟨w.heap.size, 0, none⟩ = some (.int .i64 c.cl) := HC2.out.cell 0
  have l3 : ∀ q, (Instr.lookup 81 (.map (some bl)) (.int .i64 c.cl) false).run Try.prog (W2.drewN q) = .ok (.int .i64 (la c.cl)) (W2.drewN q) := fun q => by
    have := (HLa.out.below HB2.out).look lawI Try.underlying81 zeroIn c.cl hc.cl (W2.drewN q) rfl
    rw [laF_elim] at this
    exact this
  have hwr : IntKind.i64.wrap (la c.cl + 1) = la c.cl + 1 := by rw [IntKind.wrap_i64]; omega
  have hne : (c.sq != la c.cl + 1) = true := by simpa using hsq
  go_quiet (fail)
  go_wp2
  go_ret
  exact ⟨rfl, below_dN HB2.out _⟩
set_option maxHeartbeats 8000000 in
set_option maxRecDepth 100000 in
theorem ask_ok (jb bt bp bl bo : Nat) (ea : Option Addr) (en ec : Nat) (oa : Option Addr) (on oc : Nat) (at_ : Nat) (c : Cm) (n : Nat) (op : Int → Option Cm) (la : Int → Int) (w : World) (hJ : JB w jb bt bp bl bo (.slice ea en ec) (.slice oa on oc)) (hO : MO w bo n op) (hc : c.fits) (hL : ML w bl n la) (hop : op c.cl = none) (hla : 0 ≤ la c.cl ∧ la c.cl ≤ 1073741824) (hsq : c.sq = la c.cl + 1) (tu : Cm → Option (Nat × Nat)) (hT : MT w bt n tu) (hn : n < 1000000) :
    Calls Try.prog 94 #[.pointer (some ⟨jb, 0, none⟩), .int .i64 at_, cmV c] w fun e w' => e = .returned (.bool true) ∧ MO w' bo (n + 1) (setI op c.cl (some c)) ∧ ML w' bl (n + 1) (setI la c.cl c.sq) ∧ MT w' bt (n + 1) (setC tu c (some (at_, en))) ∧ TchT (fun j => j = bo ∨ j = bl ∨ j = bt) w w' := by
  have HLa : Hid (ML w bl n la) := hL
  have HOp : Hid (MO w bo n op) := hO
  have hne : (c.sq != la c.cl + 1) = false := by simpa using hsq
  have HSQ : Hid (c.sq = la c.cl + 1) := hsq
  clear hsq
  have HT : Hid (MT w bt n tu) := hT
  have hne1 := hJ.lo
  have hne2 := hJ.to_
  have hne3 := hJ.tl
  have hne4 := hJ.jo
  have hne5 := hJ.jl
  have hne6 := hJ.jt
  have hl2 := hJ.lt.2.2.1
  have hl3 := hJ.lt.1
  have hlk : ∀ u : World, u.heap[bo]? = w.heap[bo]? → (Instr.lookup 82 (.map (some bo)) (.int .i64 c.cl) true).run Try.prog u = .ok (.tuple #[.agg #[.int .i64 0, .int .i64 0, .int .i64 0, .string ⟨#[]⟩, .string ⟨#[]⟩, .string ⟨#[]⟩], .bool false]) u := fun u hu => by
    have := hO.lookOk lawI Try.underlying82 zeroCm c.cl hc.cl u hu
    rw [hop] at this
    exact this
  have hlo := hJ.lt.2.2.2
  have hjl := hJ.blk.lt
  obtain ⟨W, hW⟩ : ∃ W, W = w.alloc (.cells #[.int .i64 c.cl, .int .i64 c.sq, .int .i64 c.op, .string c.k, .string c.v, .string c.o] 63) := ⟨_, rfl⟩
  have hz : W.heap.size = w.heap.size + 1 := by rw [hW]; simp
  have hbw : W.heap[bo]? = w.heap[bo]? := by rw [hW]; exact Below.heap_alloc _ _ _ hlo
  have HJ : Hid (Blk W jb #[.slice ea en ec, .slice oa on oc, .map (some bt), .map (some bp), .map (some bl), .map (some bo)] 84) := by show Blk _ _ _ _; rw [hW]; exact hJ.blk.alloc _
  have HC : Hid (Blk W w.heap.size #[.int .i64 c.cl, .int .i64 c.sq, .int .i64 c.op, .string c.k, .string c.v, .string c.o] 63) := by show Blk _ _ _ _; rw [hW]; exact Blk.new _ _ _
  have j5 : W.cell? ⟨jb, 5, none⟩ = some (.map (some bo)) := HJ.out.cell 5
  have c0 : W.cell? ⟨w.heap.size, 0, none⟩ = some (.int .i64 c.cl) := HC.out.cell 0
  have HB : Hid (Below w.heap.size w W) := by show Below _ _ _; rw [hW]; exact (Below.refl _ _).alloc (Nat.le_refl _) _
  have l0 : (Instr.lookup 82 (.map (some bo)) (.int .i64 c.cl) true).run Try.prog W.drew = .ok (.tuple #[.agg #[.int .i64 0, .int .i64 0, .int .i64 0, .string ⟨#[]⟩, .string ⟨#[]⟩, .string ⟨#[]⟩], .bool false]) W.drew := hlk _ hbw
  have l1 : ∀ o : Obj, (Instr.lookup 82 (.map (some bo)) (.int .i64 c.cl) true).run Try.prog (W.drew.alloc o) = .ok (.tuple #[.agg #[.int .i64 0, .int .i64 0, .int .i64 0, .string ⟨#[]⟩, .string ⟨#[]⟩, .string ⟨#[]⟩], .bool false]) (W.drew.alloc o) := fun o => hlk _ ((Below.heap_alloc _ _ _ (by show bo < W.heap.size; omega)).trans hbw)
  have l2 : ∀ o : Obj, (Instr.lookup 82 (.map (some bo)) (.int .i64 c.cl) true).run Try.prog (W.alloc o).drew = .ok (.tuple #[.agg #[.int .i64 0, .int .i64 0, .int .i64 0, .string ⟨#[]⟩, .string ⟨#[]⟩, .string ⟨#[]⟩], .bool false]) (W.alloc o).drew := fun o => hlk _ ((Below.heap_alloc _ _ _ (by show bo < W.heap.size; omega)).trans hbw)
  have n1 : ¬ jb = W.heap.size := by omega
  have n2 : ¬ w.heap.size = W.heap.size := by omega
  clear hlk hJ hO hL hT
  unfold cmV
  go_enter Try.func94, Try.ntmps94
  go_upto_region 1 with fail
  rw [← hW]
  clear hW
  go_region
  go_wp2_with fail
  obtain ⟨W2, hW2⟩ : ∃ W2, W2 = (W.alloc (.cells #[.int .i64 0, .int .i64 0, .int .i64 0, .string ⟨#[]⟩, .string ⟨#[]⟩, .string ⟨#[]⟩] 63)).drew := ⟨_, rfl⟩
  have hz2 : W2.heap.size = w.heap.size + 2 := by rw [hW2]; show (W.alloc _).heap.size = _; simp; omega
  have HJ2 : Hid (Blk W2 jb #[.slice ea en ec, .slice oa on oc, .map (some bt), .map (some bp), .map (some bl), .map (some bo)] 84) := by show Blk _ _ _ _; rw [hW2]; exact (HJ.out.alloc _).drew
  have HC2 : Hid (Blk W2 w.heap.size #[.int .i64 c.cl, .int .i64 c.sq, .int .i64 c.op, .string c.k, .string c.v, .string c.o] 63) := by show Blk _ _ _ _; rw [hW2]; exact (HC.out.alloc _).drew
  have HB2 : Hid (Below w.heap.size w W2) := by show Below _ _ _; rw [hW2]; exact (HB.out.alloc (by omega) _).drew
  rw [← hW2]
  clear hW2 l0 l1 l2 j5 c0 n1 n2 hbw HJ HC HB
  have k4 : W2.cell? ⟨jb, 4, none⟩ = some (.map (some bl)) := HJ2.out.cell 4
  have k1 : W2.cell? ⟨w.heap.size, 1, none⟩ = some (.int .i64 c.sq) := HC2.out.cell 1
  have k0 : W2.cell? ⟨w.heap.size, 0, none⟩ = some (.int .i64 c.cl) := HC2.out.cell 0
  have l3 : ∀ q, (Instr.lookup 81 (.map (some bl)) (.int .i64 c.cl) false).run Try.prog (W2.drewN q) = .ok (.int .i64 (la c.cl)) (W2.drewN q) := fun q => by
    have := (HLa.out.below HB2.out).look lawI Try.underlying81 zeroIn c.cl hc.cl (W2.drewN q) rfl
    rw [laF_elim] at this
    exact this
  have hwr : IntKind.i64.wrap (la c.cl + 1) = la c.cl + 1 := by rw [IntKind.wrap_i64]; omega
  go_quiet (fail)
  go_wp2_with fail
  obtain ⟨W3, hW3⟩ : ∃ W3, W3 = W2.drewN nq := ⟨_, rfl⟩
  have HJ3 : Hid (Blk W3 jb #[.slice ea en ec, .slice oa on oc, .map (some bt), .map (some bp), .map (some bl), .map (some bo)] 84) := by show Blk _ _ _ _; rw [hW3]; exact HJ2.out
  have HC3 : Hid (Blk W3 w.heap.size #[.int .i64 c.cl, .int .i64 c.sq, .int .i64 c.op, .string c.k, .string c.v, .string c.o] 63) := by show Blk _ _ _ _; rw [hW3]; exact HC2.out
  have HB3 : Hid (Below w.heap.size w W3) := by show Below _ _ _; rw [hW3]; exact below_dN HB2.out _
  have hz3 : W3.heap.size = w.heap.size + 2 := by rw [hW3]; exact hz2
  rw [← hW3]
  clear hW3 l3 k0 k1 k4 HJ2 HC2 HB2 hz2
  obtain ⟨v1, s1, o1, o2, E1, S1, F1⟩ := (HOp.out.below HB3.out).entry lawI Try.underlying3 Try.underlying82 zeroCm (by unfold maxLen; omega) c.cl hc.cl c _ (opn_set op c.cl c)
  obtain ⟨v2, s2, p1, p2, E2, S2, F2⟩ := (HLa.out.below HB3.out).entry lawI Try.underlying3 Try.underlying81 zeroIn (by unfold maxLen; omega) c.cl hc.cl c.sq _ (laF_set la c.cl c.sq (by have := HSQ.out; omega))
  obtain ⟨Wd, w00, a1, a2, a3, a4, oth, b0, b1, b2, b3, b4, b5, zz⟩ := two_maps W3.drew (Ne.symm hne1) (show bo < W3.heap.size by omega) (show bl < W3.heap.size by omega) o1 o2 p1 p2
  have G1 : ∀ j, (Instr.mapEntry 82 (.map (some bo)) (.int .i64 c.cl)).run Try.prog (Wd 0 j) = .ok (.tuple #[v1, .int .i64 s1]) (Wd 1 j) := fun j => by rw [E1 _ (b0 j), a1]
  have G2 : ∀ j, (Instr.entryStore 82 (.map (some bo)) (.int .i64 s1) (.agg #[.int .i64 c.cl, .int .i64 c.sq, .int .i64 c.op, .string c.k, .string c.v, .string c.o])).run Try.prog (Wd 1 j) = .ok () (Wd 2 j) := fun j => by have := S1 _ (b1 j); rw [a2] at this; exact this
  have G3 : ∀ i, (Instr.mapEntry 81 (.map (some bl)) (.int .i64 c.cl)).run Try.prog (Wd i 0) = .ok (.tuple #[v2, .int .i64 s2]) (Wd i 1) := fun i => by rw [E2 _ (b3 i), a3]
  have G4 : ∀ i, (Instr.entryStore 81 (.map (some bl)) (.int .i64 s2) (.int .i64 c.sq)).run Try.prog (Wd i 1) = .ok () (Wd i 2) := fun i => by have := S2 _ (b4 i); rw [a4] at this; exact this
  have HF1 : Hid (MO (Wd 2 2) bo (n + 1) (setI op c.cl (some c))) := F1 _ (b2 2)
  have HF2 : Hid (ML (Wd 2 2) bl (n + 1) (setI la c.cl c.sq)) := F2 _ (b5 2)
  have HJd : Hid (∀ i j, Blk (Wd i j) jb #[.slice ea en ec, .slice oa on oc, .map (some bt), .map (some bp), .map (some bl), .map (some bo)] 84) := fun i j => HJ3.out.keep (oth i j jb hne4 hne5)
  have HCd : Hid (∀ i j, Blk (Wd i j) w.heap.size #[.int .i64 c.cl, .int .i64 c.sq, .int .i64 c.op, .string c.k, .string c.v, .string c.o] 63) := fun i j => HC3.out.keep (oth i j w.heap.size (by omega) (by omega))
  have HTd : Hid (MT (Wd 2 2) bt n tu) := (HT.out.below HB3.out).keep (oth 2 2 bt hne2 hne3)
  have HOth : Hid (∀ b, b ≠ bo → b ≠ bl → (Wd 2 2).heap[b]? = W3.heap[b]?) := fun b h1 h2 => oth 2 2 b h1 h2
  have HZ : Hid ((Wd 2 2).heap.size = W3.heap.size ∧ (Wd 2 2).os = W3.os ∧ (Wd 2 2).tape = W3.tape ∧ (Wd 2 2).output = W3.output) := zz 2 2
  have d4 : ∀ i j, (Wd i j).cell? ⟨jb, 4, none⟩ = some (.map (some bl)) := fun i j => (HJd.out i j).cell 4
  have d5 : ∀ i j, (Wd i j).cell? ⟨jb, 5, none⟩ = some (.map (some bo)) := fun i j => (HJd.out i j).cell 5
  have e0 : ∀ i j, (Wd i j).cell? ⟨w.heap.size, 0, none⟩ = some (.int .i64 c.cl) := fun i j => (HCd.out i j).cell 0
  have e1 : ∀ i j, (Wd i j).cell? ⟨w.heap.size, 1, none⟩ = some (.int .i64 c.sq) := fun i j => (HCd.out i j).cell 1
  have e2 : ∀ i j, (Wd i j).cell? ⟨w.heap.size, 2, none⟩ = some (.int .i64 c.op) := fun i j => (HCd.out i j).cell 2
  have e3 : ∀ i j, (Wd i j).cell? ⟨w.heap.size, 3, none⟩ = some (.string c.k) := fun i j => (HCd.out i j).cell 3
  have e4 : ∀ i j, (Wd i j).cell? ⟨w.heap.size, 4, none⟩ = some (.string c.v) := fun i j => (HCd.out i j).cell 4
  have e5 : ∀ i j, (Wd i j).cell? ⟨w.heap.size, 5, none⟩ = some (.string c.o) := fun i j => (HCd.out i j).cell 5
  clear E1 S1 F1 E2 S2 F2 a1 a2 a3 a4 oth b0 b1 b2 b3 b4 b5 zz HOp HLa HT
  have w0' : W3.drew = Wd 0 0 := w00.symm
  clear w00
  obtain ⟨W4, hW4⟩ : ∃ W4, W4 = Wd 2 2 := ⟨_, rfl⟩
  have HJ4 : Hid (Blk W4 jb #[.slice ea en ec, .slice oa on oc, .map (some bt), .map (some bp), .map (some bl), .map (some bo)] 84) := by show Blk _ _ _ _; rw [hW4]; exact HJd.out 2 2
  have HC4 : Hid (Blk W4 w.heap.size #[.int .i64 c.cl, .int .i64 c.sq, .int .i64 c.op, .string c.k, .string c.v, .string c.o] 63) := by show Blk _ _ _ _; rw [hW4]; exact HCd.out 2 2
  rw [← hW4] at HF1 HF2 HTd HOth HZ
  have HW4 : Hid (W4 = Wd 2 2) := hW4
  clear hW4
  go_cut [] from 33 to 51 (fun wc => wc = W4)
  case first =>
    go_region
    go_wp2_with fail
    go_meet
    exact HW4.out.symm
  case rest =>
    rw [hcut]
    clear hcut
    clear HW4 d4 d5 e0 e1 e2 e3 e4 e5 HJd HCd G1 G2 G3 G4 w0' HJ3 HC3
    clear Wd
    obtain ⟨U, hrun, HFT, HGR⟩ := HTd.out.put lawC Try.underlying79 (by unfold maxLen; omega) c hc (at_, en) _ (tn_set tu c (at_, en)) W4.drew rfl
    have hrn : (Instr.mapUpdate 79 (.map (some bt)) (.agg #[.int .i64 c.cl, .int .i64 c.sq, .int .i64 c.op, .string c.k, .string c.v, .string c.o]) (.agg #[.int .i64 at_, .int .i64 en])).run Try.prog W4.drew = .ok () U := hrun
    have HFT' : Hid (MT U bt (n + 1) (setC tu c (some (at_, en)))) := HFT
    have HGR' : Hid (World.grownBy W4.drew U (some bt)) := HGR
    clear HFT HGR hrun
    have d2 : W4.cell? ⟨jb, 2, none⟩ = some (.map (some bt)) := HJ4.out.cell 2
    have d0 : W4.cell? ⟨jb, 0, none⟩ = some (.slice ea en ec) := HJ4.out.cell 0
    have e0 : W4.cell? ⟨w.heap.size, 0, none⟩ = some (.int .i64 c.cl) := HC4.out.cell 0
    have e1 : W4.cell? ⟨w.heap.size, 1, none⟩ = some (.int .i64 c.sq) := HC4.out.cell 1
    have e2 : W4.cell? ⟨w.heap.size, 2, none⟩ = some (.int .i64 c.op) := HC4.out.cell 2
    have e3 : W4.cell? ⟨w.heap.size, 3, none⟩ = some (.string c.k) := HC4.out.cell 3
    have e4 : W4.cell? ⟨w.heap.size, 4, none⟩ = some (.string c.v) := HC4.out.cell 4
    have e5 : W4.cell? ⟨w.heap.size, 5, none⟩ = some (.string c.o) := HC4.out.cell 5
    go_wp2_with fail
    go_region
    go_wp2
    go_ret
    obtain ⟨z1, z2, z3, z4⟩ := HZ.out
    have hg := HGR'.out
    refine ⟨rfl, HF1.out.keep (hg.block bo (by show bo < W4.heap.size; omega) (by simp; omega)), HF2.out.keep (hg.block bl (by show bl < W4.heap.size; omega) (by simp; omega)), HFT'.out, ⟨hg.os.trans (z2.trans HB3.out.os), hg.tape.trans (z3.trans HB3.out.tape), hg.output.trans (z4.trans HB3.out.output), ?_, fun j hj hn => ?_⟩⟩
    · have := hg.size
      have h' : W4.heap.size ≤ U.heap.size := this
      omega
    · refine (hg.block j (by show j < W4.heap.size; omega) (by simp; omega)).trans ((HOth.out j (by omega) (by omega)).trans (HB3.out.block j hj))
end Go.Proofs.Ytnoihfincifphaa
