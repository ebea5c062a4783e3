/-
  spec.l7askOf, spec.l7replyOf, spec.l7placeOf.
-/
import Derived.Test.YtnoihfincifphaaLnReply
namespace Go.Proofs.Ytnoihfincifphaa
open Go.RowKit Go.Maps
set_option linter.unusedVariables false
set_option linter.unusedSimpArgs false

def askV (q : Int) (es : List Evn) (c : Cm) : Int := fstOf (fun j => hitK q (evAt es j) c) es.length
def plV (os : List Cm) (c : Cm) : Int := fstOf (fun j => (cmAt os j).is c) os.length
theorem askV_some {q : Int} {es : List Evn} {c : Cm} {a : Nat} (h : findK q es c = some a) : askV q es c = a := by
  obtain ⟨h1, h2, h3, h4⟩ := findK_lt h
  refine fst_hit (fun j hj => ?_) h1 ?_
  · cases x : hitK q (evAt es j) c
    · rfl
    · rw [evAt_eq (by omega)] at x; exact absurd (hitK_iff.1 x) (h4 j hj)
  · show hitK q (evAt es a) c = true
    rw [evAt_eq h1]; exact hitK_yes h2 h3
theorem askV_none {q : Int} {es : List Evn} {c : Cm} (h : findK q es c = none) : askV q es c = -1 := by
  refine fst_no fun j hj => ?_
  cases x : hitK q (evAt es j) c
  · rfl
  · rw [evAt_eq hj] at x; exact absurd (hitK_iff.1 x) (findK_none h j hj)
theorem plV_neg (os : List Cm) (c : Cm) : plV os c < 0 ↔ inCs os c = false := by
  constructor
  · intro h
    cases x : inCs os c
    · rfl
    · obtain ⟨i, hi, e⟩ := List.getElem_of_mem (inCs_iff.1 x)
      have := fst_neg h i hi
      rw [cmAt_eq hi, e, Cm.is_self] at this
      cases this
  · intro h
    rw [plV, fst_no fun j hj => ?_]
    · omega
    · cases x : (cmAt os j).is c
      · rfl
      · rw [cmAt_eq hj, Cm.is_iff] at x
        have := inCs_iff.2 (x ▸ List.getElem_mem hj : c ∈ os)
        rw [h] at this; cases this
theorem plV_lt {os : List Cm} {i : Nat} (hi : i < os.length) : plV os os[i] < i ↔ inCs (os.take i) os[i] = true := by
  constructor
  · intro h
    cases x : inCs (os.take i) os[i]
    · exfalso
      have : plV os os[i] = i := by
        refine fst_hit (fun j hj => ?_) hi (by show (cmAt os i).is _ = true; rw [cmAt_eq hi, Cm.is_self])
        cases y : (cmAt os j).is os[i]
        · rfl
        · rw [cmAt_eq (by omega), Cm.is_iff] at y
          have hm : os[i] ∈ os.take i := by rw [← y]; exact List.mem_take_iff_getElem.2 ⟨j, by omega, rfl⟩
          rw [inCs_iff.2 hm] at x; cases x
      omega
    · rfl
  · intro h
    obtain ⟨j, hj, e⟩ := List.getElem_of_mem (inCs_iff.1 h)
    rw [List.length_take] at hj
    rw [List.getElem_take] at e
    by_cases hn : plV os os[i] < i
    · exact hn
    · exfalso
      have key : ∀ (p : Nat → Bool) (n m : Nat), m < n → p m = true → fstOf p n ≤ m := by
        intro p n m hm hp
        unfold fstOf
        cases hf : (List.range n).find? p with
        | none => simp only []; omega
        | some a =>
          simp only []
          obtain ⟨_, _, h3⟩ := List.find?_range_eq_some.1 hf
          by_cases hma : m < a
          · have := h3 m hma; rw [hp] at this; cases this
          · omega
      have := key (fun j => (cmAt os j).is os[i]) os.length j (by omega) (by show (cmAt os j).is _ = true; rw [cmAt_eq (by omega), e, Cm.is_self])
      unfold plV at hn
      omega

set_option maxHeartbeats 4000000 in
set_option maxRecDepth 100000 in
theorem askOf_any (ea : Option Addr) (ec : Nat) (es : List Evn) (c : Cm) (w : World) (hE : Evs w (.slice ea es.length ec) es) (hl : es.length ≤ 1048576) :
    Calls Try.prog 35 #[.slice ea es.length ec, .agg #[.int .i64 c.cl, .int .i64 c.sq, .int .i64 c.op, .string c.k, .string c.v, .string c.o]] w fun e w' => e = .returned (.int .i64 (askV 1 es c)) ∧ Below w.heap.size w w' := by
  have HE : Hid (Evs w (.slice ea es.length ec) es) := hE
  obtain ⟨F, hF⟩ : ∃ F, F = askV 1 es c := ⟨_, rfl⟩
  have HF : Hid (F = askV 1 es c) := hF
  rw [← hF]
  clear hF hE
  obtain ⟨W, hW⟩ : ∃ W, W = w.alloc (.cells #[.int .i64 c.cl, .int .i64 c.sq, .int .i64 c.op, .string c.k, .string c.v, .string c.o] 63) := ⟨_, rfl⟩
  have HB : Hid (Below w.heap.size w W) := by show Below _ _ _; rw [hW]; exact (Below.refl _ _).alloc (Nat.le_refl _) _
  have HC : Hid (Blk W w.heap.size #[.int .i64 c.cl, .int .i64 c.sq, .int .i64 c.op, .string c.k, .string c.v, .string c.o] 63) := by show Blk _ _ _ _; rw [hW]; exact Blk.new _ _ _
  have hz : W.heap.size = w.heap.size + 1 := by rw [hW]; simp
  go_enter Try.func35, Try.ntmps35
  go_upto_region 1 with fail
  rw [← hW]
  clear hW
  go_wp2
  go_loopw [5] (fun i wr => ∃ k : Nat, k ≤ es.length ∧ i = .int .i64 k ∧ (∀ j, j < k → hitK 1 (evAt es j) c = false) ∧ Below W.heap.size W wr) (fun i _ => es.length - (RowKit.intOf i).toNat)
  case atStart => exact ⟨0, Nat.zero_le _, rfl, by simp, Below.refl _ _⟩
  case round =>
    obtain ⟨k, hk, rfl, hA, hBw⟩ := hrel
    have HA : Hid (∀ j, j < k → hitK 1 (evAt es j) c = false) := hA
    have HBw : Hid (Below W.heap.size W wr) := hBw
    have hzw := hBw.size
    have hC := HC.out.below hBw (by omega)
    have c0 : wr.cell? ⟨w.heap.size, 0, none⟩ = some (.int .i64 c.cl) := hC.cell 0
    have c1 : wr.cell? ⟨w.heap.size, 1, none⟩ = some (.int .i64 c.sq) := hC.cell 1
    have c2 : wr.cell? ⟨w.heap.size, 2, none⟩ = some (.int .i64 c.op) := hC.cell 2
    have c3 : wr.cell? ⟨w.heap.size, 3, none⟩ = some (.string c.k) := hC.cell 3
    have c4 : wr.cell? ⟨w.heap.size, 4, none⟩ = some (.string c.v) := hC.cell 4
    have c5 : wr.cell? ⟨w.heap.size, 5, none⟩ = some (.string c.o) := hC.cell 5
    clear hA hBw hC
    by_cases hlt : k < es.length
    · obtain ⟨b, off, rfl, hr⟩ := ((HE.out.below HB.out).below HBw.out).at_ hlt
      have e0 : wr.cell? ⟨b, off + k * 9, none⟩ = some (.int .i64 es[k].kd) := hr k hlt 0 _ rfl
      have e1 : wr.cell? ⟨b, off + k * 9 + 1, none⟩ = some (.int .i64 es[k].c.cl) := hr k hlt 1 _ rfl
      have e2 : wr.cell? ⟨b, off + k * 9 + 2, none⟩ = some (.int .i64 es[k].c.sq) := hr k hlt 2 _ rfl
      have e3 : wr.cell? ⟨b, off + k * 9 + 3, none⟩ = some (.int .i64 es[k].c.op) := hr k hlt 3 _ rfl
      have e4 : wr.cell? ⟨b, off + k * 9 + 4, none⟩ = some (.string es[k].c.k) := hr k hlt 4 _ rfl
      have e5 : wr.cell? ⟨b, off + k * 9 + 5, none⟩ = some (.string es[k].c.v) := hr k hlt 5 _ rfl
      have e6 : wr.cell? ⟨b, off + k * 9 + 6, none⟩ = some (.string es[k].c.o) := hr k hlt 6 _ rfl
      have HH : Hid (hitK 1 (evAt es k) c = (decide (es[k].kd = 1) && es[k].c.is c)) := by show _ = _; rw [evAt_eq hlt]; rfl
      obtain ⟨⟨kd, d, cd, v⟩, he⟩ : ∃ e, e = es[k] := ⟨_, rfl⟩
      rw [← he] at e0 e1 e2 e3 e4 e5 e6 HH
      dsimp only at e0 e1 e2 e3 e4 e5 e6 HH
      clear he hr
      have hkl : (k : Int) < (es.length : Int) := by omega
      have hEq : ∀ u : World, (Op.equalIn 10000 63 (.agg #[.int .i64 d.cl, .int .i64 d.sq, .int .i64 d.op, .string d.k, .string d.v, .string d.o]) (.agg #[.int .i64 c.cl, .int .i64 c.sq, .int .i64 c.op, .string c.k, .string c.v, .string c.o])).run Try.prog u = .ok (d.is c) u := fun u => cm_eq_run d c u
      by_cases h1 : kd = 1
      · subst h1
        cases hdc : d.is c
        · have HN : Hid (∀ j, j < k + 1 → hitK 1 (evAt es j) c = false) := fun j hj => by
            by_cases e : j = k
            · subst e; rw [HH.out, hdc]; rfl
            · exact HA.out j (by omega)
          rw [hdc] at hEq
          clear hdc
          go_wp2_with fail
          go_quiet (fail)
          go_wp2
          go_roundw
          case rel => exact ⟨k + 1, by omega, by go_num, HN.out, below_dN HBw.out _⟩
          case measure => simp [RowKit.intOf]; omega
        · have HFk : Hid (F = k) := by show _ = _; rw [HF.out]; exact fst_hit HA.out hlt (by rw [HH.out, hdc]; rfl)
          rw [hdc] at hEq
          clear hdc
          go_wp2_with fail
          go_quiet (fail)
          go_wp2
          go_ret
          exact ⟨by rw [HFk.out]; rfl, HB.out.trans ((below_dN HBw.out _).mono (by omega))⟩
      · have h1b : (kd == 1) = false := by simpa using h1
        have HN : Hid (∀ j, j < k + 1 → hitK 1 (evAt es j) c = false) := fun j hj => by
          by_cases e : j = k
          · subst e; rw [HH.out]; simp [h1]
          · exact HA.out j (by omega)
        go_wp2_with fail
        go_quiet (fail)
        go_wp2
        go_roundw
        case rel => exact ⟨k + 1, by omega, by go_num, HN.out, below_dN HBw.out _⟩
        case measure => simp [RowKit.intOf]; omega
    · obtain rfl : k = es.length := by omega
      have HFk : Hid (F = -1) := by show _ = _; rw [HF.out]; exact fst_no HA.out
      go_wp2
      go_ret
      exact ⟨by rw [HFk.out]; rfl, HB.out.trans (HBw.out.mono (by omega))⟩

set_option maxHeartbeats 4000000 in
set_option maxRecDepth 100000 in
theorem replyOf_any (ea : Option Addr) (ec : Nat) (es : List Evn) (c : Cm) (w : World) (hE : Evs w (.slice ea es.length ec) es) (hl : es.length ≤ 1048576) :
    Calls Try.prog 37 #[.slice ea es.length ec, .agg #[.int .i64 c.cl, .int .i64 c.sq, .int .i64 c.op, .string c.k, .string c.v, .string c.o]] w fun e w' => e = .returned (.int .i64 (askV 2 es c)) ∧ Below w.heap.size w w' := by
  have HE : Hid (Evs w (.slice ea es.length ec) es) := hE
  obtain ⟨F, hF⟩ : ∃ F, F = askV 2 es c := ⟨_, rfl⟩
  have HF : Hid (F = askV 2 es c) := hF
  rw [← hF]
  clear hF hE
  obtain ⟨W, hW⟩ : ∃ W, W = w.alloc (.cells #[.int .i64 c.cl, .int .i64 c.sq, .int .i64 c.op, .string c.k, .string c.v, .string c.o] 63) := ⟨_, rfl⟩
  have HB : Hid (Below w.heap.size w W) := by show Below _ _ _; rw [hW]; exact (Below.refl _ _).alloc (Nat.le_refl _) _
  have HC : Hid (Blk W w.heap.size #[.int .i64 c.cl, .int .i64 c.sq, .int .i64 c.op, .string c.k, .string c.v, .string c.o] 63) := by show Blk _ _ _ _; rw [hW]; exact Blk.new _ _ _
  have hz : W.heap.size = w.heap.size + 1 := by rw [hW]; simp
  go_enter Try.func37, Try.ntmps37
  go_upto_region 1 with fail
  rw [← hW]
  clear hW
  go_wp2
  go_loopw [5] (fun i wr => ∃ k : Nat, k ≤ es.length ∧ i = .int .i64 k ∧ (∀ j, j < k → hitK 2 (evAt es j) c = false) ∧ Below W.heap.size W wr) (fun i _ => es.length - (RowKit.intOf i).toNat)
  case atStart => exact ⟨0, Nat.zero_le _, rfl, by simp, Below.refl _ _⟩
  case round =>
    obtain ⟨k, hk, rfl, hA, hBw⟩ := hrel
    have HA : Hid (∀ j, j < k → hitK 2 (evAt es j) c = false) := hA
    have HBw : Hid (Below W.heap.size W wr) := hBw
    have hzw := hBw.size
    have hC := HC.out.below hBw (by omega)
    have c0 : wr.cell? ⟨w.heap.size, 0, none⟩ = some (.int .i64 c.cl) := hC.cell 0
    have c1 : wr.cell? ⟨w.heap.size, 1, none⟩ = some (.int .i64 c.sq) := hC.cell 1
    have c2 : wr.cell? ⟨w.heap.size, 2, none⟩ = some (.int .i64 c.op) := hC.cell 2
    have c3 : wr.cell? ⟨w.heap.size, 3, none⟩ = some (.string c.k) := hC.cell 3
    have c4 : wr.cell? ⟨w.heap.size, 4, none⟩ = some (.string c.v) := hC.cell 4
    have c5 : wr.cell? ⟨w.heap.size, 5, none⟩ = some (.string c.o) := hC.cell 5
    clear hA hBw hC
    by_cases hlt : k < es.length
    · obtain ⟨b, off, rfl, hr⟩ := ((HE.out.below HB.out).below HBw.out).at_ hlt
      have e0 : wr.cell? ⟨b, off + k * 9, none⟩ = some (.int .i64 es[k].kd) := hr k hlt 0 _ rfl
      have e1 : wr.cell? ⟨b, off + k * 9 + 1, none⟩ = some (.int .i64 es[k].c.cl) := hr k hlt 1 _ rfl
      have e2 : wr.cell? ⟨b, off + k * 9 + 2, none⟩ = some (.int .i64 es[k].c.sq) := hr k hlt 2 _ rfl
      have e3 : wr.cell? ⟨b, off + k * 9 + 3, none⟩ = some (.int .i64 es[k].c.op) := hr k hlt 3 _ rfl
      have e4 : wr.cell? ⟨b, off + k * 9 + 4, none⟩ = some (.string es[k].c.k) := hr k hlt 4 _ rfl
      have e5 : wr.cell? ⟨b, off + k * 9 + 5, none⟩ = some (.string es[k].c.v) := hr k hlt 5 _ rfl
      have e6 : wr.cell? ⟨b, off + k * 9 + 6, none⟩ = some (.string es[k].c.o) := hr k hlt 6 _ rfl
      have HH : Hid (hitK 2 (evAt es k) c = (decide (es[k].kd = 2) && es[k].c.is c)) := by show _ = _; rw [evAt_eq hlt]; rfl
      obtain ⟨⟨kd, d, cd, v⟩, he⟩ : ∃ e, e = es[k] := ⟨_, rfl⟩
      rw [← he] at e0 e1 e2 e3 e4 e5 e6 HH
      dsimp only at e0 e1 e2 e3 e4 e5 e6 HH
      clear he hr
      have hkl : (k : Int) < (es.length : Int) := by omega
      have hEq : ∀ u : World, (Op.equalIn 10000 63 (.agg #[.int .i64 d.cl, .int .i64 d.sq, .int .i64 d.op, .string d.k, .string d.v, .string d.o]) (.agg #[.int .i64 c.cl, .int .i64 c.sq, .int .i64 c.op, .string c.k, .string c.v, .string c.o])).run Try.prog u = .ok (d.is c) u := fun u => cm_eq_run d c u
      by_cases h1 : kd = 2
      · subst h1
        cases hdc : d.is c
        · have HN : Hid (∀ j, j < k + 1 → hitK 2 (evAt es j) c = false) := fun j hj => by
            by_cases e : j = k
            · subst e; rw [HH.out, hdc]; rfl
            · exact HA.out j (by omega)
          rw [hdc] at hEq
          clear hdc
          go_wp2_with fail
          go_quiet (fail)
          go_wp2
          go_roundw
          case rel => exact ⟨k + 1, by omega, by go_num, HN.out, below_dN HBw.out _⟩
          case measure => simp [RowKit.intOf]; omega
        · have HFk : Hid (F = k) := by show _ = _; rw [HF.out]; exact fst_hit HA.out hlt (by rw [HH.out, hdc]; rfl)
          rw [hdc] at hEq
          clear hdc
          go_wp2_with fail
          go_quiet (fail)
          go_wp2
          go_ret
          exact ⟨by rw [HFk.out]; rfl, HB.out.trans ((below_dN HBw.out _).mono (by omega))⟩
      · have h1b : (kd == 2) = false := by simpa using h1
        have HN : Hid (∀ j, j < k + 1 → hitK 2 (evAt es j) c = false) := fun j hj => by
          by_cases e : j = k
          · subst e; rw [HH.out]; simp [h1]
          · exact HA.out j (by omega)
        go_wp2_with fail
        go_quiet (fail)
        go_wp2
        go_roundw
        case rel => exact ⟨k + 1, by omega, by go_num, HN.out, below_dN HBw.out _⟩
        case measure => simp [RowKit.intOf]; omega
    · obtain rfl : k = es.length := by omega
      have HFk : Hid (F = -1) := by show _ = _; rw [HF.out]; exact fst_no HA.out
      go_wp2
      go_ret
      exact ⟨by rw [HFk.out]; rfl, HB.out.trans (HBw.out.mono (by omega))⟩

set_option maxHeartbeats 4000000 in
set_option maxRecDepth 100000 in
theorem placeOf_any (oa : Option Addr) (oc : Nat) (os : List Cm) (c : Cm) (w : World) (hO : Cms w (.slice oa os.length oc) os) (hl : os.length ≤ 1048576) :
    Calls Try.prog 36 #[.slice oa os.length oc, .agg #[.int .i64 c.cl, .int .i64 c.sq, .int .i64 c.op, .string c.k, .string c.v, .string c.o]] w fun e w' => e = .returned (.int .i64 (plV os c)) ∧ Below w.heap.size w w' := by
  have HO : Hid (Cms w (.slice oa os.length oc) os) := hO
  obtain ⟨F, hF⟩ : ∃ F, F = plV os c := ⟨_, rfl⟩
  have HF : Hid (F = plV os c) := hF
  rw [← hF]
  clear hF hO
  obtain ⟨W, hW⟩ : ∃ W, W = w.alloc (.cells #[.int .i64 c.cl, .int .i64 c.sq, .int .i64 c.op, .string c.k, .string c.v, .string c.o] 63) := ⟨_, rfl⟩
  have HB : Hid (Below w.heap.size w W) := by show Below _ _ _; rw [hW]; exact (Below.refl _ _).alloc (Nat.le_refl _) _
  have HC : Hid (Blk W w.heap.size #[.int .i64 c.cl, .int .i64 c.sq, .int .i64 c.op, .string c.k, .string c.v, .string c.o] 63) := by show Blk _ _ _ _; rw [hW]; exact Blk.new _ _ _
  have hz : W.heap.size = w.heap.size + 1 := by rw [hW]; simp
  go_enter Try.func36, Try.ntmps36
  go_upto_region 1 with fail
  rw [← hW]
  clear hW
  go_wp2
  go_loopw [5] (fun i wr => ∃ k : Nat, k ≤ os.length ∧ i = .int .i64 k ∧ (∀ j, j < k → (cmAt os j).is c = false) ∧ Below W.heap.size W wr) (fun i _ => os.length - (RowKit.intOf i).toNat)
  case atStart => exact ⟨0, Nat.zero_le _, rfl, by simp, Below.refl _ _⟩
  case round =>
    obtain ⟨k, hk, rfl, hA, hBw⟩ := hrel
    have HA : Hid (∀ j, j < k → (cmAt os j).is c = false) := hA
    have HBw : Hid (Below W.heap.size W wr) := hBw
    have hzw := hBw.size
    have hC := HC.out.below hBw (by omega)
    have c0 : wr.cell? ⟨w.heap.size, 0, none⟩ = some (.int .i64 c.cl) := hC.cell 0
    have c1 : wr.cell? ⟨w.heap.size, 1, none⟩ = some (.int .i64 c.sq) := hC.cell 1
    have c2 : wr.cell? ⟨w.heap.size, 2, none⟩ = some (.int .i64 c.op) := hC.cell 2
    have c3 : wr.cell? ⟨w.heap.size, 3, none⟩ = some (.string c.k) := hC.cell 3
    have c4 : wr.cell? ⟨w.heap.size, 4, none⟩ = some (.string c.v) := hC.cell 4
    have c5 : wr.cell? ⟨w.heap.size, 5, none⟩ = some (.string c.o) := hC.cell 5
    clear hA hBw hC
    by_cases hlt : k < os.length
    · obtain ⟨b, off, rfl, hr⟩ := ((HO.out.below HB.out).below HBw.out).at_ hlt
      have e0 : wr.cell? ⟨b, off + k * 6, none⟩ = some (.int .i64 os[k].cl) := hr k hlt 0 _ rfl
      have e1 : wr.cell? ⟨b, off + k * 6 + 1, none⟩ = some (.int .i64 os[k].sq) := hr k hlt 1 _ rfl
      have e2 : wr.cell? ⟨b, off + k * 6 + 2, none⟩ = some (.int .i64 os[k].op) := hr k hlt 2 _ rfl
      have e3 : wr.cell? ⟨b, off + k * 6 + 3, none⟩ = some (.string os[k].k) := hr k hlt 3 _ rfl
      have e4 : wr.cell? ⟨b, off + k * 6 + 4, none⟩ = some (.string os[k].v) := hr k hlt 4 _ rfl
      have e5 : wr.cell? ⟨b, off + k * 6 + 5, none⟩ = some (.string os[k].o) := hr k hlt 5 _ rfl
      have HH : Hid ((cmAt os k).is c = os[k].is c) := by show _ = _; rw [cmAt_eq hlt]
      obtain ⟨d, he⟩ : ∃ e, e = os[k] := ⟨_, rfl⟩
      rw [← he] at e0 e1 e2 e3 e4 e5 HH
      clear he hr
      have hkl : (k : Int) < (os.length : Int) := by omega
      have hEq : ∀ u : World, (Op.equalIn 10000 63 (.agg #[.int .i64 d.cl, .int .i64 d.sq, .int .i64 d.op, .string d.k, .string d.v, .string d.o]) (.agg #[.int .i64 c.cl, .int .i64 c.sq, .int .i64 c.op, .string c.k, .string c.v, .string c.o])).run Try.prog u = .ok (d.is c) u := fun u => cm_eq_run d c u
      cases hdc : d.is c
      · have HN : Hid (∀ j, j < k + 1 → (cmAt os j).is c = false) := fun j hj => by
          by_cases e : j = k
          · subst e; rw [HH.out, hdc]
          · exact HA.out j (by omega)
        rw [hdc] at hEq
        clear hdc
        go_wp2_with fail
        go_quiet (fail)
        go_wp2
        go_roundw
        case rel => exact ⟨k + 1, by omega, by go_num, HN.out, below_dN HBw.out _⟩
        case measure => simp [RowKit.intOf]; omega
      · have HFk : Hid (F = k) := by show _ = _; rw [HF.out]; exact fst_hit HA.out hlt (by show (cmAt os k).is c = true; rw [HH.out, hdc])
        rw [hdc] at hEq
        clear hdc
        go_wp2_with fail
        go_quiet (fail)
        go_wp2
        go_ret
        exact ⟨by rw [HFk.out]; rfl, HB.out.trans ((below_dN HBw.out _).mono (by omega))⟩
    · obtain rfl : k = os.length := by omega
      have HFk : Hid (F = -1) := by show _ = _; rw [HF.out]; exact fst_no HA.out
      go_wp2
      go_ret
      exact ⟨by rw [HFk.out]; rfl, HB.out.trans (HBw.out.mono (by omega))⟩
end Go.Proofs.Ytnoihfincifphaa
