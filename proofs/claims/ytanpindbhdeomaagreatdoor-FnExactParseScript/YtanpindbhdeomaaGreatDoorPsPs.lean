/-
  spec.ParseScript.
-/
import Derived.Test.YtanpindbhdeomaaGreatDoorPsQ
namespace Go.Proofs.YtanpindbhdeomaaGreatDoor
open Go.RowKit
set_option linter.unusedVariables false
set_option linter.unusedSimpArgs false

theorem sizeAnP : (Tryz.prog.info? 29).map (·.size) = some 10 := by kernel_rfl
/-- what an answer is in memory -/
def AnP (q : Int × Nat × Scr) (e : Ending) (w : World) (B : Nat) : Prop :=
  ∃ (ad : Option Addr) (nd cd : Nat) (av : Option Addr) (nv cv : Nat), e = .returned (.agg #[.int .i64 q.1, .int .i64 (q.2.1 : Int), .int .i64 q.2.2.u.s, .int .i64 q.2.2.u.c, .int .i64 q.2.2.u.el, .int .i64 q.2.2.u.b, .int .i64 q.2.2.u.r, .int .i64 q.2.2.u.d, .slice ad nd cd, .slice av nv cv]) ∧ OwnG inC 1 3 w B (.slice ad nd cd) q.2.2.ds ∧ OwnG stC 10 48 w B (.slice av nv cv) q.2.2.ss
theorem AnP.zero (c : Int) (l : Nat) (w : World) (B : Nat) : AnP (c, l, scr0) (.returned (.agg #[.int .i64 c, .int .i64 (l : Int), .int .i64 0, .int .i64 0, .int .i64 0, .int .i64 0, .int .i64 0, .int .i64 0, .slice none 0 0, .slice none 0 0])) w B :=
  ⟨none, 0, 0, none, 0, 0, rfl, OwnG.nil _ _ _ _ _, OwnG.nil _ _ _ _ _⟩
/-- on the way -/
structure PI (t : List UInt8) (LQ : Int × Nat × Scr) (w wr : World) (k f i : Nat) (x : Scr) (ad : Option Addr) (nd cd : Nat) (av : Option Addr) (nv cv : Nat) : Prop where
  fi : f ≤ i
  il : i ≤ t.length
  ki : k ≤ i
  eq : linesQ k x (splA 10 ((t.take i).drop f) (t.drop i)).dropLast = LQ
  b2 : Blk wr w.heap.size #[.int .i64 0, .int .i64 0, .int .i64 0, .int .i64 0, .int .i64 0, .int .i64 0, .int .i64 0, .int .i64 0, .slice none 0 0, .slice none 0 0] 29
  b3 : Blk wr (w.heap.size + 1) #[.int .i64 x.u.s, .int .i64 x.u.c, .int .i64 x.u.el, .int .i64 x.u.b, .int .i64 x.u.r, .int .i64 x.u.d, .slice ad nd cd, .slice av nv cv] 27
  d : OwnG inC 1 3 wr w.heap.size (.slice ad nd cd) x.ds
  s : OwnG stC 10 48 wr w.heap.size (.slice av nv cv) x.ss
  sl : x.ss.length ≤ 4096
  bl : Below w.heap.size w wr
  z : w.heap.size + 2 ≤ wr.heap.size
section
variable {t : List UInt8} {LQ : Int × Nat × Scr} {w wr : World} {k f i : Nat} {x : Scr} {ad : Option Addr} {nd cd : Nat} {av : Option Addr} {nv cv : Nat}
theorem PI.more (h : PI t LQ w wr k f i x ad nd cd av nv cv) (hi : i < t.length) (h1 : t[i] ≠ 10) : PI t LQ w wr k f (i + 1) x ad nd cd av nv cv :=
  { h with
    fi := by have := h.fi; omega
    il := by omega
    ki := by have := h.ki; omega
    eq := by
      rw [← h.eq, List.drop_eq_getElem_cons hi, splA, if_neg h1]
      have : (t.take (i + 1)).drop f = (t.take i).drop f ++ [t[i]] := by
        rw [List.take_succ_eq_append_getElem hi, List.drop_append_of_le_length (by rw [List.length_take_of_le h.il]; exact h.fi)]
      rw [this] }
theorem PI.line (h : PI t LQ w wr k f i x ad nd cd av nv cv) (hi : i < t.length) (h1 : t[i] = 10) :
    LQ = if (lineQ (k + 1) x ((t.take i).drop f)).1 = 0 then linesQ (k + 1) (lineQ (k + 1) x ((t.take i).drop f)).2 (splA 10 ((t.take (i + 1)).drop (i + 1)) (t.drop (i + 1))).dropLast else ((lineQ (k + 1) x ((t.take i).drop f)).1, k + 1, x) := by
  rw [← h.eq, List.drop_eq_getElem_cons hi, splA, if_pos h1, List.dropLast_cons_of_ne_nil (spl_ne 10 _ _), linesQ]
  have : (t.take (i + 1)).drop (i + 1) = [] := List.drop_of_length_le (by rw [List.length_take]; omega)
  rw [this]
theorem PI.last (h : PI t LQ w wr k f t.length x ad nd cd av nv cv) : LQ = (0, k, x) := by
  rw [← h.eq, List.drop_length]
  rfl
end
theorem set8_keep (w : World) (b : Nat) (v0 v1 v2 v3 v4 v5 v6 v7 : Value) (q : Nat) (h : q ≠ b) : ((((((((w.setCell ⟨b, 0, none⟩ v0).setCell ⟨b, 1, none⟩ v1).setCell ⟨b, 2, none⟩ v2).setCell ⟨b, 3, none⟩ v3).setCell ⟨b, 4, none⟩ v4).setCell ⟨b, 5, none⟩ v5).setCell ⟨b, 6, none⟩ v6).setCell ⟨b, 7, none⟩ v7).heap[q]? = w.heap[q]? :=
  ((((((((Below.heap_setCell _ _ _ _ h).trans (Below.heap_setCell _ _ _ _ h)).trans (Below.heap_setCell _ _ _ _ h)).trans (Below.heap_setCell _ _ _ _ h)).trans (Below.heap_setCell _ _ _ _ h)).trans (Below.heap_setCell _ _ _ _ h)).trans (Below.heap_setCell _ _ _ _ h)).trans (Below.heap_setCell _ _ _ _ h))
theorem below_set8 {B : Nat} {w0 w : World} {b : Nat} (hb : Below B w0 w) (h : B ≤ b) (v0 v1 v2 v3 v4 v5 v6 v7 : Value) : Below B w0 ((((((((w.setCell ⟨b, 0, none⟩ v0).setCell ⟨b, 1, none⟩ v1).setCell ⟨b, 2, none⟩ v2).setCell ⟨b, 3, none⟩ v3).setCell ⟨b, 4, none⟩ v4).setCell ⟨b, 5, none⟩ v5).setCell ⟨b, 6, none⟩ v6).setCell ⟨b, 7, none⟩ v7) :=
  (((((((hb.setCell (p := ⟨b, 0, none⟩) h v0).setCell (p := ⟨b, 1, none⟩) h v1).setCell (p := ⟨b, 2, none⟩) h v2).setCell (p := ⟨b, 3, none⟩) h v3).setCell (p := ⟨b, 4, none⟩) h v4).setCell (p := ⟨b, 5, none⟩) h v5).setCell (p := ⟨b, 6, none⟩) h v6).setCell (p := ⟨b, 7, none⟩) h v7
set_option maxHeartbeats 4000000 in
set_option maxRecDepth 100000 in
theorem sParseScript_any (t : List UInt8) (w : World) :
    Calls Tryz.prog 4 #[.string (sOf t)] w fun e w' => AnP (parseQ t) e w' w.heap.size ∧ Below w.heap.size w w' := by
  obtain ⟨S, hS⟩ : ∃ S, S = sOf t := ⟨_, rfl⟩
  have hss : S.size = t.length := by rw [hS, sOf_size]
  have HI : Hid (∀ k, (h : k < t.length) → ∀ u : World, (Instr.index 9 (.string S) (.int .i64 (k : Int))).run Tryz.prog u = .ok (.int .u8 (t[k].toNat : Int)) u) := fun k h u => by
    have h1 : (sOf t).data.toList = t := list_sOf t
    have h2 := idx_run S (k := k) (by rw [hS, h1]; exact h) u
    simpa [hS, h1] using h2
  have HX : Hid (∀ f i, S.extract f i = sOf ((t.take i).drop f)) := fun f i => by rw [hS]; exact ext_sOf t f i
  rw [← hS]
  clear hS
  obtain ⟨PQ, hPQ⟩ : ∃ q, q = parseQ t := ⟨_, rfl⟩
  rw [← hPQ]
  have HPQ : Hid (PQ = parseQ t) := hPQ
  clear hPQ
  have G1 : Hid True := trivial
  have G2 : Hid True := trivial
  have G3 : Hid True := trivial
  by_cases h1 : 65536 < t.length
  · have h1i : (65536 : Int) < (t.length : Int) := by omega
    have hq : PQ = (1, 0, scr0) := by rw [HPQ.out]; unfold parseQ; rw [if_pos h1]
    subst hq
    clear HPQ
    go_enter Tryz.func4, Tryz.ntmps4
    go_wp2_with (first
      | (have hBA := G1; refine gate_st 29 (.tmp 2) _ rfl ?_; clear hBA; refine wpl_store_last rfl 29 (.tmp 2) _ rfl w.heap.size rfl rfl rfl sizeAnP rfl rfl (by simp [Value.oneCell']) ?_; clear G1))
    have cb := (Blk.new w #[.int .i64 1, .int .i64 0, .int .i64 0, .int .i64 0, .int .i64 0, .int .i64 0, .int .i64 0, .int .i64 0, .slice none 0 0, .slice none 0 0] 29).cell
    exact bodyPost_ret (v := .agg #[.int .i64 1, .int .i64 0, .int .i64 0, .int .i64 0, .int .i64 0, .int .i64 0, .int .i64 0, .int .i64 0, .slice none 0 0, .slice none 0 0]) (by simp [results, Tryz.results4, go_sem, cb]) rfl ⟨AnP.zero 1 0 _ _, (Below.refl _ _).alloc (Nat.le_refl _) _⟩
  have h1i : ¬ (65536 : Int) < (t.length : Int) := by omega
  have HP2 : Hid (PQ = if t.getLast? ≠ some 10 then (2, 0, scr0) else if (linesQ 0 scr0 (spl 10 t.dropLast)).1 ≠ 0 then ((linesQ 0 scr0 (spl 10 t.dropLast)).1, (linesQ 0 scr0 (spl 10 t.dropLast)).2.1, scr0) else if (linesQ 0 scr0 (spl 10 t.dropLast)).2.1 < 2 then (8, (linesQ 0 scr0 (spl 10 t.dropLast)).2.1, scr0) else (0, 0, (linesQ 0 scr0 (spl 10 t.dropLast)).2.2)) := by unfold Hid; rw [HPQ.out]; unfold parseQ; rw [if_neg h1]
  clear HPQ
  by_cases ht0 : t = []
  · have hq : PQ = (2, 0, scr0) := by rw [HP2.out, ht0]; rfl
    subst hq
    have hss0 : S.size = 0 := by rw [hss, ht0]; rfl
    clear HP2 HI HX hss
    go_enter Tryz.func4, Tryz.ntmps4
    go_wp2_with (first
      | (have hBA := G1; refine gate_st 29 (.tmp 2) _ rfl ?_; clear hBA; refine wpl_store_last rfl 29 (.tmp 2) _ rfl w.heap.size rfl rfl rfl sizeAnP rfl rfl (by simp [Value.oneCell']) ?_; clear G1))
    have cb := (Blk.new w #[.int .i64 2, .int .i64 0, .int .i64 0, .int .i64 0, .int .i64 0, .int .i64 0, .int .i64 0, .int .i64 0, .slice none 0 0, .slice none 0 0] 29).cell
    exact bodyPost_ret (v := .agg #[.int .i64 2, .int .i64 0, .int .i64 0, .int .i64 0, .int .i64 0, .int .i64 0, .int .i64 0, .int .i64 0, .slice none 0 0, .slice none 0 0]) (by simp [results, Tryz.results4, go_sem, cb]) rfl ⟨AnP.zero 2 0 _ _, (Below.refl _ _).alloc (Nat.le_refl _) _⟩
  have hpos : 0 < t.length := List.length_pos_iff.2 ht0
  obtain ⟨m, hm⟩ : ∃ m, t.length = m + 1 := ⟨t.length - 1, by omega⟩
  have hgl : t.getLast? = some (t[m]'(by omega)) := by
    have e0 : t.length - 1 = m := by omega
    rw [List.getLast?_eq_getElem?, e0, List.getElem?_eq_getElem (by omega)]
  have him := HI.out m (by omega)
  have hne0 : ¬ (t.length : Int) = 0 := by omega
  have hmw : IntKind.i64.wrap ((m : Int) + 1 - 1) = (m : Int) := by simp [IntKind.wrap, IntKind.bits, IntKind.signed]; omega
  have hssm : S.size = m + 1 := hss.trans hm
  have hm0 : ¬ ((m : Int) + 1 = 0) := by omega
  have hmi : ¬ (65536 : Int) < (m : Int) + 1 := by omega
  have hmn : ¬ 65536 < m + 1 := by omega
  by_cases h10 : t[m]'(by omega) = 10
  case neg =>
    have hq : PQ = (2, 0, scr0) := by rw [HP2.out, if_pos (by rw [hgl]; simpa using h10)]
    subst hq
    have hne : ¬ ((t[m]'(by omega)).toNat : Int) = 10 := fun e => h10 (UInt8.toNat_inj.1 (by show (t[m]'(by omega)).toNat = 10; omega))
    have hne' : (((t[m]'(by omega)).toNat : Int) == 10) = false := by rw [beq_eq_false_iff_ne]; exact hne
    have hne2 : (((t[m]'(by omega)).toNat : Int) != 10) = true := by rw [bne, hne']; rfl
    have hm2 : ((m : Int) + 1 == 0) = false := by rw [beq_eq_false_iff_ne]; omega
    generalize ((t[m]'(by omega)).toNat : Int) = X at *
    clear HP2 HI HX hss hgl h10 h1i hne0
    go_enter Tryz.func4, Tryz.ntmps4
    go_wp2_with (first
      | (have hBA := G1; refine gate_st 29 (.tmp 2) _ rfl ?_; clear hBA; refine wpl_store_last rfl 29 (.tmp 2) _ rfl w.heap.size rfl rfl rfl sizeAnP rfl rfl (by simp [Value.oneCell']) ?_; clear G1))
    have cb := (Blk.new w #[.int .i64 2, .int .i64 0, .int .i64 0, .int .i64 0, .int .i64 0, .int .i64 0, .int .i64 0, .int .i64 0, .slice none 0 0, .slice none 0 0] 29).cell
    exact bodyPost_ret (v := .agg #[.int .i64 2, .int .i64 0, .int .i64 0, .int .i64 0, .int .i64 0, .int .i64 0, .int .i64 0, .int .i64 0, .slice none 0 0, .slice none 0 0]) (by simp [results, Tryz.results4, go_sem, cb]) rfl ⟨AnP.zero 2 0 _ _, (Below.refl _ _).alloc (Nat.le_refl _) _⟩
  have e10 : ((t[m]'(by omega)).toNat : Int) = 10 := by rw [h10]; rfl
  rw [e10] at him
  have hsp : (spl 10 t).dropLast = spl 10 t.dropLast := by
    have ht : t = t.dropLast ++ [10] := by
      have h9 := List.dropLast_concat_getLast ht0
      have h8 : t.getLast ht0 = 10 := by
        have h7 := List.getLast?_eq_some_getLast ht0
        rw [hgl, h10] at h7
        exact (Option.some.inj h7).symm
      rw [h8] at h9
      exact h9.symm
    have h8 : spl 10 t = spl 10 t.dropLast ++ [[]] := by
      conv => lhs; rw [ht]
      exact splA_end 10 _ []
    rw [h8, List.dropLast_append_of_ne_nil (by simp)]
    simp
  have HP3 : Hid (∀ LQ, linesQ 0 scr0 (spl 10 t).dropLast = LQ → PQ = if LQ.1 ≠ 0 then (LQ.1, LQ.2.1, scr0) else if LQ.2.1 < 2 then (8, LQ.2.1, scr0) else (0, 0, LQ.2.2)) := fun LQ h => by
    rw [← h, hsp, HP2.out, if_neg (by rw [hgl, h10]; simp)]
  obtain ⟨LQ, hLQ⟩ : ∃ q, q = linesQ 0 scr0 (spl 10 t).dropLast := ⟨_, rfl⟩
  have HPL : Hid (PQ = if LQ.1 ≠ 0 then (LQ.1, LQ.2.1, scr0) else if LQ.2.1 < 2 then (8, LQ.2.1, scr0) else (0, 0, LQ.2.2)) := HP3.out LQ hLQ.symm
  have HLQ : Hid (linesQ 0 scr0 (spl 10 t).dropLast = LQ) := hLQ.symm
  have HM : Hid (t.length = m + 1 ∧ t.length ≤ 65536) := ⟨hm, by omega⟩
  clear HP2 HP3 hLQ hsp hgl h10 e10 hne0 h1i hm hss h1 ht0 hpos
  go_enter Tryz.func4, Tryz.ntmps4
  go_wp2
  have HS0 : Hid (PI t LQ w ((w.alloc (.cells #[.int .i64 0, .int .i64 0, .int .i64 0, .int .i64 0, .int .i64 0, .int .i64 0, .int .i64 0, .int .i64 0, .slice none 0 0, .slice none 0 0] 29)).alloc (.cells #[.int .i64 0, .int .i64 0, .int .i64 0, .int .i64 0, .int .i64 0, .int .i64 0, .slice none 0 0, .slice none 0 0] 27)) 0 0 0 scr0 none 0 0 none 0 0) := ⟨Nat.le_refl _, Nat.zero_le _, Nat.le_refl _, by simpa [spl] using HLQ.out, (Blk.new _ _ _).alloc _, Blk.new' _ _ _ (by simp), OwnG.nil _ _ _ _ _, OwnG.nil _ _ _ _ _, Nat.zero_le _, ((Below.refl _ _).alloc (Nat.le_refl _) _).alloc (by simp) _, by simp⟩
  go_loopw [4, 5, 6] (fun kv fv iv wr => ∃ (k f i : Nat) (x : Scr) (ad : Option Addr) (nd cd : Nat) (av : Option Addr) (nv cv : Nat), kv = .int .i64 k ∧ fv = .int .i64 f ∧ iv = .int .i64 i ∧ PI t LQ w wr k f i x ad nd cd av nv cv) (fun _ _ iv _ => t.length - (intOf iv).toNat)
  case atStart => exact ⟨0, 0, 0, scr0, none, 0, 0, none, 0, 0, rfl, rfl, rfl, HS0.out⟩
  case round =>
    obtain ⟨k, f, i, x, ad, nd, cd, av, nv, cv, rfl, rfl, rfl, hI⟩ := hrel
    have HII : Hid (PI t LQ w wr k f i x ad nd cd av nv cv) := hI
    have hfi := hI.fi
    have hil := hI.il
    have hki := hI.ki
    have hzz := hI.z
    clear hI HS0 him hmw hm0 hmi hmn
    by_cases hlt : i < t.length
    · have hix := HI.out i hlt
      have hli : (i : Int) < (m : Int) + 1 := by have := HM.out.1; omega
      have hi9 : i ≤ 65536 := by have := HM.out.2; omega
      by_cases h10 : t[i] = 10
      · have HLn : Hid (LQ = _) := HII.out.line hlt h10
        have e10 : (t[i].toNat : Int) = 10 := by rw [h10]; rfl
        rw [e10] at hix
        have hx := HX.out f i
        have hll : ((t.take i).drop f).length ≤ 65536 := by rw [List.length_drop, List.length_take]; omega
        have HCl : Hid (∀ z, Below wr.heap.size wr z → Calls Tryz.prog 9 #[.agg #[.int .i64 x.u.s, .int .i64 x.u.c, .int .i64 x.u.el, .int .i64 x.u.b, .int .i64 x.u.r, .int .i64 x.u.d, .slice ad nd cd, .slice av nv cv], .int .i64 ((k : Int) + 1), .string (sOf ((t.take i).drop f))] z fun e w' => ∃ (U : Sup) (ad' : Option Addr) (nd' cd' : Nat) (av' : Option Addr) (nv' cv' : Nat), e = .returned (.tuple #[.agg #[.int .i64 U.s, .int .i64 U.c, .int .i64 U.el, .int .i64 U.b, .int .i64 U.r, .int .i64 U.d, .slice ad' nd' cd', .slice av' nv' cv'], .int .i64 (lineQ (k + 1) x ((t.take i).drop f)).1]) ∧ ((lineQ (k + 1) x ((t.take i).drop f)).1 = 0 → U = (lineQ (k + 1) x ((t.take i).drop f)).2.u ∧ OwnG inC 1 3 w' w.heap.size (.slice ad' nd' cd') (lineQ (k + 1) x ((t.take i).drop f)).2.ds ∧ OwnG stC 10 48 w' w.heap.size (.slice av' nv' cv') (lineQ (k + 1) x ((t.take i).drop f)).2.ss ∧ (lineQ (k + 1) x ((t.take i).drop f)).2.ss.length ≤ 4096) ∧ Grew z (.slice av nv cv) w' (.slice av' nv' cv')) := fun z hz => by
          have h9 := l7line_one (k + 1) (by omega) (by omega) x _ _ ((t.take i).drop f) hll z w.heap.size (by have := hz.size; omega) (HII.out.d.below hz) (HII.out.s.below hz) HII.out.sl
          rw [show ((k + 1 : Nat) : Int) = (k : Int) + 1 by omega] at h9
          exact h9
        have B2 : Hid (Blk wr w.heap.size #[.int .i64 0, .int .i64 0, .int .i64 0, .int .i64 0, .int .i64 0, .int .i64 0, .int .i64 0, .int .i64 0, .slice none 0 0, .slice none 0 0] 29) := HII.out.b2
        have B3 : Hid (Blk wr (w.heap.size + 1) #[.int .i64 x.u.s, .int .i64 x.u.c, .int .i64 x.u.el, .int .i64 x.u.b, .int .i64 x.u.r, .int .i64 x.u.d, .slice ad nd cd, .slice av nv cv] 27) := HII.out.b3
        have c0 : wr.cell? ⟨w.heap.size + 1, 0, none⟩ = some (.int .i64 x.u.s) := B3.out.cell 0
        have c1 : wr.cell? ⟨w.heap.size + 1, 1, none⟩ = some (.int .i64 x.u.c) := B3.out.cell 1
        have c2 : wr.cell? ⟨w.heap.size + 1, 2, none⟩ = some (.int .i64 x.u.el) := B3.out.cell 2
        have c3 : wr.cell? ⟨w.heap.size + 1, 3, none⟩ = some (.int .i64 x.u.b) := B3.out.cell 3
        have c4 : wr.cell? ⟨w.heap.size + 1, 4, none⟩ = some (.int .i64 x.u.r) := B3.out.cell 4
        have c5 : wr.cell? ⟨w.heap.size + 1, 5, none⟩ = some (.int .i64 x.u.d) := B3.out.cell 5
        have c6 : wr.cell? ⟨w.heap.size + 1, 6, none⟩ = some (.slice ad nd cd) := B3.out.cell 6
        have c7 : wr.cell? ⟨w.heap.size + 1, 7, none⟩ = some (.slice av nv cv) := B3.out.cell 7
        have hlr : w.heap.size + 1 < wr.heap.size := B3.out.lt
        have hfi' : (f : Int) ≤ (i : Int) := by omega
        have hil2 : (i : Int) ≤ (m : Int) + 1 := by omega
        have hkw : IntKind.i64.wrap ((k : Int) + 1) = (k : Int) + 1 := by simp [IntKind.wrap, IntKind.bits, IntKind.signed]; omega
        obtain ⟨lq, hlq⟩ : ∃ q, q = lineQ (k + 1) x ((t.take i).drop f) := ⟨_, rfl⟩
        rw [← hlq] at HCl HLn
        obtain ⟨lc, lx⟩ := lq
        dsimp only at HCl HLn
        have hne : ∀ j, (Value.slice av nv cv).ownBlock = some j → j < wr.heap.size ∧ j ≠ w.heap.size ∧ j ≠ w.heap.size + 1 := fun j hj => ⟨(HII.out.s.lts j hj).2, fun e => own_neBlk HII.out.s HII.out.b2 (by decide) (by rw [hj, e]), fun e => own_neBlk HII.out.s HII.out.b3 (by decide) (by rw [hj, e])⟩
        have HNe : Hid (∀ j, (Value.slice av nv cv).ownBlock = some j → j < wr.heap.size ∧ j ≠ w.heap.size ∧ j ≠ w.heap.size + 1) := hne
        clear hne hlq e10 h10 hlt hil
        generalize sOf ((t.take i).drop f) = LS at *
        go_wp2
        go_cut [7, 8] (fun s7 s8 wx => ∃ (U : Sup) (ad' : Option Addr) (nd' cd' : Nat) (av' : Option Addr) (nv' cv' : Nat) (b : Nat), s7 = .pointer (some ⟨b, 0, none⟩) ∧ s8 = .int .i64 lc ∧ Blk wx b #[.int .i64 U.s, .int .i64 U.c, .int .i64 U.el, .int .i64 U.b, .int .i64 U.r, .int .i64 U.d, .slice ad' nd' cd', .slice av' nv' cv'] 27 ∧ b ≠ w.heap.size ∧ b ≠ w.heap.size + 1 ∧ (lc = 0 → U = lx.u ∧ OwnG inC 1 3 wx w.heap.size (.slice ad' nd' cd') lx.ds ∧ OwnG stC 10 48 wx w.heap.size (.slice av' nv' cv') lx.ss ∧ lx.ss.length ≤ 4096) ∧ Blk wx w.heap.size #[.int .i64 0, .int .i64 0, .int .i64 0, .int .i64 0, .int .i64 0, .int .i64 0, .int .i64 0, .int .i64 0, .slice none 0 0, .slice none 0 0] 29 ∧ Blk wx (w.heap.size + 1) #[.int .i64 x.u.s, .int .i64 x.u.c, .int .i64 x.u.el, .int .i64 x.u.b, .int .i64 x.u.r, .int .i64 x.u.d, .slice ad nd cd, .slice av nv cv] 27 ∧ Below w.heap.size w wx ∧ w.heap.size + 2 ≤ wx.heap.size)
        case first =>
          go_region_held3 (fun w' => w'.cell? ⟨w.heap.size + 1, 0, none⟩ = some (.int .i64 x.u.s) ∧ w'.cell? ⟨w.heap.size + 1, 1, none⟩ = some (.int .i64 x.u.c) ∧ w'.cell? ⟨w.heap.size + 1, 2, none⟩ = some (.int .i64 x.u.el) ∧ w'.cell? ⟨w.heap.size + 1, 3, none⟩ = some (.int .i64 x.u.b) ∧ w'.cell? ⟨w.heap.size + 1, 4, none⟩ = some (.int .i64 x.u.r) ∧ w'.cell? ⟨w.heap.size + 1, 5, none⟩ = some (.int .i64 x.u.d) ∧ w'.cell? ⟨w.heap.size + 1, 6, none⟩ = some (.slice ad nd cd) ∧ w'.cell? ⟨w.heap.size + 1, 7, none⟩ = some (.slice av nv cv)) (simp [*, go_sem])
            (first
              | (go_at_call 9; refine Calls.mono (HCl.out _ (by first | exact (Below.refl wr.heap.size wr).drew.alloc (Nat.le_refl _) _ | exact ((Below.refl wr.heap.size wr).alloc (Nat.le_refl _) _).drew | exact (Below.refl wr.heap.size wr).alloc (Nat.le_refl _) _)) ?_; rintro e w5 ⟨U, ad', nd', cd', av', nv', cv', rfl, hT, hg⟩; have HT5 : Hid (lc = 0 → U = lx.u ∧ OwnG inC 1 3 w5 w.heap.size (.slice ad' nd' cd') lx.ds ∧ OwnG stC 10 48 w5 w.heap.size (.slice av' nv' cv') lx.ss ∧ lx.ss.length ≤ 4096) := hT; have HG5 : Hid (Grew _ (.slice av nv cv) w5 (.slice av' nv' cv')) := hg; clear hT hg; have B25 : Hid (Blk w5 w.heap.size #[.int .i64 0, .int .i64 0, .int .i64 0, .int .i64 0, .int .i64 0, .int .i64 0, .int .i64 0, .int .i64 0, .slice none 0 0, .slice none 0 0] 29) := (HG5.out.g.block _ (by simp <;> omega) (fun e => (HNe.out _ e.symm).2.1 rfl)).trans (by first | exact B2.out.alloc _ | exact (B2.out.alloc _).drew); have B35 : Hid (Blk w5 (w.heap.size + 1) #[.int .i64 x.u.s, .int .i64 x.u.c, .int .i64 x.u.el, .int .i64 x.u.b, .int .i64 x.u.r, .int .i64 x.u.d, .slice ad nd cd, .slice av nv cv] 27) := (HG5.out.g.block _ (by simp <;> omega) (fun e => (HNe.out _ e.symm).2.2 rfl)).trans (by first | exact B3.out.alloc _ | exact (B3.out.alloc _).drew); have z0 : w5.cell? ⟨w.heap.size + 1, 0, none⟩ = some (.int .i64 x.u.s) := B35.out.cell 0; have z1 : w5.cell? ⟨w.heap.size + 1, 1, none⟩ = some (.int .i64 x.u.c) := B35.out.cell 1; have z2 : w5.cell? ⟨w.heap.size + 1, 2, none⟩ = some (.int .i64 x.u.el) := B35.out.cell 2; have z3 : w5.cell? ⟨w.heap.size + 1, 3, none⟩ = some (.int .i64 x.u.b) := B35.out.cell 3; have z4 : w5.cell? ⟨w.heap.size + 1, 4, none⟩ = some (.int .i64 x.u.r) := B35.out.cell 4; have z5 : w5.cell? ⟨w.heap.size + 1, 5, none⟩ = some (.int .i64 x.u.d) := B35.out.cell 5; have z6 : w5.cell? ⟨w.heap.size + 1, 6, none⟩ = some (.slice ad nd cd) := B35.out.cell 6; have z7 : w5.cell? ⟨w.heap.size + 1, 7, none⟩ = some (.slice av nv cv) := B35.out.cell 7; have BA5 : Hid (Blk w5 wr.heap.size #[.int .i64 0, .int .i64 0, .int .i64 0, .int .i64 0, .int .i64 0, .int .i64 0, .slice none 0 0, .slice none 0 0] 27) := (HG5.out.g.block _ (by simp) (fun e => Nat.lt_irrefl _ (HNe.out _ e.symm).1)).trans (Blk.new _ _ _); have a0 : w5.cell? ⟨wr.heap.size, 0, none⟩ = some (.int .i64 0) := BA5.out.cell 0; have f0 : w5.frozen? ⟨wr.heap.size, 0, none⟩ = false := BA5.out.free 0; have a1 : w5.cell? ⟨wr.heap.size, 1, none⟩ = some (.int .i64 0) := BA5.out.cell 1; have f1 : w5.frozen? ⟨wr.heap.size, 1, none⟩ = false := BA5.out.free 1; have a2 : w5.cell? ⟨wr.heap.size, 2, none⟩ = some (.int .i64 0) := BA5.out.cell 2; have f2 : w5.frozen? ⟨wr.heap.size, 2, none⟩ = false := BA5.out.free 2; have a3 : w5.cell? ⟨wr.heap.size, 3, none⟩ = some (.int .i64 0) := BA5.out.cell 3; have f3 : w5.frozen? ⟨wr.heap.size, 3, none⟩ = false := BA5.out.free 3; have a4 : w5.cell? ⟨wr.heap.size, 4, none⟩ = some (.int .i64 0) := BA5.out.cell 4; have f4 : w5.frozen? ⟨wr.heap.size, 4, none⟩ = false := BA5.out.free 4; have a5 : w5.cell? ⟨wr.heap.size, 5, none⟩ = some (.int .i64 0) := BA5.out.cell 5; have f5 : w5.frozen? ⟨wr.heap.size, 5, none⟩ = false := BA5.out.free 5; have a6 : w5.cell? ⟨wr.heap.size, 6, none⟩ = some (.slice none 0 0) := BA5.out.cell 6; have f6 : w5.frozen? ⟨wr.heap.size, 6, none⟩ = false := BA5.out.free 6; have a7 : w5.cell? ⟨wr.heap.size, 7, none⟩ = some (.slice none 0 0) := BA5.out.cell 7; have f7 : w5.frozen? ⟨wr.heap.size, 7, none⟩ = false := BA5.out.free 7; have hnw : ¬ w.heap.size + 1 = wr.heap.size := (by omega); have hlw : w.heap.size + 1 < w5.heap.size := B35.out.lt)
              | (go_at_call 9; refine Calls.mono (HCl.out _ (by first | exact (Below.refl wr.heap.size wr).drew | exact Below.refl wr.heap.size wr)) ?_; rintro e w5 ⟨U, ad', nd', cd', av', nv', cv', rfl, hT, hg⟩; have HT5 : Hid (lc = 0 → U = lx.u ∧ OwnG inC 1 3 w5 w.heap.size (.slice ad' nd' cd') lx.ds ∧ OwnG stC 10 48 w5 w.heap.size (.slice av' nv' cv') lx.ss ∧ lx.ss.length ≤ 4096) := hT; have HG5 : Hid (Grew _ (.slice av nv cv) w5 (.slice av' nv' cv')) := hg; clear hT hg; have B25 : Hid (Blk w5 w.heap.size #[.int .i64 0, .int .i64 0, .int .i64 0, .int .i64 0, .int .i64 0, .int .i64 0, .int .i64 0, .int .i64 0, .slice none 0 0, .slice none 0 0] 29) := (HG5.out.g.block _ (by simp <;> omega) (fun e => (HNe.out _ e.symm).2.1 rfl)).trans B2.out; have B35 : Hid (Blk w5 (w.heap.size + 1) #[.int .i64 x.u.s, .int .i64 x.u.c, .int .i64 x.u.el, .int .i64 x.u.b, .int .i64 x.u.r, .int .i64 x.u.d, .slice ad nd cd, .slice av nv cv] 27) := (HG5.out.g.block _ (by simp <;> omega) (fun e => (HNe.out _ e.symm).2.2 rfl)).trans B3.out; have z0 : w5.cell? ⟨w.heap.size + 1, 0, none⟩ = some (.int .i64 x.u.s) := B35.out.cell 0; have z1 : w5.cell? ⟨w.heap.size + 1, 1, none⟩ = some (.int .i64 x.u.c) := B35.out.cell 1; have z2 : w5.cell? ⟨w.heap.size + 1, 2, none⟩ = some (.int .i64 x.u.el) := B35.out.cell 2; have z3 : w5.cell? ⟨w.heap.size + 1, 3, none⟩ = some (.int .i64 x.u.b) := B35.out.cell 3; have z4 : w5.cell? ⟨w.heap.size + 1, 4, none⟩ = some (.int .i64 x.u.r) := B35.out.cell 4; have z5 : w5.cell? ⟨w.heap.size + 1, 5, none⟩ = some (.int .i64 x.u.d) := B35.out.cell 5; have z6 : w5.cell? ⟨w.heap.size + 1, 6, none⟩ = some (.slice ad nd cd) := B35.out.cell 6; have z7 : w5.cell? ⟨w.heap.size + 1, 7, none⟩ = some (.slice av nv cv) := B35.out.cell 7; have hlw : w.heap.size + 1 < w5.heap.size := B35.out.lt; have hnw : ¬ w.heap.size + 1 = w5.heap.size := (by have h9 : wr.heap.size ≤ w5.heap.size := HG5.out.g.size; omega)))
          · go_wp2
            go_meet
            have hb0 : Below w.heap.size w w5 := (HII.out.bl.trans (Below.refl w.heap.size wr).drew).trans (growG HG5.out (HII.out.s.below (Below.refl wr.heap.size wr).drew) (show w.heap.size ≤ wr.drew.heap.size by simp; omega))
            refine ⟨U, ad', nd', cd', av', nv', cv', w5.heap.size, rfl, rfl, Blk.new _ _ _, by omega, by omega, fun h => ?_, B25.out.alloc _, B35.out.alloc _, hb0.alloc (by omega) _, by simp; omega⟩
            obtain ⟨h1, h2, h3, h4⟩ := HT5.out h
            exact ⟨h1, h2.below ((Below.refl _ _).alloc (Nat.le_refl _) _), h3.below ((Below.refl _ _).alloc (Nat.le_refl _) _), h4⟩
          · go_wp2
            go_meet
            have hb0 : Below w.heap.size w w5 := HII.out.bl.trans (((Below.refl wr.heap.size wr).alloc (Nat.le_refl _) _).drew.mono (by omega)|>.trans (growG HG5.out (HII.out.s.below ((Below.refl wr.heap.size wr).alloc (Nat.le_refl _) _).drew) (show w.heap.size ≤ (wr.alloc _).heap.size by simp; omega)))
            refine ⟨U, ad', nd', cd', av', nv', cv', wr.heap.size, rfl, rfl, ?_, by omega, by omega, fun h => ?_, B25.out.keep (set8_keep _ _ _ _ _ _ _ _ _ _ _ (by omega)), B35.out.keep (set8_keep _ _ _ _ _ _ _ _ _ _ _ (by omega)), below_set8 hb0 (by omega) _ _ _ _ _ _ _ _, by simp [World.setCell]; omega⟩
            · have h9 := (((((((BA5.out.set 0 (.int .i64 U.s)).set 1 (.int .i64 U.c)).set 2 (.int .i64 U.el)).set 3 (.int .i64 U.b)).set 4 (.int .i64 U.r)).set 5 (.int .i64 U.d)).set 6 (.slice ad' nd' cd')).set 7 (.slice av' nv' cv')
              simpa using h9
            · obtain ⟨h1, h2, h3, h4⟩ := HT5.out h
              exact ⟨h1, h2.block fun j hj => set8_keep _ _ _ _ _ _ _ _ _ _ _ (fun e => own_neBlk h2 BA5.out (by decide) (by rw [hj, e])), h3.block fun j hj => set8_keep _ _ _ _ _ _ _ _ _ _ _ (fun e => own_neBlk h3 BA5.out (by decide) (by rw [hj, e])), h4⟩
        case rest =>
          obtain ⟨U, ad', nd', cd', av', nv', cv', b, rfl, rfl, hBb, hb1, hb2, hT, hB2, hB3, hBl, hz⟩ := hcut
          have BB : Hid (Blk wc b #[.int .i64 U.s, .int .i64 U.c, .int .i64 U.el, .int .i64 U.b, .int .i64 U.r, .int .i64 U.d, .slice ad' nd' cd', .slice av' nv' cv'] 27) := hBb
          have C2 : Hid (Blk wc w.heap.size #[.int .i64 0, .int .i64 0, .int .i64 0, .int .i64 0, .int .i64 0, .int .i64 0, .int .i64 0, .int .i64 0, .slice none 0 0, .slice none 0 0] 29) := hB2
          have C3 : Hid (Blk wc (w.heap.size + 1) #[.int .i64 x.u.s, .int .i64 x.u.c, .int .i64 x.u.el, .int .i64 x.u.b, .int .i64 x.u.r, .int .i64 x.u.d, .slice ad nd cd, .slice av nv cv] 27) := hB3
          have HT : Hid (lc = 0 → U = lx.u ∧ OwnG inC 1 3 wc w.heap.size (.slice ad' nd' cd') lx.ds ∧ OwnG stC 10 48 wc w.heap.size (.slice av' nv' cv') lx.ss ∧ lx.ss.length ≤ 4096) := hT
          have HBl : Hid (Below w.heap.size w wc) := hBl
          clear hBb hB2 hB3 hT hBl HCl HNe B2 B3 HX HI
          by_cases hlc : lc = 0
          · obtain ⟨hu, hod, hos, hsl⟩ := HT.out hlc
            have HLq : Hid (linesQ (k + 1) lx (splA 10 ((t.take (i + 1)).drop (i + 1)) (t.drop (i + 1))).dropLast = LQ) := by
              unfold Hid
              rw [HLn.out, if_pos hlc]
            have HOd : Hid (OwnG inC 1 3 wc w.heap.size (.slice ad' nd' cd') lx.ds) := hod
            have HOs : Hid (OwnG stC 10 48 wc w.heap.size (.slice av' nv' cv') lx.ss) := hos
            have HU : Hid (U = lx.u) := hu
            clear hod hos HLn HT hu
            subst hlc
            go_wp2_with (first
              | (have hBA := G2; refine gate_ld 27 (.tmp 7) rfl ?_; clear hBA; refine wpl_load_blk rfl 27 (.tmp 7) rfl b rfl BB.out Tryz.underlying27 rfl sizeScP rfl ?_; clear G2)
              | (have hBA := G1; refine gate_st 27 (.tmp 3) _ rfl ?_; clear hBA; refine wpl_store_blk rfl 27 (.tmp 3) _ rfl (w.heap.size + 1) rfl rfl C3.out sizeScP rfl rfl (by simp [Value.oneCell']) ?_; clear G1))
            go_roundw
            case rel =>
              refine ⟨k + 1, i + 1, i + 1, lx, ad', nd', cd', av', nv', cv', by go_num, by go_num, by go_num, Nat.le_refl _, by have := HM.out.1; omega, by omega, HLq.out, C2.out.row_other _ (by omega), ?_, ?_, ?_, hsl, below_row HBl.out (by omega) _, by simp [World.setRow]; omega⟩
              · rw [← HU.out]; exact C3.out.row _
              · exact HOd.out.block fun j hj => setRow_other _ _ _ _ (fun e => own_neBlk HOd.out C3.out (by decide) (by rw [hj, e]))
              · exact HOs.out.block fun j hj => setRow_other _ _ _ _ (fun e => own_neBlk HOs.out C3.out (by decide) (by rw [hj, e]))
            case measure => have := HM.out.1; simp [intOf]; omega
          · have hlc' : (lc == 0) = false := by simpa using hlc
            have hq : PQ = (lc, k + 1, scr0) := by
              have h9 : LQ = (lc, k + 1, x) := by rw [HLn.out, if_neg hlc]
              rw [HPL.out, h9, if_pos hlc]
            subst hq
            clear HLn HT HPL HLQ
            go_wp2_with (first
              | (have hBA := G1; refine gate_st 29 (.tmp 2) _ rfl ?_; clear hBA; refine wpl_store_blk rfl 29 (.tmp 2) _ rfl w.heap.size rfl rfl C2.out sizeAnP rfl rfl (by simp [Value.oneCell']) ?_; clear G1))
            have cb := (C2.out.row #[.int .i64 lc, .int .i64 ((k : Int) + 1), .int .i64 0, .int .i64 0, .int .i64 0, .int .i64 0, .int .i64 0, .int .i64 0, .slice none 0 0, .slice none 0 0]).cell
            exact bodyPost_ret (v := .agg #[.int .i64 lc, .int .i64 ((k : Int) + 1), .int .i64 0, .int .i64 0, .int .i64 0, .int .i64 0, .int .i64 0, .int .i64 0, .slice none 0 0, .slice none 0 0]) (by simp [results, Tryz.results4, go_sem, cb]) rfl ⟨AnP.zero lc (k + 1) _ _, below_row HBl.out (Nat.le_refl _) _⟩
      · have hne : ¬ (t[i].toNat : Int) = 10 := fun e => h10 (UInt8.toNat_inj.1 (by show t[i].toNat = 10; omega))
        have HN : Hid (PI t LQ w wr k f (i + 1) x ad nd cd av nv cv) := HII.out.more hlt h10
        generalize (t[i].toNat : Int) = X at *
        clear h10 hlt hil
        go_wp2
        go_roundw
        case rel => exact ⟨k, f, i + 1, x, ad, nd, cd, av, nv, cv, rfl, rfl, by go_num, HN.out⟩
        case measure => have := HM.out.1; simp [intOf]; omega
    · obtain rfl : i = t.length := by omega
      have hlx : ¬ (t.length : Int) < (m : Int) + 1 := by have := HM.out.1; omega
      have hLL := HII.out.last
      have HP : Hid (PQ = if k < 2 then (8, k, scr0) else (0, 0, x)) := by unfold Hid; rw [HPL.out, hLL]; simp
      have B2 : Hid (Blk wr w.heap.size #[.int .i64 0, .int .i64 0, .int .i64 0, .int .i64 0, .int .i64 0, .int .i64 0, .int .i64 0, .int .i64 0, .slice none 0 0, .slice none 0 0] 29) := HII.out.b2
      have B3 : Hid (Blk wr (w.heap.size + 1) #[.int .i64 x.u.s, .int .i64 x.u.c, .int .i64 x.u.el, .int .i64 x.u.b, .int .i64 x.u.r, .int .i64 x.u.d, .slice ad nd cd, .slice av nv cv] 27) := HII.out.b3
      clear HPL hLL HLQ
      by_cases hk2 : k < 2
      · have hk2' : (k : Int) < 2 := by omega
        have hq : PQ = (8, k, scr0) := HP.out.trans (if_pos hk2)
        subst hq
        clear HP
        go_wp2_with (first
          | (have hBA := G1; refine gate_st 29 (.tmp 2) _ rfl ?_; clear hBA; refine wpl_store_blk rfl 29 (.tmp 2) _ rfl w.heap.size rfl rfl B2.out sizeAnP rfl rfl (by simp [Value.oneCell']) ?_; clear G1))
        have cb := (B2.out.row #[.int .i64 8, .int .i64 (k : Int), .int .i64 0, .int .i64 0, .int .i64 0, .int .i64 0, .int .i64 0, .int .i64 0, .slice none 0 0, .slice none 0 0]).cell
        exact bodyPost_ret (v := .agg #[.int .i64 8, .int .i64 (k : Int), .int .i64 0, .int .i64 0, .int .i64 0, .int .i64 0, .int .i64 0, .int .i64 0, .slice none 0 0, .slice none 0 0]) (by simp [results, Tryz.results4, go_sem, cb]) rfl ⟨AnP.zero 8 k _ _, below_row HII.out.bl (Nat.le_refl _) _⟩
      · have hk2' : ¬ (k : Int) < 2 := by omega
        have hq : PQ = (0, 0, x) := HP.out.trans (if_neg hk2)
        subst hq
        clear HP
        go_wp2_with (first
          | (have hBA := G2; refine gate_ld 27 (.tmp 3) rfl ?_; clear hBA; refine wpl_load_blk rfl 27 (.tmp 3) rfl (w.heap.size + 1) rfl B3.out Tryz.underlying27 rfl sizeScP rfl ?_; clear G2)
          | (have hBA := G1; refine gate_st 29 (.tmp 2) _ rfl ?_; clear hBA; refine wpl_store_blk rfl 29 (.tmp 2) _ rfl w.heap.size rfl rfl B2.out sizeAnP rfl rfl (by simp [Value.oneCell']) ?_; clear G1))
        have cb := (B2.out.row #[.int .i64 0, .int .i64 0, .int .i64 x.u.s, .int .i64 x.u.c, .int .i64 x.u.el, .int .i64 x.u.b, .int .i64 x.u.r, .int .i64 x.u.d, .slice ad nd cd, .slice av nv cv]).cell
        refine bodyPost_ret (v := .agg #[.int .i64 0, .int .i64 0, .int .i64 x.u.s, .int .i64 x.u.c, .int .i64 x.u.el, .int .i64 x.u.b, .int .i64 x.u.r, .int .i64 x.u.d, .slice ad nd cd, .slice av nv cv]) (by simp [results, Tryz.results4, go_sem, cb]) rfl ⟨⟨ad, nd, cd, av, nv, cv, rfl, ?_, ?_⟩, below_row HII.out.bl (Nat.le_refl _) _⟩
        · exact HII.out.d.block fun j hj => setRow_other _ _ _ _ (fun e => own_neBlk HII.out.d HII.out.b2 (by decide) (by rw [hj, e]))
        · exact HII.out.s.block fun j hj => setRow_other _ _ _ _ (fun e => own_neBlk HII.out.s HII.out.b2 (by decide) (by rw [hj, e]))
end Go.Proofs.YtanpindbhdeomaaGreatDoor
