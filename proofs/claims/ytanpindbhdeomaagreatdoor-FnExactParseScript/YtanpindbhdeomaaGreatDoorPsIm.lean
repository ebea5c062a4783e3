/-
  impl.ParseScript.
-/
import Derived.Test.YtanpindbhdeomaaGreatDoorPsIl
import Derived.Test.YtanpindbhdeomaaGreatDoorPsPs
namespace Go.Proofs.YtanpindbhdeomaaGreatDoor
open Go.RowKit
set_option linter.unusedVariables false
set_option linter.unusedSimpArgs false

/-- on the way -/
structure PJ (LN : List (List UInt8)) (LQ : Int × Nat × Scr) (p N cq : Nat) (w wr : World) (k : Nat) (x : Scr) (ad : Option Addr) (nd cd : Nat) (av : Option Addr) (cv : Nat) : Prop where
  kN : k ≤ N
  eq : linesQ k x (LN.drop k) = LQ
  b2 : Blk wr w.heap.size #[.int .i64 0, .int .i64 0, .int .i64 0, .int .i64 0, .int .i64 0, .int .i64 0, .int .i64 0, .int .i64 0, .slice none 0 0, .slice none 0 0] 29
  b3 : Blk wr (w.heap.size + 1) (scA x.u (.slice ad nd cd) (.slice av x.ss.length cv)) 27
  d : OwnG inC 1 3 wr w.heap.size (.slice ad nd cd) x.ds
  s : OwnG stC 10 48 wr w.heap.size (.slice av x.ss.length cv) x.ss
  sl : x.ss.length ≤ 4096
  bl : Below w.heap.size w wr
  z : w.heap.size + 2 ≤ wr.heap.size
  ln : OwnG txC 1 9 wr w.heap.size (.slice (some ⟨p, 0, none⟩) N cq) (LN.map sOf)
section
variable {LN : List (List UInt8)} {LQ : Int × Nat × Scr} {p N cq : Nat} {w wr w' : World} {k : Nat} {x : Scr} {ad : Option Addr} {nd cd : Nat} {av : Option Addr} {cv : Nat}
theorem PJ.below_line {v' : Value} (h : PJ LN LQ p N cq w wr k x ad nd cd av cv) (hG : Gr2 wr (w.heap.size + 1) (.slice av x.ss.length cv) w' v') : Below w.heap.size w w' :=
  h.bl.trans ⟨hG.os, hG.tape, hG.output, hG.size, fun j hj => hG.block j (by have := h.z; omega) (by omega) (fun e => by have := (h.s.lts j e.symm).1; omega)⟩
theorem PJ.two {v' : Value} (h : PJ LN LQ p N cq w wr k x ad nd cd av cv) (hG : Gr2 wr (w.heap.size + 1) (.slice av x.ss.length cv) w' v') : Blk w' w.heap.size #[.int .i64 0, .int .i64 0, .int .i64 0, .int .i64 0, .int .i64 0, .int .i64 0, .int .i64 0, .int .i64 0, .slice none 0 0, .slice none 0 0] 29 :=
  h.b2.keep (hG.block _ (by have := h.z; omega) (by omega) (own_neBlk h.s h.b2 (by decide)))
theorem PJ.next {lx : Scr} {ad' : Option Addr} {nd' cd' : Nat} {av' : Option Addr} {nv' cv' : Nat} {U : Sup} (h : PJ LN LQ p N cq w wr k x ad nd cd av cv) (hk : k < N) (hG : Gr2 wr (w.heap.size + 1) (.slice av x.ss.length cv) w' (.slice av' nv' cv'))
    (hB : Blk w' (w.heap.size + 1) (scA U (.slice ad' nd' cd') (.slice av' nv' cv')) 27) (hU : U = lx.u) (hd : OwnG inC 1 3 w' w.heap.size (.slice ad' nd' cd') lx.ds) (hs : OwnG stC 10 48 w' w.heap.size (.slice av' nv' cv') lx.ss) (hsl : lx.ss.length ≤ 4096) (he : LQ = linesQ (k + 1) lx (LN.drop (k + 1))) :
    PJ LN LQ p N cq w w' (k + 1) lx ad' nd' cd' av' cv' := by
  subst hU
  obtain ⟨a, c, e⟩ := hs.shape
  cases e
  refine ⟨by omega, he.symm, h.two hG, hB, hd, hs, hsl, h.below_line hG, by have := h.z; have := hG.size; omega, ?_⟩
  exact h.ln.block fun j hj => hG.block j (h.ln.lts j hj).2 (fun e => own_neBlk h.ln h.b3 (by decide) (by rw [hj, e])) (fun e => own_ne h.s h.ln (by decide) j e.symm hj)
theorem PJ.eqn (h : PJ LN LQ p N cq w wr k x ad nd cd av cv) (hk : k < LN.length) : LQ = if (lineQ (k + 1) x LN[k]).1 = 0 then linesQ (k + 1) (lineQ (k + 1) x LN[k]).2 (LN.drop (k + 1)) else ((lineQ (k + 1) x LN[k]).1, k + 1, x) := by
  rw [← h.eq, List.drop_eq_getElem_cons hk, linesQ]
end
set_option maxHeartbeats 1000000 in
set_option maxRecDepth 100000 in
theorem parseI_any (t : List UInt8) (w : World) (he : EnvP w) :
    Calls Tryz.prog 5 #[.string (sOf t)] w fun e w' => AnP (parseQ t) e w' w.heap.size ∧ Below w.heap.size w w' := by
  obtain ⟨S, hS⟩ : ∃ S, S = sOf t := ⟨_, rfl⟩
  have hss : S.size = t.length := by rw [hS, sOf_size]
  have HX : Hid (∀ i, S.extract 0 i = sOf (t.take i)) := fun i => by rw [hS]; have := ext_sOf t 0 i; simpa using this
  have HHs : Hid (t.length ≤ 65536 → ∀ z, Calls Tryz.prog 10 #[.string S, .string ⟨#[10]⟩] z fun e w' => e = .returned (.bool (decide (t.getLast? = some 10))) ∧ w' = z) := fun h z => by rw [hS]; exact hasSuffix_any t h z
  have HE : Hid (EnvP w) := he
  rw [← hS]
  clear hS he
  obtain ⟨PQ, hPQ⟩ : ∃ q, q = parseQ t := ⟨_, rfl⟩
  rw [← hPQ]
  have HPQ : Hid (PQ = parseQ t) := hPQ
  clear hPQ
  have G1 : Hid True := trivial
  have G2 : Hid True := trivial
  by_cases h1 : 65536 < t.length
  · have h1i : (65536 : Int) < (t.length : Int) := by omega
    have hq : PQ = (1, 0, scr0) := by rw [HPQ.out]; unfold parseQ; rw [if_pos h1]
    subst hq
    clear HPQ HHs HX
    go_enter Tryz.func5, Tryz.ntmps5
    go_wp2_with (first
      | (have hBA := G1; refine gate_st 29 (.tmp 2) _ rfl ?_; clear hBA; refine wpl_store_last rfl 29 (.tmp 2) _ rfl w.heap.size rfl rfl rfl sizeAnP rfl rfl (by simp [Value.oneCell']) ?_; clear G1))
    have cb := (Blk.new w #[.int .i64 1, .int .i64 0, .int .i64 0, .int .i64 0, .int .i64 0, .int .i64 0, .int .i64 0, .int .i64 0, .slice none 0 0, .slice none 0 0] 29).cell
    exact bodyPost_ret (v := .agg #[.int .i64 1, .int .i64 0, .int .i64 0, .int .i64 0, .int .i64 0, .int .i64 0, .int .i64 0, .int .i64 0, .slice none 0 0, .slice none 0 0]) (by simp [results, Tryz.results5, go_sem, cb]) rfl ⟨AnP.zero 1 0 _ _, (Below.refl _ _).alloc (Nat.le_refl _) _⟩
  have h1i : ¬ (65536 : Int) < (t.length : Int) := by omega
  have hHs := HHs.out (by omega)
  have HP2 : Hid (PQ = if t.getLast? ≠ some 10 then (2, 0, scr0) else if (linesQ 0 scr0 (spl 10 t.dropLast)).1 ≠ 0 then ((linesQ 0 scr0 (spl 10 t.dropLast)).1, (linesQ 0 scr0 (spl 10 t.dropLast)).2.1, scr0) else if (linesQ 0 scr0 (spl 10 t.dropLast)).2.1 < 2 then (8, (linesQ 0 scr0 (spl 10 t.dropLast)).2.1, scr0) else (0, 0, (linesQ 0 scr0 (spl 10 t.dropLast)).2.2)) := by unfold Hid; rw [HPQ.out]; unfold parseQ; rw [if_neg h1]
  clear HPQ HHs
  by_cases h10 : t.getLast? = some 10
  case neg =>
    have hq : PQ = (2, 0, scr0) := by rw [HP2.out, if_pos h10]
    rw [decide_eq_false h10] at hHs
    have HH : Hid _ := hHs
    subst hq
    clear HP2 HX h10 hHs
    go_enter Tryz.func5, Tryz.ntmps5
    go_wp2_with (first
      | (go_at_call 10; refine (HH.out _).mono ?_; rintro e w' ⟨rfl, hww⟩; have hww2 := hww.symm; subst hww2)
      | (have hBA := G1; refine gate_st 29 (.tmp 2) _ rfl ?_; clear hBA; refine wpl_store_last rfl 29 (.tmp 2) _ rfl w.heap.size rfl rfl rfl sizeAnP rfl rfl (by simp [Value.oneCell']) ?_; clear G1))
    have cb := (Blk.new w #[.int .i64 2, .int .i64 0, .int .i64 0, .int .i64 0, .int .i64 0, .int .i64 0, .int .i64 0, .int .i64 0, .slice none 0 0, .slice none 0 0] 29).cell
    exact bodyPost_ret (v := .agg #[.int .i64 2, .int .i64 0, .int .i64 0, .int .i64 0, .int .i64 0, .int .i64 0, .int .i64 0, .int .i64 0, .slice none 0 0, .slice none 0 0]) (by simp [results, Tryz.results5, go_sem, cb]) rfl ⟨AnP.zero 2 0 _ _, (Below.refl _ _).alloc (Nat.le_refl _) _⟩
  rw [decide_eq_true h10] at hHs
  have HH : Hid _ := hHs
  have hpos : 0 < t.length := by cases t with | nil => simp at h10 | cons a r => simp
  obtain ⟨m, hm⟩ : ∃ m, t.length = m + 1 := ⟨t.length - 1, by omega⟩
  have hx : S.extract 0 m = sOf t.dropLast := by rw [HX.out m, List.dropLast_eq_take, hm]; rfl
  have hdl : t.dropLast.length ≤ 65536 := by rw [List.length_dropLast]; omega
  have hssm : S.size = m + 1 := hss.trans hm
  have hmw : IntKind.i64.wrap ((m : Int) + 1 - 1) = (m : Int) := by simp [IntKind.wrap, IntKind.bits, IntKind.signed]; omega
  have hmi : ¬ (65536 : Int) < (m : Int) + 1 := by omega
  have hm9 : m ≤ 65536 := by omega
  have HSp : Hid (∀ z, EnvP z → Calls Tryz.prog 11 #[.string (sOf t.dropLast), .string ⟨#[10]⟩] z fun e w' => ∃ v, e = .returned v ∧ OwnG txC 1 9 w' z.heap.size v ((spl 10 t.dropLast).map sOf) ∧ Below z.heap.size z w') := fun z hz => splitI_any 10 t.dropLast ⟨#[10]⟩ rfl hdl z hz
  have hll : (spl 10 t.dropLast).length ≤ 65537 := by have := splA_len 10 t.dropLast []; unfold spl; omega
  have hl1 : 1 ≤ (spl 10 t.dropLast).length := by have := spl_ne 10 t.dropLast []; unfold spl; cases h : splA 10 [] t.dropLast with | nil => exact absurd h this | cons a r => simp
  have HWl : Hid (∀ y ∈ spl 10 t.dropLast, y.length ≤ 65536) := fun y hy => by have := splA_mem_len 10 t.dropLast [] y hy; simp at this; omega
  obtain ⟨LQ, hLQ⟩ : ∃ q, q = linesQ 0 scr0 (spl 10 t.dropLast) := ⟨_, rfl⟩
  have HPL : Hid (PQ = if LQ.1 ≠ 0 then (LQ.1, LQ.2.1, scr0) else if LQ.2.1 < 2 then (8, LQ.2.1, scr0) else (0, 0, LQ.2.2)) := by unfold Hid; rw [HP2.out, if_neg (fun h => h h10), ← hLQ]
  have HLQ : Hid (LQ = linesQ 0 scr0 (spl 10 t.dropLast)) := hLQ
  clear HP2 hLQ h10 hHs HX hss hm h1i h1 hpos hdl
  generalize sOf t.dropLast = LS at *
  generalize spl 10 t.dropLast = LN at *
  obtain ⟨N, hN⟩ : ∃ n, n = LN.length := ⟨_, rfl⟩
  have HN : Hid (N = LN.length) := hN
  have hN7 : N ≤ 65537 := by omega
  have hN1 : 1 ≤ N := by omega
  clear hN
  go_enter Tryz.func5, Tryz.ntmps5
  go_wp2_with (first
      | (go_at_call 10; refine (HH.out _).mono ?_; rintro e w' ⟨rfl, hww⟩; have hww2 := hww.symm; subst hww2)
      | (go_at_call 11; refine (HSp.out _ (HE.out.below (((Below.refl _ _).alloc (Nat.le_refl _) _).alloc (by simp) _))).mono ?_; rintro e w5 ⟨v5, rfl, hO5, hb5⟩; obtain ⟨p, cq, e5, hcq, hpl, hpB, hcw⟩ := row_words hO5 hl1 (by omega); rw [← HN.out] at e5; subst e5; have HPJ : Hid (PJ LN LQ p N cq w w5 0 scr0 none 0 0 none 0) := ⟨Nat.zero_le _, HLQ.out.symm, ((Blk.new _ _ _).alloc _).below hb5 (by simp <;> omega), (Blk.new' _ _ _ (by simp)).below hb5 (by simp), OwnG.nil _ _ _ _ _, OwnG.nil _ _ _ _ _, Nat.zero_le _, (((Below.refl _ _).alloc (Nat.le_refl _) _).alloc (by simp) _).trans (hb5.mono (by simp <;> omega)), (by have h9 := hb5.size; simp at h9; omega), hO5.le (by simp <;> omega)⟩; clear hO5 hb5 hcw hcq hpB hpl))
  clear HSp HH hx hssm hmw hmi hm9 HLQ hll hl1
  go_loopw [5, 6, 7, 26] (fun _ _ _ i wr => ∃ (k : Nat) (x : Scr) (ad : Option Addr) (nd cd : Nat) (av : Option Addr) (cv : Nat), i = .int .i64 k ∧ PJ LN LQ p N cq w wr k x ad nd cd av cv) (fun _ _ _ i _ => N - (intOf i).toNat)
  case atStart => exact ⟨0, scr0, none, 0, 0, none, 0, rfl, HPJ.out⟩
  case round =>
    obtain ⟨k, x, ad, nd, cd, av, cv, rfl, hJ⟩ := hrel
    have HJ : Hid (PJ LN LQ p N cq w wr k x ad nd cd av cv) := hJ
    have hkN := hJ.kN
    have hzz := hJ.z
    clear hJ HPJ
    by_cases hlt : k < N
    · have hki : (k : Int) < (N : Int) := by omega
      have hkL : k < LN.length := by rw [← HN.out]; exact hlt
      have HEq : Hid (LQ = _) := HJ.out.eqn hkL
      obtain ⟨p', cq', e5, -, -, -, hcw⟩ := row_words HJ.out.ln (by omega) (by rw [← HN.out]; omega)
      simp only [Value.slice.injEq, Option.some.injEq, Addr.mk.injEq] at e5
      obtain ⟨⟨rfl, -⟩, -, rfl⟩ := e5
      have hcx := hcw k hkL
      clear hcw
      have HCl : Hid (Calls Tryz.prog 12 #[.pointer (some ⟨w.heap.size + 1, 0, none⟩), .int .i64 ((k : Int) + 1), .string (sOf LN[k])] wr fun e w' => LnP (k + 1) x LN[k] (w.heap.size + 1) w.heap.size (.slice av x.ss.length cv) wr e w') := by
        have h9 := readLine_any (k + 1) (by omega) (by omega) x ad nd cd av cv LN[k] (HWl.out _ (List.getElem_mem hkL)) (w.heap.size + 1) wr w.heap.size (by omega) HJ.out.b3 HJ.out.d HJ.out.s HJ.out.sl (HE.out.below HJ.out.bl)
        rw [show ((k + 1 : Nat) : Int) = (k : Int) + 1 by omega] at h9
        exact h9
      have HUn : Hid (∀ e w', LnP (k + 1) x LN[k] (w.heap.size + 1) w.heap.size (.slice av x.ss.length cv) wr e w' → e = .returned (.int .i64 (lineQ (k + 1) x LN[k]).1) ∧ Below w.heap.size w w' ∧ Blk w' w.heap.size #[.int .i64 0, .int .i64 0, .int .i64 0, .int .i64 0, .int .i64 0, .int .i64 0, .int .i64 0, .int .i64 0, .slice none 0 0, .slice none 0 0] 29 ∧ ((lineQ (k + 1) x LN[k]).1 = 0 → ∃ ad' nd' cd' av' cv', PJ LN LQ p N cq w w' (k + 1) (lineQ (k + 1) x LN[k]).2 ad' nd' cd' av' cv')) := by
        rintro e w' ⟨U, ad', nd', cd', av', nv', cv', rfl, hB, hok, hG⟩
        refine ⟨rfl, HJ.out.below_line hG, HJ.out.two hG, fun h0 => ?_⟩
        obtain ⟨h2, h3, h4, h5⟩ := hok h0
        exact ⟨ad', nd', cd', av', cv', HJ.out.next hlt hG hB h2 h3 h4 h5 (HEq.out.trans (if_pos h0))⟩
      obtain ⟨lq, hlq⟩ : ∃ q, q = lineQ (k + 1) x LN[k] := ⟨_, rfl⟩
      rw [← hlq] at HUn HEq
      clear hlq
      obtain ⟨lc, lx⟩ := lq
      dsimp only at HUn HEq
      generalize LnP (k + 1) x LN[k] (w.heap.size + 1) w.heap.size (.slice av x.ss.length cv) wr = LP at *
      generalize sOf LN[k] = XS at *
      have hk9 : k ≤ 65537 := by omega
      by_cases hc0 : lc = 0
      · subst hc0
        clear HEq
        go_wp2_with (go_at_call 12; refine HCl.out.mono ?_; intro e w8 h8; obtain ⟨rfl, hb8, hB8, hn8⟩ := HUn.out e w8 h8; have HN8 : Hid _ := hn8 rfl; clear h8 hb8 hB8 hn8)
        go_roundw
        case rel =>
          obtain ⟨ad', nd', cd', av', cv', h9⟩ := HN8.out
          exact ⟨k + 1, lx, ad', nd', cd', av', cv', by go_num, h9⟩
        case measure => simp [intOf]; omega
      · have hc0b : (lc == 0) = false := by simpa using hc0
        have hLL : LQ = (lc, k + 1, x) := HEq.out.trans (if_neg hc0)
        have hq : PQ = (lc, k + 1, scr0) := by rw [HPL.out, hLL]; exact if_pos hc0
        subst hq
        clear HEq HPL hLL
        go_wp2_with (first
          | (go_at_call 12; refine HCl.out.mono ?_; intro e w8 h8; obtain ⟨rfl, hb8, hB8, hn8⟩ := HUn.out e w8 h8; have HB8 : Hid (Below w.heap.size w w8) := hb8; have BA8 : Hid (Blk w8 w.heap.size #[.int .i64 0, .int .i64 0, .int .i64 0, .int .i64 0, .int .i64 0, .int .i64 0, .int .i64 0, .int .i64 0, .slice none 0 0, .slice none 0 0] 29) := hB8; clear h8 hb8 hB8 hn8)
          | (have hBA := G1; refine gate_st 29 (.tmp 2) _ rfl ?_; clear hBA; refine wpl_store_blk rfl 29 (.tmp 2) _ rfl w.heap.size rfl rfl BA8.out sizeAnP rfl rfl (by simp [Value.oneCell']) ?_; clear G1))
        have cb := (BA8.out.row #[.int .i64 lc, .int .i64 ((k : Int) + 1), .int .i64 0, .int .i64 0, .int .i64 0, .int .i64 0, .int .i64 0, .int .i64 0, .slice none 0 0, .slice none 0 0]).cell
        exact bodyPost_ret (v := .agg #[.int .i64 lc, .int .i64 ((k : Int) + 1), .int .i64 0, .int .i64 0, .int .i64 0, .int .i64 0, .int .i64 0, .int .i64 0, .slice none 0 0, .slice none 0 0]) (by simp [results, Tryz.results5, go_sem, cb]) rfl ⟨by have h9 := AnP.zero lc (k + 1) (w8.setRow w.heap.size #[.int .i64 lc, .int .i64 ((k : Int) + 1), .int .i64 0, .int .i64 0, .int .i64 0, .int .i64 0, .int .i64 0, .int .i64 0, .slice none 0 0, .slice none 0 0]) w.heap.size; rw [show ((k + 1 : Nat) : Int) = (k : Int) + 1 by omega] at h9; exact h9, below_row HB8.out (Nat.le_refl _) _⟩
    · obtain rfl : k = N := by omega
      have hLL : LQ = (0, k, x) := by
        rw [← HJ.out.eq, List.drop_of_length_le (by rw [← HN.out]; exact Nat.le_refl _)]
        rfl
      have BA : Hid (Blk wr w.heap.size #[.int .i64 0, .int .i64 0, .int .i64 0, .int .i64 0, .int .i64 0, .int .i64 0, .int .i64 0, .int .i64 0, .slice none 0 0, .slice none 0 0] 29) := HJ.out.b2
      have BC : Hid (Blk wr (w.heap.size + 1) #[.int .i64 x.u.s, .int .i64 x.u.c, .int .i64 x.u.el, .int .i64 x.u.b, .int .i64 x.u.r, .int .i64 x.u.d, .slice ad nd cd, .slice av x.ss.length cv] 27) := HJ.out.b3
      have hNw : (k : Int) ≤ 65537 := by omega
      by_cases h2 : k < 2
      · have h2i : (k : Int) < 2 := by omega
        have hq : PQ = (8, k, scr0) := by rw [HPL.out, hLL]; exact (if_neg (by simp)).trans (if_pos h2)
        subst hq
        clear HPL
        go_wp2_with (first
          | (have hBA := G1; refine gate_st 29 (.tmp 2) _ rfl ?_; clear hBA; refine wpl_store_blk rfl 29 (.tmp 2) _ rfl w.heap.size rfl rfl BA.out sizeAnP rfl rfl (by simp [Value.oneCell']) ?_; clear G1))
        have cb := (BA.out.row #[.int .i64 8, .int .i64 (k : Int), .int .i64 0, .int .i64 0, .int .i64 0, .int .i64 0, .int .i64 0, .int .i64 0, .slice none 0 0, .slice none 0 0]).cell
        exact bodyPost_ret (v := .agg #[.int .i64 8, .int .i64 (k : Int), .int .i64 0, .int .i64 0, .int .i64 0, .int .i64 0, .int .i64 0, .int .i64 0, .slice none 0 0, .slice none 0 0]) (by simp [results, Tryz.results5, go_sem, cb]) rfl ⟨AnP.zero 8 k _ _, below_row HJ.out.bl (Nat.le_refl _) _⟩
      · have h2i : ¬ (k : Int) < 2 := by omega
        have hq : PQ = (0, 0, x) := by rw [HPL.out, hLL]; exact (if_neg (by simp)).trans (if_neg h2)
        subst hq
        clear HPL
        go_wp2_with (first
          | (have hBA := G2; refine gate_ld 27 (.tmp 3) rfl ?_; clear hBA; refine wpl_load_blk rfl 27 (.tmp 3) rfl (w.heap.size + 1) rfl BC.out Tryz.underlying27 rfl sizeScP rfl ?_; clear G2)
          | (have hBA := G1; refine gate_st 29 (.tmp 2) _ rfl ?_; clear hBA; refine wpl_store_blk rfl 29 (.tmp 2) _ rfl w.heap.size rfl rfl BA.out sizeAnP rfl rfl (by simp [Value.oneCell']) ?_; clear G1))
        have cb := (BA.out.row #[.int .i64 0, .int .i64 0, .int .i64 x.u.s, .int .i64 x.u.c, .int .i64 x.u.el, .int .i64 x.u.b, .int .i64 x.u.r, .int .i64 x.u.d, .slice ad nd cd, .slice av x.ss.length cv]).cell
        have hbr : Below w.heap.size w (wr.setRow w.heap.size #[.int .i64 0, .int .i64 0, .int .i64 x.u.s, .int .i64 x.u.c, .int .i64 x.u.el, .int .i64 x.u.b, .int .i64 x.u.r, .int .i64 x.u.d, .slice ad nd cd, .slice av x.ss.length cv]) := below_row HJ.out.bl (Nat.le_refl _) _
        exact bodyPost_ret (v := .agg #[.int .i64 0, .int .i64 0, .int .i64 x.u.s, .int .i64 x.u.c, .int .i64 x.u.el, .int .i64 x.u.b, .int .i64 x.u.r, .int .i64 x.u.d, .slice ad nd cd, .slice av x.ss.length cv]) (by simp [results, Tryz.results5, go_sem, cb]) rfl ⟨⟨ad, nd, cd, av, x.ss.length, cv, rfl, HJ.out.d.block (fun j hj => setRow_other _ _ _ _ (fun e => own_neBlk HJ.out.d HJ.out.b2 (by decide) (by rw [hj, e]))), HJ.out.s.block (fun j hj => setRow_other _ _ _ _ (fun e => own_neBlk HJ.out.s HJ.out.b2 (by decide) (by rw [hj, e])))⟩, hbr⟩
end Go.Proofs.YtanpindbhdeomaaGreatDoor
