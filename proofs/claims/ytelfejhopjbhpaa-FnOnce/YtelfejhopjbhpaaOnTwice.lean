/-
  spec.DrawLogTwice.
-/
import Derived.Test.YtelfejhopjbhpaaOnDraw
import Derived.Test.YtelfejhopjbhpaaOnPure
import Derived.Test.YtelfejhopjbhpaaL1size
import Derived.BigQuiet
namespace Go.Proofs.Ytelfejhopjbhpaa
open Go.RowKit Go.Maps
set_option linter.unusedVariables false
set_option linter.unusedSimpArgs false


theorem OwnE.capE {w : World} {B : Nat} {a : Option Addr} {n cap : Nat} {l : List Ent} (h : OwnE w B (.slice a n cap) l) (hn : n = l.length) : n ≤ cap := by
  rcases h.2.2 with ⟨e, h0⟩ | ⟨g, cap', cur, e, _, _, h1, _⟩
  · injection e with _ e2 e3
    omega
  · injection e with _ e2 e3
    omega
theorem oldB_snoc (l : List Ent) (x e : Ent) : oldB (l ++ [x]) e = (oldB l e || (x.op != 0 && (x.cl == e.cl && x.sq == e.sq))) := by
  unfold oldB
  rw [List.any_append]
  simp
theorem below_drewO (B : Nat) (w : World) (k : Nat) : Below B w (w.drewN k) := ⟨rfl, rfl, rfl, Nat.le_refl _, fun _ _ => rfl⟩
set_option maxHeartbeats 16000000 in
set_option maxRecDepth 100000 in
theorem drawLogTwice_any (a : Option Addr) (cap : Nat) (l : List Int) (w : World) (hv : Bs w (.slice a l.length cap) l) (hL : l.length ≤ 1048576) :
    Calls Try.prog 6 #[.slice a l.length cap] w fun r w' => ∃ la lc lb ld es, r = .returned (.tuple #[.slice la es.length lc, .slice lb (onceP es es.length).length ld]) ∧ es.length ≤ 4000 ∧ (∀ e ∈ es, entB e = true) ∧ OwnE w' w.heap.size (.slice la es.length lc) es ∧ OwnE w' w.heap.size (.slice lb (onceP es es.length).length ld) (onceP es es.length) ∧ Below w.heap.size w w' := by
  have HV : Hid (Bs w (.slice a l.length cap) l) := hv
  have hlm := hv.1
  clear hv
  have HS0 : Hid (SrcB (w.alloc (.cells #[.slice a l.length cap, .int .i64 0] 60)) w.heap.size (.slice a l.length cap) l 0) := ⟨0, Nat.le_refl _, Src.start w _ l HV.out _⟩
  have hsz : min l.length 400 ≤ 400 := Nat.min_le_right _ _
  obtain ⟨m, hm⟩ : ∃ m, m = min l.length 400 := ⟨_, rfl⟩
  rw [← hm] at hsz
  have HSZ : Hid (∀ u, Calls Try.prog 28 #[.slice a l.length cap] u fun e w' => e = .returned (.int .i64 (m : Nat)) ∧ w' = u) := fun u => by rw [hm]; exact l1size_any a l.length cap hlm u
  clear hm
  obtain ⟨m6, hm6, hm6'⟩ : ∃ m6 : Nat, 6 + (m : Int) / 4 = (m6 : Int) ∧ m6 ≤ 106 ∧ 0 < m6 := ⟨6 + m / 4, by omega, by omega, by omega⟩
  go_enter Try.func6, Try.ntmps6
  go_wp2_with (first
    | (go_at_call 28; refine (HSZ.out _).mono ?_; rintro r w1 ⟨rfl, hw1⟩; subst w1)
    | (go_at_call 27; refine (pickB w.heap.size _ _ l 0 m6 hL (by omega) hm6'.2 (by omega) HS0.out).mono ?_; rintro r w2 ⟨p, rfl, hp, hs2, hg2⟩; have HS2 : Hid (SrcB w2 w.heap.size (.slice a l.length cap) l 4) := hs2; have HG2 : Hid (World.grownBy _ w2 (some w.heap.size)) := hg2; have hz2 : w.heap.size < w2.heap.size := (by have := hg2.size; simp at this; omega); obtain ⟨n, hn, hn'⟩ : ∃ n : Nat, 3 + (p : Int) = (n : Int) ∧ n ≤ 200 := ⟨3 + p, by omega, by omega⟩; clear hs2 hg2)
    | (go_at_call 26; refine (l5drawLog_any w.heap.size w2 _ l 4 n hL (by omega) (by omega) HS2.out).mono ?_; rintro r w3 ⟨la, lc, es, rfl, hlen, hall, ho3, hg3⟩; have HO3 : Hid (OwnE w3 w2.heap.size (.slice la es.length lc) es) := ho3; have HALL : Hid (∀ e ∈ es, entB e = true) := hall; have HLN : Hid (es.length ≤ 200) := (by show _ ≤ _; omega); have hle2 : es.length ≤ 200 := HLN.out; have HB3 : Hid (Below w.heap.size w w3) := (by have h1 : w.grownBy w3 (some w.heap.size) := grownBy_trans (grownBy_trans (World.grownBy_alloc w _ _) HG2.out) hg3; exact ⟨h1.os, h1.tape, h1.output, h1.size, fun k hk => h1.block k hk (by intro e; injection e with e; omega)⟩); have hz3 : w2.heap.size ≤ w3.heap.size := hg3.size; clear ho3 hall hg3 hlen))
  obtain ⟨W4, hW4⟩ : ∃ W4, W4 = w3.alloc (.cells #[] 35) := ⟨_, rfl⟩
  have HO4 : Hid (OwnE W4 w2.heap.size (.slice la es.length lc) es) := by show OwnE _ _ _ _; rw [hW4]; exact HO3.out.below ((Below.refl _ _).alloc (Nat.le_refl _) _)
  have HN4 : Hid (OwnE W4 w3.heap.size (.slice (some ⟨w3.heap.size, 0, none⟩) 0 0) []) := by show OwnE _ _ _ _; rw [hW4]; exact OwnE.made w3 w3.heap.size (Nat.le_refl _)
  have HB4 : Hid (Below w.heap.size w W4) := by show Below _ _ _; rw [hW4]; exact HB3.out.alloc (by omega) _
  have hz4 : W4.heap.size = w3.heap.size + 1 := by rw [hW4]; simp
  have HLT : Hid (∀ k, (Value.slice la es.length lc).ownBlock = some k → k < w3.heap.size) := fun k e => (HO3.out.2.lt k e).2
  rw [← hW4]
  clear hW4 HO3 HS0 HS2 HG2 HSZ
  go_loopw [6, 7] (fun on iv wr => ∃ (i : Nat) (lb : Option Addr) (ld : Nat), i ≤ es.length ∧ iv = .int .i64 i ∧ on = .slice lb (onceP es i).length ld ∧ OwnE wr w3.heap.size (.slice lb (onceP es i).length ld) (onceP es i) ∧ OwnE wr w2.heap.size (.slice la es.length lc) es ∧ Below w.heap.size w wr ∧ w3.heap.size ≤ wr.heap.size) (fun _ i _ => es.length - (RowKit.intOf i).toNat)
  case atStart => exact ⟨0, _, _, Nat.zero_le _, rfl, rfl, HN4.out, HO4.out, HB4.out, by omega⟩
  case round =>
    obtain ⟨i, lb, ld, hi, rfl, rfl, hon, hes, hbw, hzw⟩ := hrel
    have HON : Hid (OwnE wr w3.heap.size (.slice lb (onceP es i).length ld) (onceP es i)) := hon
    have HES : Hid (OwnE wr w2.heap.size (.slice la es.length lc) es) := hes
    have HBW : Hid (Below w.heap.size w wr) := hbw
    clear HO4 HN4 HB4 hon hes hbw hz4
    by_cases hlt : i < es.length
    · have hlt' : (i : Int) < (es.length : Int) := by omega
      have HE : Hid (Es wr (.slice la es.length lc) es) := HES.out.es (by have := HLN.out; unfold maxLen; omega)
      obtain ⟨b, off, hla, d0, d1, d2, d3, d4, d5, d6⟩ := HE.out.at7 hlt
      subst hla
      have HFI : Hid (es[i].fits) := HE.out.2.1 _ (List.getElem_mem hlt)
      have HPS : Hid (onceP es (i + 1) = onceP es i ++ (if oldB (es.take i) es[i] then [] else [es[i]])) := by show _ = _; rw [onceP, dif_pos hlt]
      obtain ⟨y, hy⟩ : ∃ y, es[i] = y := ⟨_, rfl⟩
      rw [hy] at HPS HFI d0 d1 d2 d3 d4 d5 d6
      have HY : Hid (es[i] = y) := hy
      clear hy
      generalize hPL : (onceP es i).length = pn at *
      go_wp2
      go_loopw [8, 9] (fun ov kv wr' => ∃ m q : Nat, m ≤ i ∧ kv = .int .i64 m ∧ ov = .bool (oldB (es.take m) y) ∧ wr' = wr.drewN q) (fun _ k _ => i - (RowKit.intOf k).toNat)
      case atStart => exact ⟨0, 0, Nat.zero_le _, rfl, by simp [oldB], rfl⟩
      case round =>
        obtain ⟨m, q, hmi, rfl, rfl, rfl⟩ := hrel
        by_cases hml : m < i
        · have hml' : (m : Int) < (i : Int) := by omega
          have hme : m < es.length := by omega
          have hme' : (m : Int) < (es.length : Int) := by omega
          obtain ⟨b', off', hb', c0, c1, c2, c3, c4, c5, c6⟩ := HE.out.at7 hme
          injection hb' with hb'
          injection hb' with e1 e2 _
          subst e1 e2
          have HST : Hid (oldB (es.take (m + 1)) y = (oldB (es.take m) y || (es[m].op != 0 && (es[m].cl == y.cl && es[m].sq == y.sq)))) := by show _ = _; rw [List.take_succ_eq_append_getElem hme, oldB_snoc]
          generalize es[m] = x at *
          clear c0 c4 c5 c6 d0 d4 d5 d6
          cases hA : (x.op != 0)
          · have hA' : (x.op == 0) = true := by simpa using hA
            rw [hA] at HST
            simp only [Bool.false_and, Bool.or_false] at HST
            go_wp2
            go_quiet (fail)
            go_wp2
            go_roundw
            case rel => exact ⟨m + 1, _, by omega, by go_num, by rw [HST.out], by first | rfl | exact (World.drewN_drew _ _).symm⟩
            case measure => simp [RowKit.intOf]; omega
          · have hA' : (x.op == 0) = false := by simpa using hA
            cases hC : (x.cl == y.cl)
            · rw [hC] at HST
              simp only [Bool.false_and, Bool.and_false, Bool.or_false] at HST
              go_wp2
              go_quiet (fail)
              go_wp2
              go_roundw
              case rel => exact ⟨m + 1, _, by omega, by go_num, by rw [HST.out], by first | rfl | exact (World.drewN_drew _ _).symm⟩
              case measure => simp [RowKit.intOf]; omega
            · cases hQ : (x.sq == y.sq)
              · rw [hQ] at HST
                simp only [Bool.and_false, Bool.or_false] at HST
                go_wp2
                go_quiet (fail)
                go_wp2
                go_roundw
                case rel => exact ⟨m + 1, _, by omega, by go_num, by rw [HST.out], by first | rfl | exact (World.drewN_drew _ _).symm⟩
                case measure => simp [RowKit.intOf]; omega
              · rw [hA, hC, hQ] at HST
                simp only [Bool.and_true, Bool.or_true] at HST
                go_wp2
                go_quiet (fail)
                go_wp2
                go_roundw
                case rel => exact ⟨m + 1, _, by omega, by go_num, by rw [HST.out], by first | rfl | exact (World.drewN_drew _ _).symm⟩
                case measure => simp [RowKit.intOf]; omega
        · obtain rfl : m = i := by omega
          cases hO : oldB (es.take m) y
          · rw [hO] at HPS
            simp only [Bool.false_eq_true, if_false] at HPS
            go_wp2_with (at_builtin; refine wpl_appendE rfl (.tmp 70) (.tmp 75) rfl y HFI.out (l := onceP es m) (B := w3.heap.size) (HON.out.below (((below_drewO _ _ _)).alloc (by show wr.heap.size ≤ wr.heap.size; omega) _)) rfl wr.heap.size 1 (entAt_new (wr.drewN q) y) rfl (by have h9 := onceP_len es m; have := HLN.out; omega) (by simp; omega) ?_; intro v9 w9 ho9 hg9; have HO9 : Hid (OwnE w9 w3.heap.size v9 (onceP es m ++ [y])) := ho9; have HG9 : Hid (Grew _ (.slice lb pn ld) w9 v9) := hg9; clear ho9 hg9)
            go_roundw
            case rel =>
              obtain ⟨lb9, ld9, hv9⟩ := HO9.out.shape
              have hgs := HG9.out.g.size
              simp at hgs
              have hX : OwnE ((wr.drewN q).alloc (.cells #[.int .i64 y.t, .int .i64 y.cl, .int .i64 y.sq, .int .i64 y.op, .string y.k, .string y.v, .string y.o] 35)) w3.heap.size (.slice lb pn ld) (onceP es m) := HON.out.below ((below_drewO _ _ _).alloc (by show wr.heap.size ≤ wr.heap.size; omega) _)
              have hbX := growE HG9.out hX (by simp; omega)
              refine ⟨m + 1, lb9, ld9, by omega, by go_num, by rw [HPS.out]; exact hv9, by rw [HPS.out, ← hv9]; exact HO9.out, HES.out.block fun k' e' => ?_, ?_, by omega⟩
              · have hk := HLT.out k' e'
                rw [hbX.block k' hk]
                exact Below.heap_alloc (wr.drewN q) _ k' (by show k' < wr.heap.size; omega)
              · exact (HBW.out.trans (((below_drewO _ _ _)).alloc (by show w.heap.size ≤ wr.heap.size; omega) _)).trans (hbX.mono (by omega))
            case measure => simp [RowKit.intOf]; omega
          · rw [hO] at HPS
            simp only [if_true, List.append_nil] at HPS
            go_wp2
            go_roundw
            case rel => exact ⟨m + 1, lb, ld, by omega, by go_num, by rw [HPS.out, hPL], by rw [HPS.out, hPL]; exact HON.out.below (below_drewO _ _ _), HES.out.below (below_drewO _ _ _), HBW.out.trans (below_drewO _ _ _), hzw⟩
            case measure => simp [RowKit.intOf]; omega
    · obtain rfl : i = es.length := by omega
      go_wp2
      refine bodyPost_ret (v := .tuple #[.slice la es.length lc, .slice lb (onceP es es.length).length ld]) (by simp [results, Try.results6, go_sem]) rfl ?_
      exact ⟨la, lc, lb, ld, es, rfl, by omega, HALL.out, HES.out.le (by omega), HON.out.le (by omega), HBW.out⟩
end Go.Proofs.Ytelfejhopjbhpaa
