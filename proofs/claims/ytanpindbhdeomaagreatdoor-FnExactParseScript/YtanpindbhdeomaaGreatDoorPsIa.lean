/-
  impl.isNumber, strconv.Atoi, impl.readNumbers.
-/
import Derived.Test.YtanpindbhdeomaaGreatDoorPsNu
import Derived.Test.YtanpindbhdeomaaGreatDoorPsLaid
import Derived.Lib.AtoiAll
namespace Go.Proofs.YtanpindbhdeomaaGreatDoor
open Go.RowKit Go.Shelf
set_option linter.unusedVariables false
set_option linter.unusedSimpArgs false

theorem parse_num : ∀ (l : List UInt8) (acc n : Nat), l.all dgB = true → acc < 10 ^ n → n + l.length ≤ 18 → ∃ u : Nat, Lib.parseUint10 acc l = .ok u ∧ (u : Int) = l.foldl (fun v x => v * 10 + (x.toNat : Int) - 48) (acc : Int) ∧ u < 10 ^ (n + l.length)
  | [], acc, n, _, ha, _ => ⟨acc, rfl, rfl, by simpa using ha⟩
  | x :: r, acc, n, hd, ha, hn => by
    simp only [List.all_cons, Bool.and_eq_true] at hd
    have hx := hd.1
    unfold dgB at hx
    simp at hx
    have hp : (10 : Nat) ^ n ≤ 10 ^ 17 := Nat.pow_le_pow_right (by omega) (by simp at hn; omega)
    have hp2 : (10 : Nat) ^ (n + 1) = 10 ^ n * 10 := Nat.pow_succ ..
    obtain ⟨u, h1, h2, h3⟩ := parse_num r (acc * 10 + (x.toNat - 48)) (n + 1) hd.2 (by omega) (by simp at hn; omega)
    refine ⟨u, ?_, ?_, ?_⟩
    · rw [Lib.parseUint10, if_pos (by omega), if_neg (by omega), if_neg (by omega)]
      exact h1
    · rw [List.foldl_cons, h2]
      congr 1
      omega
    · rw [List.length_cons, show n + (r.length + 1) = n + 1 + r.length by omega]
      exact h3
theorem atoi_num {l : List UInt8} (h : numOk l = true) : Lib.atoiAll l = .ok (numV l) := by
  obtain ⟨h1, h2, _, hd⟩ := numOk_parts.1 h
  obtain ⟨u, e1, e2, e3⟩ := parse_num l 0 0 hd (by omega) (by omega)
  match l, h1 with
  | c :: r, _ =>
    have hc : 48 ≤ c.toNat ∧ c.toNat ≤ 57 := by
      simp only [List.all_cons, Bool.and_eq_true] at hd
      have := hd.1
      unfold dgB at this
      simpa using this
    have hm : Lib.parseMag (c :: r) = .ok u := by unfold Lib.parseMag; rw [if_neg (by simp)]; exact e1
    have hu : u < 10 ^ 10 := Nat.lt_of_lt_of_le e3 (Nat.pow_le_pow_right (by omega) (by omega))
    unfold Lib.atoiAll
    have e43 : ¬ (c.toNat = 43 ∨ c.toNat = 45) := by omega
    have e45 : ¬ c.toNat = 45 := by omega
    simp only [if_neg e43, hm, if_neg e45]
    rw [if_neg (by omega), if_neg (by omega)]
    rw [e2]
    rfl
/-- the two sentinels of strconv -/
structure ErrsP (w : World) : Prop where
  syn : ∃ tp p, w.var? Tryz.prog "strconv.ErrSyntax" = some #[.iface tp p]
  rng : ∃ tp p, w.var? Tryz.prog "strconv.ErrRange" = some #[.iface tp p]
theorem varP_below {w w' : World} {n : String} {g : Nat} {cs : Array Value} (hg : Tryz.prog.globalNamed n = some g) (h : w.var? Tryz.prog n = some cs) (hb : Below w.heap.size w w') : w'.var? Tryz.prog n = some cs := by
  unfold World.var? at h ⊢
  rw [hg] at h ⊢
  simp only [Option.bind_some] at h ⊢
  rcases Nat.lt_or_ge g w.heap.size with hl | hl
  · rw [hb.block _ hl]; exact h
  · rw [Array.getElem?_eq_none hl] at h; cases h
theorem globSyn : Tryz.prog.globalNamed "strconv.ErrSyntax" = some 5 := by kernel_rfl
theorem globRng : Tryz.prog.globalNamed "strconv.ErrRange" = some 6 := by kernel_rfl
theorem ErrsP.below {w w' : World} (h : ErrsP w) (hb : Below w.heap.size w w') : ErrsP w' := by
  obtain ⟨⟨t1, p1, h1⟩, ⟨t2, p2, h2⟩⟩ := h
  exact ⟨⟨t1, p1, varP_below globSyn h1 hb⟩, ⟨t2, p2, varP_below globRng h2 hb⟩⟩
theorem below_bytesP (w : World) (s : ByteArray) : Below w.heap.size w (Lib.bytesWorld w 5 s) :=
  ⟨rfl, rfl, rfl, by rw [Lib.bytesWorld_size]; omega, fun k hk => Lib.bytesWorld_at_old w 5 s k hk⟩
/-- strconv.Atoi: a number, or an error that is not nil -/
theorem atoi_any (l : List UInt8) (hl : l.length ≤ 65536) (w : World) (he : ErrsP w) :
    Calls Tryz.prog 61 #[.string (sOf l)] w fun e w' => ∃ (n : Int) (ev : Value), e = .returned (.tuple #[.int .i64 n, ev]) ∧ ((ev = .nilIface ∧ Lib.atoiAll l = .ok n) ∨ ((∃ t p, ev = .iface t p) ∧ ∀ v, Lib.atoiAll l ≠ .ok v)) ∧ Below w.heap.size w w' := by
  have hsz : (sOf l).size = l.length := sOf_size l
  have hls : (sOf l).data.toList = l := list_sOf l
  cases ha : Lib.atoiAll l with
  | ok v =>
    refine (Any.strconv_Atoi_ok laidP172 (sOf l) (by omega) v (by rw [hls]; exact ha) w).mono ?_
    rintro e w' ⟨rfl, h⟩
    refine ⟨v, _, rfl, .inl ⟨rfl, rfl⟩, ?_⟩
    rcases h with rfl | ⟨t, rfl⟩
    · exact Below.refl _ _
    · exact below_bytesP w t
  | «syntax» =>
    obtain ⟨tp, p, hv⟩ := he.syn
    refine (Any.strconv_Atoi_syntax_var laidP172 (sOf l) (by omega) (by rw [hls]; exact ha) tp p w hv).mono ?_
    rintro e w' ⟨N, rfl, _, _, hb⟩
    exact ⟨_, _, rfl, .inr ⟨⟨_, _, rfl⟩, fun v => by simp⟩, hb⟩
  | range =>
    obtain ⟨tp, p, hv⟩ := he.rng
    refine (Any.strconv_Atoi_range_var laidP172 (sOf l) (by omega) (by rw [hls]; exact ha) tp p w hv).mono ?_
    rintro e w' ⟨N, rfl, _, _, hb⟩
    exact ⟨_, _, rfl, .inr ⟨⟨_, _, rfl⟩, fun v => by simp⟩, hb⟩

set_option maxHeartbeats 4000000 in
set_option maxRecDepth 100000 in
theorem isNumber_any (l : List UInt8) (hl : l.length ≤ 65536) (w : World) :
    Calls Tryz.prog 62 #[.string (sOf l)] w fun e w' => e = .returned (.bool (numOk l)) ∧ w' = w := by
  obtain ⟨S, hS⟩ : ∃ S, S = sOf l := ⟨_, rfl⟩
  have hss : S.size = l.length := by rw [hS, sOf_size]
  have HI : Hid (∀ k, (h : k < l.length) → ∀ u : World, (Instr.index 9 (.string S) (.int .i64 (k : Int))).run Tryz.prog u = .ok (.int .u8 (l[k].toNat : Int)) u) := fun k h u => by
    have h1 : (sOf l).data.toList = l := list_sOf l
    have h2 := idx_run S (k := k) (by rw [hS, h1]; exact h) u
    simpa [hS, h1] using h2
  have HSl : Hid (S.toList = l) := by unfold Hid; rw [hS, ByteArray.toList_eq, list_sOf]
  rw [← hS]
  clear hS
  have HP : Hid (numOk l = true ↔ 1 ≤ l.length ∧ l.length ≤ 10 ∧ (l.length = 1 ∨ l.head? ≠ some 48) ∧ l.all dgB = true) := numOk_parts
  generalize numOk l = R at *
  go_enter Tryz.func62, Tryz.ntmps62
  go_wp2
  go_loopw [6] (fun i wr => ∃ k : Nat, k ≤ l.length ∧ i = .int .i64 k ∧ (l.take k).all dgB = true ∧ wr = w) (fun i _ => l.length - (intOf i).toNat)
  case atStart => exact ⟨0, Nat.zero_le _, rfl, rfl, rfl⟩
  case round =>
    obtain ⟨k, hk, rfl, hA, rfl⟩ := hrel
    have HA : Hid ((l.take k).all dgB = true) := hA
    clear hA
    by_cases hlt : k < l.length
    · have hix := HI.out k hlt
      have hkl : (k : Int) < (l.length : Int) := by omega
      have hdg : Hid (inB (l[k].toNat : Int) 48 57 = dgB l[k]) := by
        unfold Hid inB dgB
        congr 1 <;> (congr 1; simp only [eq_iff_iff]; omega)
      have hN : Hid (dgB l[k] = true → (l.take (k + 1)).all dgB = true) := fun h => all_take_succ hlt _ HA.out h
      have hF : Hid (dgB l[k] = false → l.all dgB = false) := fun h => all_no hlt _ h
      have hxb : 0 ≤ (l[k].toNat : Int) ∧ (l[k].toNat : Int) ≤ 255 := by have := l[k].toNat_lt; omega
      generalize dgB l[k] = y at *
      generalize (l[k].toNat : Int) = x at *
      cases y
      · have hno : R = false := by
          cases R
          · rfl
          · have := (HP.out.1 rfl).2.2.2
            rw [hF.out (by trivial)] at this
            cases this
        have HW : Hid (∀ z, Calls Tryz.prog 43 #[.int .i64 x, .int .i64 48, .int .i64 57] z fun e w' => e = .returned (.bool false) ∧ w' = z) := fun z => by
          have h := within_any x 48 57 z
          rw [hdg.out] at h
          exact h
        go_wp2_with (go_at_call 43; refine (HW.out _).mono ?_; rintro e w' ⟨rfl, rfl⟩)
        go_ret
        exact ⟨by rw [hno]; rfl, rfl⟩
      · have HW : Hid (∀ z, Calls Tryz.prog 43 #[.int .i64 x, .int .i64 48, .int .i64 57] z fun e w' => e = .returned (.bool true) ∧ w' = z) := fun z => by
          have h := within_any x 48 57 z
          rw [hdg.out] at h
          exact h
        go_wp2_with (go_at_call 43; refine (HW.out _).mono ?_; rintro e w' ⟨rfl, rfl⟩)
        go_roundw
        case rel => exact ⟨k + 1, by omega, by go_num, hN.out (by trivial), by trivial⟩
        case measure => simp [intOf]; omega
    · obtain rfl : k = l.length := by omega
      rw [List.take_length] at HA
      by_cases hz : l = [48]
      · have hR : R = true := HP.out.2 (by rw [hz]; decide)
        have hS0 : S.toList = [48] := HSl.out.trans hz
        clear HP HSl HI HA hss
        go_wp2
        go_ret
        exact ⟨by rw [hR]; rfl, rfl⟩
      · have hS0 : (S.toList == [48]) = false := by rw [HSl.out, beq_eq_false_iff_ne]; exact hz
        by_cases hin : 1 ≤ l.length ∧ l.length ≤ 10
        · have hix0 : ∀ u : World, (Instr.index 9 (.string S) (.int .i64 0)).run Tryz.prog u = .ok (.int .u8 (l[0].toNat : Int)) u := HI.out 0 (by omega)
          have hh : l.head? = some l[0] := by rw [List.head?_eq_getElem?, List.getElem?_eq_getElem (by omega)]
          have hRx : Hid (R = !((l[0].toNat : Int) == 48)) := by
            by_cases h48 : l[0] = 48
            · have e : (l[0].toNat : Int) = 48 := by rw [h48]; rfl
              have hRf : R = false := by
                cases R
                · rfl
                · rcases (HP.out.1 rfl).2.2.1 with h1 | h1
                  · exact absurd (by match l, h1 with | [y], _ => exact congrArg (fun z => [z]) h48) hz
                  · exact absurd (by rw [hh, h48]) h1
              unfold Hid
              rw [hRf, e]; rfl
            · have e : ((l[0].toNat : Int) == 48) = false := by
                rw [beq_eq_false_iff_ne]
                intro e
                exact h48 (UInt8.toNat.inj (by show l[0].toNat = 48; omega))
              unfold Hid
              rw [e]
              exact HP.out.2 ⟨hin.1, hin.2, .inr (by rw [hh]; intro e; exact h48 (by simpa using e)), HA.out⟩
          have HW : Hid (∀ z, Calls Tryz.prog 43 #[.int .i64 (l.length : Int), .int .i64 1, .int .i64 10] z fun e w' => e = .returned (.bool true) ∧ w' = z) := fun z => by
            have h := within_any (l.length : Int) 1 10 z
            rw [(inB_iff _ _ _).2 ⟨by omega, by omega⟩] at h
            exact h
          clear HP hh
          generalize (l[0].toNat : Int) = x at *
          go_wp2_with (go_at_call 43; refine (HW.out _).mono ?_; rintro e w' ⟨rfl, rfl⟩)
          go_ret
          exact ⟨by rw [hRx.out]; rfl, rfl⟩
        · have hR : R = false := by
            cases R
            · rfl
            · have := HP.out.1 rfl
              exact absurd ⟨this.1, this.2.1⟩ hin
          have HW : Hid (∀ z, Calls Tryz.prog 43 #[.int .i64 (l.length : Int), .int .i64 1, .int .i64 10] z fun e w' => e = .returned (.bool false) ∧ w' = z) := fun z => by
            have h := within_any (l.length : Int) 1 10 z
            rw [(inB_not _ _ _).2 (by omega)] at h
            exact h
          clear HP
          go_wp2_with (go_at_call 43; refine (HW.out _).mono ?_; rintro e w' ⟨rfl, rfl⟩)
          go_ret
          exact ⟨by rw [hR]; simp [hS0], rfl⟩
set_option maxHeartbeats 8000000 in
set_option maxRecDepth 100000 in
theorem readNumbers_any (v : Value) (ws : List (List UInt8)) (w : World) (hv : Sl txC 1 w v (ws.map sOf)) (hl : ws.length ≤ 70000) (hw : ∀ x ∈ ws, x.length ≤ 65536) (he : ErrsP w) :
    Calls Tryz.prog 44 #[v] w fun e w' => ∃ v', e = .returned (.tuple #[v', .bool (ws.all numOk)]) ∧ (ws.all numOk = true → OwnG inC 1 3 w' w.heap.size v' (ws.map numV)) ∧ Below w.heap.size w w' := by
  obtain ⟨hlm, a, cap, rfl, hc⟩ := hv
  have hml : (ws.map sOf).length = ws.length := List.length_map ..
  have HC : Hid (∀ i, i < ws.length → ∃ b off, a = some ⟨b, off, none⟩ ∧ ∀ j (h : j < ws.length), w.cell? ⟨b, off + j, none⟩ = some (.string (sOf ws[j]))) := fun i hi => by
    obtain ⟨b, off, e, hj⟩ := hc i (by omega)
    refine ⟨b, off, e, fun j h => ?_⟩
    have := hj j (by omega) 0 _ rfl
    simpa using this
  have HW : Hid (∀ x ∈ ws, x.length ≤ 65536) := hw
  have HEr : Hid (ErrsP w) := he
  obtain ⟨R, hR⟩ : ∃ R, R = ws.all numOk := ⟨_, rfl⟩
  have HR : Hid (R = ws.all numOk) := hR
  rw [← hR]
  rw [List.length_map]
  clear hc hw hR hlm he
  go_enter Tryz.func44, Tryz.ntmps44
  go_wp2
  go_loopw [4, 11] (fun v i wr => ∃ k : Nat, k ≤ ws.length ∧ i = .int .i64 k ∧ OwnG inC 1 3 wr w.heap.size v ((ws.take k).map numV) ∧ (ws.take k).all numOk = true ∧ Below w.heap.size w wr ∧ w.heap.size ≤ wr.heap.size) (fun _ i _ => ws.length - (intOf i).toNat)
  case atStart => exact ⟨0, Nat.zero_le _, rfl, OwnG.nil _ _ _ _ _, rfl, Below.refl _ _, Nat.le_refl _⟩
  case round =>
    obtain ⟨k, hk, rfl, hO, hA, hB, hz⟩ := hrel
    have HO : Hid (OwnG inC 1 3 wr w.heap.size _ ((ws.take k).map numV)) := hO
    have HA : Hid ((ws.take k).all numOk = true) := hA
    have HB : Hid (Below w.heap.size w wr) := hB
    clear hO hA hB
    by_cases hlt : k < ws.length
    · obtain ⟨b, off, rfl, hj⟩ := HC.out k hlt
      have hcell : wr.cell? ⟨b, off + k, none⟩ = some (.string (sOf ws[k])) := (HB.out.cell (p := ⟨b, off + k, none⟩) (cell_lt (hj k hlt))).trans (hj k hlt)
      have HAt : Hid (Calls Tryz.prog 61 #[.string (sOf ws[k])] wr fun e w' => ∃ (n : Int) (ev : Value), e = .returned (.tuple #[.int .i64 n, ev]) ∧ ((ev = .nilIface ∧ Lib.atoiAll ws[k] = .ok n) ∨ ((∃ t p, ev = .iface t p) ∧ ∀ v, Lib.atoiAll ws[k] ≠ .ok v)) ∧ Below wr.heap.size wr w') := atoi_any ws[k] (HW.out _ (List.getElem_mem hlt)) wr (HEr.out.below HB.out)
      have HIn : Hid (∀ z, Calls Tryz.prog 62 #[.string (sOf ws[k])] z fun e w' => e = .returned (.bool (numOk ws[k])) ∧ w' = z) := fun z => isNumber_any ws[k] (HW.out _ (List.getElem_mem hlt)) z
      have HAn : Hid (numOk ws[k] = true → (ws.take (k + 1)).all numOk = true) := fun h => all_takeP hlt _ HA.out h
      have HAf : Hid (numOk ws[k] = false → ws.all numOk = false) := fun h => all_noP hlt _ h
      have HT : Hid ((ws.take k).map numV ++ [numV ws[k]] = (ws.take (k + 1)).map numV) := numsV_take hlt
      have HNa : Hid (numOk ws[k] = true → Lib.atoiAll ws[k] = .ok (numV ws[k])) := atoi_num
      have hkl : (k : Int) < (ws.length : Int) := by omega
      have hl9 : ((ws.take k).map numV).length ≤ 70000 := by rw [List.length_map, List.length_take]; omega
      clear hj
      cases hnk : numOk ws[k]
      · rw [hnk] at HIn
        have hbad := HAf.out hnk
        clear hnk HAn HAf HT HNa
        generalize Lib.atoiAll ws[k] = AL at *
        generalize sOf ws[k] = S at *
        go_wp2_with (first
          | (go_at_call 61; refine Calls.mono HAt.out ?_; rintro e w1 ⟨n, ev, rfl, hev, hb1⟩; have HB1 : Hid (Below w.heap.size w w1) := HB.out.trans (hb1.mono hz); clear hb1; rcases hev with ⟨rfl, _⟩ | ⟨⟨t, p, rfl⟩, _⟩)
          | (go_at_call 62; refine (HIn.out _).mono ?_; rintro e w' ⟨rfl, hww⟩; have hww2 := hww.symm; subst hww2))
        all_goals go_ret2
        all_goals exact ⟨_, by rw [HR.out, hbad]; rfl, fun h => absurd (h.symm.trans (HR.out.trans hbad)) (by decide), HB1.out⟩
      · rw [hnk] at HIn
        have HAn2 : Hid ((ws.take (k + 1)).all numOk = true) := HAn.out hnk
        have HNb : Hid (Lib.atoiAll ws[k] = .ok (numV ws[k])) := HNa.out hnk
        clear hnk HAn HAf HNa
        rw [HNb.out] at HAt
        generalize sOf ws[k] = S at *
        generalize numV ws[k] = n at *
        go_wp2_with (first
          | (go_at_call 61; refine Calls.mono HAt.out ?_; rintro e w1 ⟨n', ev, rfl, hev, hb1⟩; have HB1 : Hid (Below w.heap.size w w1) := HB.out.trans (hb1.mono hz); have HO1 : Hid (OwnG inC 1 3 w1 w.heap.size _ ((ws.take k).map numV)) := HO.out.below hb1; have hz1 : w.heap.size ≤ w1.heap.size := Nat.le_trans hz hb1.size; clear hb1; obtain ⟨rfl, hn⟩ : ev = .nilIface ∧ n' = n := (by rcases hev with ⟨h1, h2⟩ | ⟨_, h2⟩; exact ⟨h1, (Lib.NumEnd.ok.inj h2).symm⟩; exact absurd rfl (h2 _)); subst hn; clear hev)
          | (go_at_call 62; refine (HIn.out _).mono ?_; rintro e w' ⟨rfl, hww⟩; have hww2 := hww.symm; subst hww2)
          | (at_builtin; refine wpl_appendG inLaw rfl (.tmp 27) (.tmp 29) rfl _ (HO1.out.below ((Below.refl _ _).alloc (Nat.le_refl _) _)) rfl (w1.heap.size) 1 (Blk.new _ _ _).range rfl (by omega) (by simp; omega) ?_; intro v2 w2 ho2 hg2; have HB2 : Hid (Below w.heap.size w w2) := (HB1.out.alloc hz1 _).trans (growG hg2 (HO1.out.below ((Below.refl _ _).alloc (Nat.le_refl _) _)) (by simp; omega)); have hz2 : w.heap.size ≤ w2.heap.size := (by have := hg2.g.size; simp at this; omega)))
        go_roundw
        case rel => exact ⟨k + 1, by omega, by go_num, by rw [← HT.out]; exact ho2, HAn2.out, HB2.out, hz2⟩
        case measure => simp [intOf]; omega
    · obtain rfl : k = ws.length := by omega
      rw [List.take_length] at HO HA
      go_wp2
      go_ret2
      exact ⟨_, by rw [HR.out, HA.out]; rfl, fun _ => HO.out, HB.out⟩
end Go.Proofs.YtanpindbhdeomaaGreatDoor
