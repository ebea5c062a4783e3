/-
  spec.l1drawEntries.
-/
import Derived.Test.YtfcmffdljfljkaaDrawC
import Derived.Test.YtfcmffdljfljkaaEntsOwn
import Derived.Test.YtfcmffdljfljkaaGate
import Derived.Test.YtfcmffdljfljkaaGround
namespace Go.Proofs.Ytfcmffdljfljkaa
open Go.RowKit
set_option linter.unusedVariables false
set_option linter.unusedSimpArgs false

theorem infoEnt7 : (Try.prog.info? 91).map (·.size) = some 7 := by kernel_rfl
theorem infoCmd6 : (Try.prog.info? 89).map (·.size) = some 6 := by kernel_rfl
theorem entAt_at (w : World) (e : Ent) : EntAt (w.alloc (.cells #[.int .i64 e.t, .int .i64 e.cl, .int .i64 e.sq, .int .i64 e.op, .string e.k, .string e.v, .string e.o] 91)) w.heap.size 0 e := by
  unfold EntAt
  simp [World.cell?_alloc_new]
theorem size_setC {g : Nat} : ∀ (vs : List Value) (o : Nat) (w : World), (w.setCells g o vs).heap.size = w.heap.size
  | [], _, _ => rfl
  | v :: vs, o, w => (size_setC vs (o + 1) _).trans (by simp [World.setCell])
theorem setC_other {g k : Nat} (h : k ≠ g) : ∀ (vs : List Value) (o : Nat) (w : World), (w.setCells g o vs).heap[k]? = w.heap[k]?
  | [], _, _ => rfl
  | v :: vs, o, w => (setC_other h vs (o + 1) _).trans (Below.heap_setCell w ⟨g, o, none⟩ v k h)
theorem growCells {w w' : World} {g b o : Nat} {vs : List Value} (h : w.grownBy w' (some g)) (hb : w.heap.size ≤ b) : w.grownBy (w'.setCells b o vs) (some g) := by
  have hB := below_setCells (B := b) (w0 := w') (Nat.le_refl _) vs o w' (Below.refl _ _)
  exact ⟨hB.os.trans h.os, hB.tape.trans h.tape, hB.output.trans h.output, Nat.le_trans h.size hB.size, fun k hk hne => (hB.block k (by omega)).trans (h.block k hk hne)⟩
theorem srcCells {w : World} {g b : Nat} {v : Value} {l : List Int} {k : Nat} {t m1 m2 m3 : Int} {m4 m5 m6 : ByteArray} (h : Src w g v l k) (hb : Blk w b #[.int .i64 t, .int .i64 0, .int .i64 0, .int .i64 0, .string ⟨#[]⟩, .string ⟨#[]⟩, .string ⟨#[]⟩] 91) (hne : b ≠ g) :
    Src (w.setCells b 1 [.int .i64 m1, .int .i64 m2, .int .i64 m3, .string m4, .string m5, .string m6]) g v l k := by
  have h1 := h.setB hb hne 1 (by simp) (noU8_of rfl) (.int .i64 m1)
  have b1 : Blk _ b #[.int .i64 t, .int .i64 m1, .int .i64 0, .int .i64 0, .string ⟨#[]⟩, .string ⟨#[]⟩, .string ⟨#[]⟩] 91 := hb.set 1 (.int .i64 m1)
  have h2 := h1.setB b1 hne 2 (by simp) (noU8_of rfl) (.int .i64 m2)
  have b2 : Blk _ b #[.int .i64 t, .int .i64 m1, .int .i64 m2, .int .i64 0, .string ⟨#[]⟩, .string ⟨#[]⟩, .string ⟨#[]⟩] 91 := b1.set 2 (.int .i64 m2)
  have h3 := h2.setB b2 hne 3 (by simp) (noU8_of rfl) (.int .i64 m3)
  have b3 : Blk _ b #[.int .i64 t, .int .i64 m1, .int .i64 m2, .int .i64 m3, .string ⟨#[]⟩, .string ⟨#[]⟩, .string ⟨#[]⟩] 91 := b2.set 3 (.int .i64 m3)
  have h4 := h3.setB b3 hne 4 (by simp) (noU8_of rfl) (.string m4)
  have b4 : Blk _ b #[.int .i64 t, .int .i64 m1, .int .i64 m2, .int .i64 m3, .string m4, .string ⟨#[]⟩, .string ⟨#[]⟩] 91 := b3.set 4 (.string m4)
  have h5 := h4.setB b4 hne 5 (by simp) (noU8_of rfl) (.string m5)
  have b5 : Blk _ b #[.int .i64 t, .int .i64 m1, .int .i64 m2, .int .i64 m3, .string m4, .string m5, .string ⟨#[]⟩] 91 := b4.set 5 (.string m5)
  exact h5.setB b5 hne 6 (by simp) (noU8_of rfl) (.string m6)
theorem srcGrew {w0 w w' wo : World} {g : Nat} {v : Value} {l : List Int} {k : Nat} {u u' : Value} {E : List Ent} (h : Src w g v l k) (h0 : Bs w0 v l) (hw : w0.heap.size ≤ w.heap.size) (hg : Grew w u w' u') (ho : OwnE wo w0.heap.size u E) (hg0 : g < w0.heap.size) : Src w' g v l k := by
  have hb : Below w0.heap.size w w' := (Below.refl _ _).grown hg.g hw (fun k hk => (ho.2.lt k hk).1)
  obtain ⟨h1, h2, ⟨hl, h8, a, cap, rfl, hc⟩, h4, h5⟩ := h
  obtain ⟨_, _, a', cap', e, hc0⟩ := h0
  injection e with e1 e2 e3
  subst e1 e3
  refine ⟨Nat.lt_of_lt_of_le h1 hb.size, fun i => by rw [hb.frozen (p := ⟨g, i, none⟩) hg0]; exact h2 i, ⟨hl, h8, a, cap, rfl, fun i hi => ?_⟩, (hb.cell (p := ⟨g, 0, none⟩) hg0).trans h4, (hb.cell (p := ⟨g, 1, none⟩) hg0).trans h5⟩
  obtain ⟨b, off, rfl, hj⟩ := hc i hi
  obtain ⟨b', off', e', hj'⟩ := hc0 i hi
  injection e' with e'
  injection e' with e1' e2'
  subst e1' e2'
  exact ⟨b, off, rfl, fun m hm => (hb.cell (p := ⟨b, off + m, none⟩) (cell_lt (hj' m hm))).trans (hj m hm)⟩
theorem growOwn {w w1 w' : World} {g : Nat} {v v' : Value} {l : List Ent} {wo : World} (h : w.grownBy w1 (some g)) (hg : Grew w1 v w' v') (ho : OwnE wo w.heap.size v l) : w.grownBy w' (some g) :=
  ⟨hg.g.os.trans h.os, hg.g.tape.trans h.tape, hg.g.output.trans h.output, Nat.le_trans h.size hg.g.size, fun k hk hne => (hg.g.block k (Nat.lt_of_lt_of_le hk h.size) (fun e => by have := (ho.2.lt k e.symm).1; omega)).trans (h.block k hk hne)⟩
/-- one drawn entry: its term, itself, where the draws stand behind it -/
def entT (l : List Int) (k : Nat) (t : Int) : Int := if pickV l k 5 = 0 ∧ t < 1073741824 then t + 1 else t
def entE (l : List Int) (k : Nat) (t : Int) : Ent := if pickV l (k + 1) 6 = 0 then ⟨entT l k t, 0, 0, 0, ⟨#[]⟩, ⟨#[]⟩, ⟨#[]⟩⟩ else ⟨entT l k t, cmdCl l (k + 1 + 1), cmdSq l (k + 1 + 1), cmdOp l (k + 1 + 1), cmdKy l (k + 1 + 1), cmdVl l (k + 1 + 1), cmdOl l (k + 1 + 1)⟩
def entKn (l : List Int) (k : Nat) : Nat := if pickV l (k + 1) 6 = 0 then k + 1 + 1 else cmdK l (k + 1 + 1)
/-- n drawn entries -/
def entsD (l : List Int) (k : Nat) (t : Int) : Nat → List Ent × Nat × Int
  | 0 => ([], k, t)
  | n + 1 => ((entsD l k t n).1 ++ [entE l (entsD l k t n).2.1 (entsD l k t n).2.2], entKn l (entsD l k t n).2.1, entT l (entsD l k t n).2.1 (entsD l k t n).2.2)
theorem entsD_len (l : List Int) (k : Nat) (t : Int) (n : Nat) : (entsD l k t n).1.length = n := by
  induction n with
  | zero => rfl
  | succ n ih => rw [entsD, List.length_append, ih]; rfl
theorem entKn_le (l : List Int) (k : Nat) : k < entKn l k ∧ entKn l k ≤ k + 16 := by
  have := cmdK_le l (k + 1 + 1)
  unfold entKn
  split <;> omega
theorem entsD_k (l : List Int) (k : Nat) (t : Int) (n : Nat) : k ≤ (entsD l k t n).2.1 ∧ (entsD l k t n).2.1 ≤ k + 16 * n := by
  induction n with
  | zero => exact ⟨Nat.le_refl _, Nat.le_refl _⟩
  | succ n ih =>
    have := entKn_le l (entsD l k t n).2.1
    rw [entsD]
    exact ⟨by show k ≤ entKn l _; omega, by show entKn l _ ≤ _; omega⟩
theorem entT_le (l : List Int) (k : Nat) (t : Int) (h0 : 0 ≤ t) (h1 : t ≤ 1073741824) : t ≤ entT l k t ∧ entT l k t ≤ 1073741824 := by
  unfold entT
  split <;> omega
theorem entsD_t (l : List Int) (k : Nat) (t : Int) (n : Nat) (h0 : 0 ≤ t) (h1 : t ≤ 1073741824) : t ≤ (entsD l k t n).2.2 ∧ (entsD l k t n).2.2 ≤ 1073741824 := by
  induction n with
  | zero => exact ⟨Int.le_refl _, h1⟩
  | succ n ih =>
    have := entT_le l (entsD l k t n).2.1 (entsD l k t n).2.2 (by omega) ih.2
    rw [entsD]
    exact ⟨Int.le_trans ih.1 this.1, this.2⟩
theorem entE_fits (l : List Int) (k : Nat) (t : Int) : (entE l k t).fits := by
  have h := cmd_facts l (k + 1 + 1)
  unfold entE
  split
  · exact ⟨(by decide : (⟨#[]⟩ : ByteArray).size ≤ maxLen), (by decide : (⟨#[]⟩ : ByteArray).size ≤ maxLen), (by decide : (⟨#[]⟩ : ByteArray).size ≤ maxLen)⟩
  · obtain ⟨_, _, _, _, _, _, _, h1, h2⟩ := h
    unfold Ent.fits maxLen
    dsimp only
    omega

set_option maxHeartbeats 16000000 in
set_option maxRecDepth 100000 in
theorem l1drawEntries_any (g : Nat) (w : World) (v : Value) (l : List Int) (k n : Nat) (t : Int) (hL : l.length ≤ 1048576) (hk : k ≤ 600000000) (hn : n ≤ 100000) (ht : 0 ≤ t ∧ t ≤ 1073741824) (h : Src w g v l k) :
    Calls Try.prog 117 #[.pointer (some ⟨g, 0, none⟩), .int .i64 n, .int .i64 t] w fun r w' => ∃ ev, r = .returned ev ∧ OwnE w' w.heap.size ev (entsD l k t n).1 ∧ Src w' g v l (entsD l k t n).2.1 ∧ w.grownBy w' (some g) := by
  have HS : Hid (Src w g v l k) := h
  have hg0 : g < w.heap.size := h.lt
  clear h
  go_enter Try.func117, Try.ntmps117
  go_wp2
  go_loopw [2, 7, 8] (fun t2 es i wr => ∃ j : Nat, j ≤ n ∧ i = .int .i64 j ∧ t2 = .int .i64 (entsD l k t j).2.2 ∧ OwnE wr w.heap.size es (entsD l k t j).1 ∧ Src wr g v l (entsD l k t j).2.1 ∧ w.grownBy wr (some g)) (fun _ _ i _ => n - (intOf i).toNat)
  case atStart => exact ⟨0, Nat.zero_le _, rfl, rfl, OwnE.made _ _ (Nat.le_refl _), HS.out.below ((Below.refl _ _).alloc (Nat.le_refl _) _), World.grownBy_alloc _ _ _⟩
  case round =>
    obtain ⟨j, hj, rfl, rfl, ho, hs, hgr⟩ := hrel
    obtain ⟨la, lc, es⟩ := ho.shape
    rw [entsD_len] at es
    subst es
    have hkk := entsD_k l k t j
    have htt := entsD_t l k t j ht.1 ht.2
    have hz := hgr.size
    by_cases hlt : j < n
    · have hD : entsD l k t (j + 1) = ((entsD l k t j).1 ++ [entE l (entsD l k t j).2.1 (entsD l k t j).2.2], entKn l (entsD l k t j).2.1, entT l (entsD l k t j).2.1 (entsD l k t j).2.2) := rfl
      have hlen := entsD_len l k t j
      generalize (entsD l k t j).1 = L at *
      generalize (entsD l k t j).2.1 = K at *
      generalize (entsD l k t j).2.2 = TT at *
      have HO : Hid (OwnE wr w.heap.size (.slice la j lc) L) := ho
      have HGR : Hid (w.grownBy wr (some g)) := hgr
      have HD : Hid (entsD l k t (j + 1) = (L ++ [entE l K TT], entKn l K, entT l K TT)) := hD
      have HLen : Hid (L.length = j) := hlen
      have hfit := entE_fits l K TT
      have HP5 : Hid (Calls Try.prog 71 #[.pointer (some ⟨g, 0, none⟩), .int .i64 5] wr fun e w' => e = .returned (.int .i64 (pickV l K 5 : Nat)) ∧ Src w' g v l (K + 1) ∧ wr.grownBy w' (some g)) := l1pick_any g wr v l K 5 hL (by omega) (by decide) (by decide) hs
      have HP6 : ∀ u : World, Src u g v l (K + 1) → Hid (Calls Try.prog 71 #[.pointer (some ⟨g, 0, none⟩), .int .i64 6] u fun e w' => e = .returned (.int .i64 (pickV l (K + 1) 6 : Nat)) ∧ Src w' g v l (K + 1 + 1) ∧ u.grownBy w' (some g)) := fun u h => l1pick_any g u v l (K + 1) 6 hL (by omega) (by decide) (by decide) h
      have HCm : ∀ u : World, Src u g v l (K + 1 + 1) → Hid (Calls Try.prog 124 #[.pointer (some ⟨g, 0, none⟩)] u fun r w' => r = .returned (.agg #[.int .i64 (cmdCl l (K + 1 + 1)), .int .i64 (cmdSq l (K + 1 + 1)), .int .i64 (cmdOp l (K + 1 + 1)), .string (cmdKy l (K + 1 + 1)), .string (cmdVl l (K + 1 + 1)), .string (cmdOl l (K + 1 + 1))]) ∧ Src w' g v l (cmdK l (K + 1 + 1)) ∧ u.grownBy w' (some g)) := fun u h => l1drawCmd_any g u v l (K + 1 + 1) hL (by omega) h
      have hT5 : entT l K TT = if pickV l K 5 = 0 ∧ TT < 1073741824 then TT + 1 else TT := rfl
      have hE6 : entE l K TT = if pickV l (K + 1) 6 = 0 then ⟨entT l K TT, 0, 0, 0, ⟨#[]⟩, ⟨#[]⟩, ⟨#[]⟩⟩ else ⟨entT l K TT, cmdCl l (K + 1 + 1), cmdSq l (K + 1 + 1), cmdOp l (K + 1 + 1), cmdKy l (K + 1 + 1), cmdVl l (K + 1 + 1), cmdOl l (K + 1 + 1)⟩ := rfl
      have hK6 : entKn l K = if pickV l (K + 1) 6 = 0 then K + 1 + 1 else cmdK l (K + 1 + 1) := rfl
      have b5 := pickV_lt l K 5 (by decide)
      have b6 := pickV_lt l (K + 1) 6 (by decide)
      generalize entE l K TT = E at *
      generalize entKn l K = KN at *
      generalize entT l K TT = TN at *
      generalize pickV l K 5 = p5 at *
      generalize pickV l (K + 1) 6 = p6 at *
      generalize cmdCl l (K + 1 + 1) = m1 at *
      generalize cmdSq l (K + 1 + 1) = m2 at *
      generalize cmdOp l (K + 1 + 1) = m3 at *
      generalize cmdKy l (K + 1 + 1) = m4 at *
      generalize cmdVl l (K + 1 + 1) = m5 at *
      generalize cmdOl l (K + 1 + 1) = m6 at *
      generalize cmdK l (K + 1 + 1) = KC at *
      have hjn : (j : Int) < (n : Int) := by omega
      have y1 : True := trivial
      clear ho hs hgr hD hlen
      rcases (show (p5 ≠ 0 ∨ ¬ TT < 1073741824) ∨ (p5 = 0 ∧ TT < 1073741824) by omega) with h5 | ⟨h5, h5'⟩
      · obtain rfl : TN = TT := by rw [hT5, if_neg (by omega)]
        rcases (show p5 ≠ 0 ∨ (p5 = 0 ∧ ¬ TN < 1073741824) by omega) with h5 | ⟨rfl, h5⟩
        · have n5 : ((p5 : Int) == 0) = false := by rw [beq_eq_false_iff_ne]; omega
          clear hT5
          by_cases h6 : p6 = 0
          · subst h6
            have HE : Hid (E = ⟨TN, 0, 0, 0, ⟨#[]⟩, ⟨#[]⟩, ⟨#[]⟩⟩) := (show E = ⟨TN, 0, 0, 0, ⟨#[]⟩, ⟨#[]⟩, ⟨#[]⟩⟩ by rw [hE6, if_pos rfl])
            obtain rfl : KN = K + 1 + 1 := by rw [hK6, if_pos rfl]
            clear hE6 hK6
            go_wp2_with (first
              | (go_at_call 71; clear y1; refine Calls.mono HP5.out ?_; rintro e w1 ⟨rfl, hs1, hg1⟩; have z1 := hg1.size; have HS1 : Hid (Src w1 g v l (K + 1)) := hs1; have HG1 : Hid (w.grownBy w1 (some g)) := grownBy_trans HGR.out hg1; have HO1 : Hid (OwnE w1 w.heap.size (.slice la j lc) L) := HO.out.grown hg1 hg0; clear hs1 hg1)
              | (have hBA := HS1; refine gate_st 91 (.tmp 9) _ rfl ?_; clear hBA; refine wpl_store_last rfl 91 (.tmp 9) _ rfl (w1.heap.size) rfl rfl rfl infoEnt7 rfl rfl (by simp [Value.oneCell']) ?_; obtain ⟨W2, hW2⟩ : ∃ W2, W2 = w1.alloc (.cells #[.int .i64 TN, .int .i64 0, .int .i64 0, .int .i64 0, .string ⟨#[]⟩, .string ⟨#[]⟩, .string ⟨#[]⟩] 91) := ⟨_, rfl⟩; rw [← hW2]; have HS2 : Hid (Src W2 g v l (K + 1)) := (by rw [hW2]; exact HS1.out.alloc _); have HE2 : Hid (Blk W2 w1.heap.size #[.int .i64 TN, .int .i64 0, .int .i64 0, .int .i64 0, .string ⟨#[]⟩, .string ⟨#[]⟩, .string ⟨#[]⟩] 91) := (by rw [hW2]; exact Blk.new _ _ _); have HG2 : Hid (w.grownBy W2 (some g)) := (by rw [hW2]; exact grownBy_trans HG1.out (World.grownBy_alloc _ _ _)); have HO2 : Hid (OwnE W2 w.heap.size (.slice la j lc) L) := (by rw [hW2]; exact HO1.out.below ((Below.refl _ _).alloc (Nat.le_refl _) _)); have hol : Hid (∀ q, (Value.slice la j lc).ownBlock = some q → q < w1.heap.size) := (fun q hq => (HO1.out.2.lt q hq).2); clear hW2)
              | (go_at_call 71; refine Calls.mono (HP6 _ HS2.out).out ?_; rintro e w3 ⟨rfl, hs3, hg3⟩; have z3 := hg3.size; have z2 := HE2.out.lt; have HS3 : Hid (Src w3 g v l (K + 1 + 1)) := hs3; have HE3 : Hid (Blk w3 w1.heap.size #[.int .i64 TN, .int .i64 0, .int .i64 0, .int .i64 0, .string ⟨#[]⟩, .string ⟨#[]⟩, .string ⟨#[]⟩] 91) := HE2.out.grown hg3 (by omega); have HG3 : Hid (w.grownBy w3 (some g)) := grownBy_trans HG2.out hg3; have HO3 : Hid (OwnE w3 w.heap.size (.slice la j lc) L) := HO2.out.grown hg3 hg0; clear hs3 hg3)
              | (have hBA := HE3; refine gate_ld 91 (.tmp 9) rfl ?_; clear hBA; refine wpl_load_blk rfl 91 (.tmp 9) rfl (w1.heap.size) rfl HE3.out Try.underlying91 rfl infoEnt7 rfl ?_; have HEA : Hid (EntAt (w3.alloc (.cells #[.int .i64 TN, .int .i64 0, .int .i64 0, .int .i64 0, .string ⟨#[]⟩, .string ⟨#[]⟩, .string ⟨#[]⟩] 91)) w3.heap.size 0 E) := (by rw [HE.out]; exact entAt_at w3 ⟨TN, 0, 0, 0, ⟨#[]⟩, ⟨#[]⟩, ⟨#[]⟩⟩))
              | (at_builtin; refine wpl_appendE rfl (.tmp 33) (.tmp 35) rfl E hfit (OwnE.below HO3.out ((Below.refl _ _).alloc (Nat.le_refl _) _)) rfl w3.heap.size 1 HEA.out rfl (by rw [HLen.out]; omega) (by have hzz := HG3.out.size; simp; omega) ?_; intro v1 w9 ho9 hg9; have HO9 : Hid (OwnE w9 w.heap.size v1 (L ++ [E])) := ho9; have HS9 : Hid (Src w9 g v l (K + 1 + 1)) := srcGrew (HS3.out.alloc _) HS.out.2.2.1 (by have hzz := HG3.out.size; simp; omega) hg9 HO3.out hg0; have HG9 : Hid (w.grownBy w9 (some g)) := growOwn (grownBy_trans HG3.out (World.grownBy_alloc _ _ _)) hg9 HO3.out; clear ho9 hg9))
            go_roundw
            case rel => exact ⟨j + 1, by omega, by go_num, by rw [HD.out], by rw [HD.out]; exact HO9.out, by rw [HD.out]; exact HS9.out, HG9.out⟩
            case measure => simp [intOf]; omega
          · have n6 : ((p6 : Int) != 0) = true := by rw [bne_iff_ne]; omega
            have HE : Hid (E = ⟨TN, m1, m2, m3, m4, m5, m6⟩) := (show E = ⟨TN, m1, m2, m3, m4, m5, m6⟩ by rw [hE6, if_neg h6])
            obtain rfl : KN = KC := by rw [hK6, if_neg h6]
            clear hE6 hK6
            go_wp2_with (first
              | (go_at_call 71; clear y1; refine Calls.mono HP5.out ?_; rintro e w1 ⟨rfl, hs1, hg1⟩; have z1 := hg1.size; have HS1 : Hid (Src w1 g v l (K + 1)) := hs1; have HG1 : Hid (w.grownBy w1 (some g)) := grownBy_trans HGR.out hg1; have HO1 : Hid (OwnE w1 w.heap.size (.slice la j lc) L) := HO.out.grown hg1 hg0; clear hs1 hg1)
              | (have hBA := HS1; refine gate_st 91 (.tmp 9) _ rfl ?_; clear hBA; refine wpl_store_last rfl 91 (.tmp 9) _ rfl (w1.heap.size) rfl rfl rfl infoEnt7 rfl rfl (by simp [Value.oneCell']) ?_; obtain ⟨W2, hW2⟩ : ∃ W2, W2 = w1.alloc (.cells #[.int .i64 TN, .int .i64 0, .int .i64 0, .int .i64 0, .string ⟨#[]⟩, .string ⟨#[]⟩, .string ⟨#[]⟩] 91) := ⟨_, rfl⟩; rw [← hW2]; have HS2 : Hid (Src W2 g v l (K + 1)) := (by rw [hW2]; exact HS1.out.alloc _); have HE2 : Hid (Blk W2 w1.heap.size #[.int .i64 TN, .int .i64 0, .int .i64 0, .int .i64 0, .string ⟨#[]⟩, .string ⟨#[]⟩, .string ⟨#[]⟩] 91) := (by rw [hW2]; exact Blk.new _ _ _); have HG2 : Hid (w.grownBy W2 (some g)) := (by rw [hW2]; exact grownBy_trans HG1.out (World.grownBy_alloc _ _ _)); have HO2 : Hid (OwnE W2 w.heap.size (.slice la j lc) L) := (by rw [hW2]; exact HO1.out.below ((Below.refl _ _).alloc (Nat.le_refl _) _)); have hol : Hid (∀ q, (Value.slice la j lc).ownBlock = some q → q < w1.heap.size) := (fun q hq => (HO1.out.2.lt q hq).2); clear hW2)
              | (go_at_call 71; refine Calls.mono (HP6 _ HS2.out).out ?_; rintro e w3 ⟨rfl, hs3, hg3⟩; have z3 := hg3.size; have z2 := HE2.out.lt; have HS3 : Hid (Src w3 g v l (K + 1 + 1)) := hs3; have HE3 : Hid (Blk w3 w1.heap.size #[.int .i64 TN, .int .i64 0, .int .i64 0, .int .i64 0, .string ⟨#[]⟩, .string ⟨#[]⟩, .string ⟨#[]⟩] 91) := HE2.out.grown hg3 (by omega); have HG3 : Hid (w.grownBy w3 (some g)) := grownBy_trans HG2.out hg3; have HO3 : Hid (OwnE w3 w.heap.size (.slice la j lc) L) := HO2.out.grown hg3 hg0; clear hs3 hg3)
              | (go_at_call 124; refine Calls.mono (HCm _ HS3.out).out ?_; rintro e w4 ⟨rfl, hs4, hg4⟩; have z4 := hg4.size; have z4b := HE3.out.lt; have HS4 : Hid (Src w4 g v l KN) := hs4; have HE4 : Hid (Blk w4 w1.heap.size #[.int .i64 TN, .int .i64 0, .int .i64 0, .int .i64 0, .string ⟨#[]⟩, .string ⟨#[]⟩, .string ⟨#[]⟩] 91) := HE3.out.grown hg4 (by omega); have HG4 : Hid (w.grownBy w4 (some g)) := grownBy_trans HG3.out hg4; have HO4 : Hid (OwnE w4 w.heap.size (.slice la j lc) L) := HO3.out.grown hg4 hg0; have hTh : Hid (w4.there w1.heap.size 1 6) := there_part HE4.out.there 1 6 (by simp); clear hs4 hg4)
              | (have hBA := HE4; refine gate_store 89 (.tmp 32) (.tmp 31) rfl ?_; clear hBA; refine wpList_store_mid rfl 89 (.tmp 32) (.tmp 31) rfl (w1.heap.size) 1 #[.int .i64 m1, .int .i64 m2, .int .i64 m3, .string m4, .string m5, .string m6] rfl rfl hTh.out infoCmd6 (by simp [Value.oneCell']) ?_; obtain ⟨U, hU⟩ : ∃ U, U = w4.setCells w1.heap.size 1 [.int .i64 m1, .int .i64 m2, .int .i64 m3, .string m4, .string m5, .string m6] := ⟨_, rfl⟩; rw [show w4.setCells w1.heap.size 1 (#[.int .i64 m1, .int .i64 m2, .int .i64 m3, .string m4, .string m5, .string m6] : Array Value).toList = U from hU.symm]; have hzU : Hid (U.heap.size = w4.heap.size) := (by rw [hU]; exact size_setC _ _ _); have HEU : Hid (Blk U w1.heap.size #[.int .i64 TN, .int .i64 m1, .int .i64 m2, .int .i64 m3, .string m4, .string m5, .string m6] 91) := (by rw [hU]; exact (((((HE4.out.set 1 _).set 2 _).set 3 _).set 4 _).set 5 _).set 6 _); have HSU : Hid (Src U g v l KN) := (by rw [hU]; exact srcCells HS4.out HE4.out (by omega)); have HGU : Hid (w.grownBy U (some g)) := (by rw [hU]; exact growCells HG4.out (by omega)); have HOU : Hid (OwnE U w.heap.size (.slice la j lc) L) := (by rw [hU]; exact HO4.out.block fun q hq => setC_other (by have := hol.out q hq; omega) _ _ _); clear hU)
              | (have hBA := HEU; refine gate_ld 91 (.tmp 9) rfl ?_; clear hBA; refine wpl_load_blk rfl 91 (.tmp 9) rfl (w1.heap.size) rfl HEU.out Try.underlying91 rfl infoEnt7 rfl ?_; have HEA : Hid (EntAt (U.alloc (.cells #[.int .i64 TN, .int .i64 m1, .int .i64 m2, .int .i64 m3, .string m4, .string m5, .string m6] 91)) U.heap.size 0 E) := (by rw [HE.out]; exact entAt_at U ⟨TN, m1, m2, m3, m4, m5, m6⟩))
              | (at_builtin; refine wpl_appendE rfl (.tmp 33) (.tmp 35) rfl E hfit (OwnE.below HOU.out ((Below.refl _ _).alloc (Nat.le_refl _) _)) rfl U.heap.size 1 HEA.out rfl (by rw [HLen.out]; omega) (by have hzz := HGU.out.size; simp; omega) ?_; intro v1 w9 ho9 hg9; have HO9 : Hid (OwnE w9 w.heap.size v1 (L ++ [E])) := ho9; have HS9 : Hid (Src w9 g v l KN) := srcGrew (HSU.out.alloc _) HS.out.2.2.1 (by have hzz := HGU.out.size; simp; omega) hg9 HOU.out hg0; have HG9 : Hid (w.grownBy w9 (some g)) := growOwn (grownBy_trans HGU.out (World.grownBy_alloc _ _ _)) hg9 HOU.out; clear ho9 hg9))
            go_roundw
            case rel => exact ⟨j + 1, by omega, by go_num, by rw [HD.out], by rw [HD.out]; exact HO9.out, by rw [HD.out]; exact HS9.out, HG9.out⟩
            case measure => simp [intOf]; omega
        · skip
          clear hT5
          by_cases h6 : p6 = 0
          · subst h6
            have HE : Hid (E = ⟨TN, 0, 0, 0, ⟨#[]⟩, ⟨#[]⟩, ⟨#[]⟩⟩) := (show E = ⟨TN, 0, 0, 0, ⟨#[]⟩, ⟨#[]⟩, ⟨#[]⟩⟩ by rw [hE6, if_pos rfl])
            obtain rfl : KN = K + 1 + 1 := by rw [hK6, if_pos rfl]
            clear hE6 hK6
            go_wp2_with (first
              | (go_at_call 71; clear y1; refine Calls.mono HP5.out ?_; rintro e w1 ⟨rfl, hs1, hg1⟩; have z1 := hg1.size; have HS1 : Hid (Src w1 g v l (K + 1)) := hs1; have HG1 : Hid (w.grownBy w1 (some g)) := grownBy_trans HGR.out hg1; have HO1 : Hid (OwnE w1 w.heap.size (.slice la j lc) L) := HO.out.grown hg1 hg0; clear hs1 hg1)
              | (have hBA := HS1; refine gate_st 91 (.tmp 9) _ rfl ?_; clear hBA; refine wpl_store_last rfl 91 (.tmp 9) _ rfl (w1.heap.size) rfl rfl rfl infoEnt7 rfl rfl (by simp [Value.oneCell']) ?_; obtain ⟨W2, hW2⟩ : ∃ W2, W2 = w1.alloc (.cells #[.int .i64 TN, .int .i64 0, .int .i64 0, .int .i64 0, .string ⟨#[]⟩, .string ⟨#[]⟩, .string ⟨#[]⟩] 91) := ⟨_, rfl⟩; rw [← hW2]; have HS2 : Hid (Src W2 g v l (K + 1)) := (by rw [hW2]; exact HS1.out.alloc _); have HE2 : Hid (Blk W2 w1.heap.size #[.int .i64 TN, .int .i64 0, .int .i64 0, .int .i64 0, .string ⟨#[]⟩, .string ⟨#[]⟩, .string ⟨#[]⟩] 91) := (by rw [hW2]; exact Blk.new _ _ _); have HG2 : Hid (w.grownBy W2 (some g)) := (by rw [hW2]; exact grownBy_trans HG1.out (World.grownBy_alloc _ _ _)); have HO2 : Hid (OwnE W2 w.heap.size (.slice la j lc) L) := (by rw [hW2]; exact HO1.out.below ((Below.refl _ _).alloc (Nat.le_refl _) _)); have hol : Hid (∀ q, (Value.slice la j lc).ownBlock = some q → q < w1.heap.size) := (fun q hq => (HO1.out.2.lt q hq).2); clear hW2)
              | (go_at_call 71; refine Calls.mono (HP6 _ HS2.out).out ?_; rintro e w3 ⟨rfl, hs3, hg3⟩; have z3 := hg3.size; have z2 := HE2.out.lt; have HS3 : Hid (Src w3 g v l (K + 1 + 1)) := hs3; have HE3 : Hid (Blk w3 w1.heap.size #[.int .i64 TN, .int .i64 0, .int .i64 0, .int .i64 0, .string ⟨#[]⟩, .string ⟨#[]⟩, .string ⟨#[]⟩] 91) := HE2.out.grown hg3 (by omega); have HG3 : Hid (w.grownBy w3 (some g)) := grownBy_trans HG2.out hg3; have HO3 : Hid (OwnE w3 w.heap.size (.slice la j lc) L) := HO2.out.grown hg3 hg0; clear hs3 hg3)
              | (have hBA := HE3; refine gate_ld 91 (.tmp 9) rfl ?_; clear hBA; refine wpl_load_blk rfl 91 (.tmp 9) rfl (w1.heap.size) rfl HE3.out Try.underlying91 rfl infoEnt7 rfl ?_; have HEA : Hid (EntAt (w3.alloc (.cells #[.int .i64 TN, .int .i64 0, .int .i64 0, .int .i64 0, .string ⟨#[]⟩, .string ⟨#[]⟩, .string ⟨#[]⟩] 91)) w3.heap.size 0 E) := (by rw [HE.out]; exact entAt_at w3 ⟨TN, 0, 0, 0, ⟨#[]⟩, ⟨#[]⟩, ⟨#[]⟩⟩))
              | (at_builtin; refine wpl_appendE rfl (.tmp 33) (.tmp 35) rfl E hfit (OwnE.below HO3.out ((Below.refl _ _).alloc (Nat.le_refl _) _)) rfl w3.heap.size 1 HEA.out rfl (by rw [HLen.out]; omega) (by have hzz := HG3.out.size; simp; omega) ?_; intro v1 w9 ho9 hg9; have HO9 : Hid (OwnE w9 w.heap.size v1 (L ++ [E])) := ho9; have HS9 : Hid (Src w9 g v l (K + 1 + 1)) := srcGrew (HS3.out.alloc _) HS.out.2.2.1 (by have hzz := HG3.out.size; simp; omega) hg9 HO3.out hg0; have HG9 : Hid (w.grownBy w9 (some g)) := growOwn (grownBy_trans HG3.out (World.grownBy_alloc _ _ _)) hg9 HO3.out; clear ho9 hg9))
            go_roundw
            case rel => exact ⟨j + 1, by omega, by go_num, by rw [HD.out], by rw [HD.out]; exact HO9.out, by rw [HD.out]; exact HS9.out, HG9.out⟩
            case measure => simp [intOf]; omega
          · have n6 : ((p6 : Int) != 0) = true := by rw [bne_iff_ne]; omega
            have HE : Hid (E = ⟨TN, m1, m2, m3, m4, m5, m6⟩) := (show E = ⟨TN, m1, m2, m3, m4, m5, m6⟩ by rw [hE6, if_neg h6])
            obtain rfl : KN = KC := by rw [hK6, if_neg h6]
            clear hE6 hK6
            go_wp2_with (first
              | (go_at_call 71; clear y1; refine Calls.mono HP5.out ?_; rintro e w1 ⟨rfl, hs1, hg1⟩; have z1 := hg1.size; have HS1 : Hid (Src w1 g v l (K + 1)) := hs1; have HG1 : Hid (w.grownBy w1 (some g)) := grownBy_trans HGR.out hg1; have HO1 : Hid (OwnE w1 w.heap.size (.slice la j lc) L) := HO.out.grown hg1 hg0; clear hs1 hg1)
              | (have hBA := HS1; refine gate_st 91 (.tmp 9) _ rfl ?_; clear hBA; refine wpl_store_last rfl 91 (.tmp 9) _ rfl (w1.heap.size) rfl rfl rfl infoEnt7 rfl rfl (by simp [Value.oneCell']) ?_; obtain ⟨W2, hW2⟩ : ∃ W2, W2 = w1.alloc (.cells #[.int .i64 TN, .int .i64 0, .int .i64 0, .int .i64 0, .string ⟨#[]⟩, .string ⟨#[]⟩, .string ⟨#[]⟩] 91) := ⟨_, rfl⟩; rw [← hW2]; have HS2 : Hid (Src W2 g v l (K + 1)) := (by rw [hW2]; exact HS1.out.alloc _); have HE2 : Hid (Blk W2 w1.heap.size #[.int .i64 TN, .int .i64 0, .int .i64 0, .int .i64 0, .string ⟨#[]⟩, .string ⟨#[]⟩, .string ⟨#[]⟩] 91) := (by rw [hW2]; exact Blk.new _ _ _); have HG2 : Hid (w.grownBy W2 (some g)) := (by rw [hW2]; exact grownBy_trans HG1.out (World.grownBy_alloc _ _ _)); have HO2 : Hid (OwnE W2 w.heap.size (.slice la j lc) L) := (by rw [hW2]; exact HO1.out.below ((Below.refl _ _).alloc (Nat.le_refl _) _)); have hol : Hid (∀ q, (Value.slice la j lc).ownBlock = some q → q < w1.heap.size) := (fun q hq => (HO1.out.2.lt q hq).2); clear hW2)
              | (go_at_call 71; refine Calls.mono (HP6 _ HS2.out).out ?_; rintro e w3 ⟨rfl, hs3, hg3⟩; have z3 := hg3.size; have z2 := HE2.out.lt; have HS3 : Hid (Src w3 g v l (K + 1 + 1)) := hs3; have HE3 : Hid (Blk w3 w1.heap.size #[.int .i64 TN, .int .i64 0, .int .i64 0, .int .i64 0, .string ⟨#[]⟩, .string ⟨#[]⟩, .string ⟨#[]⟩] 91) := HE2.out.grown hg3 (by omega); have HG3 : Hid (w.grownBy w3 (some g)) := grownBy_trans HG2.out hg3; have HO3 : Hid (OwnE w3 w.heap.size (.slice la j lc) L) := HO2.out.grown hg3 hg0; clear hs3 hg3)
              | (go_at_call 124; refine Calls.mono (HCm _ HS3.out).out ?_; rintro e w4 ⟨rfl, hs4, hg4⟩; have z4 := hg4.size; have z4b := HE3.out.lt; have HS4 : Hid (Src w4 g v l KN) := hs4; have HE4 : Hid (Blk w4 w1.heap.size #[.int .i64 TN, .int .i64 0, .int .i64 0, .int .i64 0, .string ⟨#[]⟩, .string ⟨#[]⟩, .string ⟨#[]⟩] 91) := HE3.out.grown hg4 (by omega); have HG4 : Hid (w.grownBy w4 (some g)) := grownBy_trans HG3.out hg4; have HO4 : Hid (OwnE w4 w.heap.size (.slice la j lc) L) := HO3.out.grown hg4 hg0; have hTh : Hid (w4.there w1.heap.size 1 6) := there_part HE4.out.there 1 6 (by simp); clear hs4 hg4)
              | (have hBA := HE4; refine gate_store 89 (.tmp 32) (.tmp 31) rfl ?_; clear hBA; refine wpList_store_mid rfl 89 (.tmp 32) (.tmp 31) rfl (w1.heap.size) 1 #[.int .i64 m1, .int .i64 m2, .int .i64 m3, .string m4, .string m5, .string m6] rfl rfl hTh.out infoCmd6 (by simp [Value.oneCell']) ?_; obtain ⟨U, hU⟩ : ∃ U, U = w4.setCells w1.heap.size 1 [.int .i64 m1, .int .i64 m2, .int .i64 m3, .string m4, .string m5, .string m6] := ⟨_, rfl⟩; rw [show w4.setCells w1.heap.size 1 (#[.int .i64 m1, .int .i64 m2, .int .i64 m3, .string m4, .string m5, .string m6] : Array Value).toList = U from hU.symm]; have hzU : Hid (U.heap.size = w4.heap.size) := (by rw [hU]; exact size_setC _ _ _); have HEU : Hid (Blk U w1.heap.size #[.int .i64 TN, .int .i64 m1, .int .i64 m2, .int .i64 m3, .string m4, .string m5, .string m6] 91) := (by rw [hU]; exact (((((HE4.out.set 1 _).set 2 _).set 3 _).set 4 _).set 5 _).set 6 _); have HSU : Hid (Src U g v l KN) := (by rw [hU]; exact srcCells HS4.out HE4.out (by omega)); have HGU : Hid (w.grownBy U (some g)) := (by rw [hU]; exact growCells HG4.out (by omega)); have HOU : Hid (OwnE U w.heap.size (.slice la j lc) L) := (by rw [hU]; exact HO4.out.block fun q hq => setC_other (by have := hol.out q hq; omega) _ _ _); clear hU)
              | (have hBA := HEU; refine gate_ld 91 (.tmp 9) rfl ?_; clear hBA; refine wpl_load_blk rfl 91 (.tmp 9) rfl (w1.heap.size) rfl HEU.out Try.underlying91 rfl infoEnt7 rfl ?_; have HEA : Hid (EntAt (U.alloc (.cells #[.int .i64 TN, .int .i64 m1, .int .i64 m2, .int .i64 m3, .string m4, .string m5, .string m6] 91)) U.heap.size 0 E) := (by rw [HE.out]; exact entAt_at U ⟨TN, m1, m2, m3, m4, m5, m6⟩))
              | (at_builtin; refine wpl_appendE rfl (.tmp 33) (.tmp 35) rfl E hfit (OwnE.below HOU.out ((Below.refl _ _).alloc (Nat.le_refl _) _)) rfl U.heap.size 1 HEA.out rfl (by rw [HLen.out]; omega) (by have hzz := HGU.out.size; simp; omega) ?_; intro v1 w9 ho9 hg9; have HO9 : Hid (OwnE w9 w.heap.size v1 (L ++ [E])) := ho9; have HS9 : Hid (Src w9 g v l KN) := srcGrew (HSU.out.alloc _) HS.out.2.2.1 (by have hzz := HGU.out.size; simp; omega) hg9 HOU.out hg0; have HG9 : Hid (w.grownBy w9 (some g)) := growOwn (grownBy_trans HGU.out (World.grownBy_alloc _ _ _)) hg9 HOU.out; clear ho9 hg9))
            go_roundw
            case rel => exact ⟨j + 1, by omega, by go_num, by rw [HD.out], by rw [HD.out]; exact HO9.out, by rw [HD.out]; exact HS9.out, HG9.out⟩
            case measure => simp [intOf]; omega
      · subst h5
        obtain rfl : TN = TT + 1 := by rw [hT5, if_pos ⟨rfl, h5'⟩]
        skip
        clear hT5
        by_cases h6 : p6 = 0
        · subst h6
          have HE : Hid (E = ⟨(TT + 1), 0, 0, 0, ⟨#[]⟩, ⟨#[]⟩, ⟨#[]⟩⟩) := (show E = ⟨(TT + 1), 0, 0, 0, ⟨#[]⟩, ⟨#[]⟩, ⟨#[]⟩⟩ by rw [hE6, if_pos rfl])
          obtain rfl : KN = K + 1 + 1 := by rw [hK6, if_pos rfl]
          clear hE6 hK6
          go_wp2_with (first
            | (go_at_call 71; clear y1; refine Calls.mono HP5.out ?_; rintro e w1 ⟨rfl, hs1, hg1⟩; have z1 := hg1.size; have HS1 : Hid (Src w1 g v l (K + 1)) := hs1; have HG1 : Hid (w.grownBy w1 (some g)) := grownBy_trans HGR.out hg1; have HO1 : Hid (OwnE w1 w.heap.size (.slice la j lc) L) := HO.out.grown hg1 hg0; clear hs1 hg1)
            | (have hBA := HS1; refine gate_st 91 (.tmp 9) _ rfl ?_; clear hBA; refine wpl_store_last rfl 91 (.tmp 9) _ rfl (w1.heap.size) rfl rfl rfl infoEnt7 rfl rfl (by simp [Value.oneCell']) ?_; obtain ⟨W2, hW2⟩ : ∃ W2, W2 = w1.alloc (.cells #[.int .i64 (TT + 1), .int .i64 0, .int .i64 0, .int .i64 0, .string ⟨#[]⟩, .string ⟨#[]⟩, .string ⟨#[]⟩] 91) := ⟨_, rfl⟩; rw [← hW2]; have HS2 : Hid (Src W2 g v l (K + 1)) := (by rw [hW2]; exact HS1.out.alloc _); have HE2 : Hid (Blk W2 w1.heap.size #[.int .i64 (TT + 1), .int .i64 0, .int .i64 0, .int .i64 0, .string ⟨#[]⟩, .string ⟨#[]⟩, .string ⟨#[]⟩] 91) := (by rw [hW2]; exact Blk.new _ _ _); have HG2 : Hid (w.grownBy W2 (some g)) := (by rw [hW2]; exact grownBy_trans HG1.out (World.grownBy_alloc _ _ _)); have HO2 : Hid (OwnE W2 w.heap.size (.slice la j lc) L) := (by rw [hW2]; exact HO1.out.below ((Below.refl _ _).alloc (Nat.le_refl _) _)); have hol : Hid (∀ q, (Value.slice la j lc).ownBlock = some q → q < w1.heap.size) := (fun q hq => (HO1.out.2.lt q hq).2); clear hW2)
            | (go_at_call 71; refine Calls.mono (HP6 _ HS2.out).out ?_; rintro e w3 ⟨rfl, hs3, hg3⟩; have z3 := hg3.size; have z2 := HE2.out.lt; have HS3 : Hid (Src w3 g v l (K + 1 + 1)) := hs3; have HE3 : Hid (Blk w3 w1.heap.size #[.int .i64 (TT + 1), .int .i64 0, .int .i64 0, .int .i64 0, .string ⟨#[]⟩, .string ⟨#[]⟩, .string ⟨#[]⟩] 91) := HE2.out.grown hg3 (by omega); have HG3 : Hid (w.grownBy w3 (some g)) := grownBy_trans HG2.out hg3; have HO3 : Hid (OwnE w3 w.heap.size (.slice la j lc) L) := HO2.out.grown hg3 hg0; clear hs3 hg3)
            | (have hBA := HE3; refine gate_ld 91 (.tmp 9) rfl ?_; clear hBA; refine wpl_load_blk rfl 91 (.tmp 9) rfl (w1.heap.size) rfl HE3.out Try.underlying91 rfl infoEnt7 rfl ?_; have HEA : Hid (EntAt (w3.alloc (.cells #[.int .i64 (TT + 1), .int .i64 0, .int .i64 0, .int .i64 0, .string ⟨#[]⟩, .string ⟨#[]⟩, .string ⟨#[]⟩] 91)) w3.heap.size 0 E) := (by rw [HE.out]; exact entAt_at w3 ⟨(TT + 1), 0, 0, 0, ⟨#[]⟩, ⟨#[]⟩, ⟨#[]⟩⟩))
            | (at_builtin; refine wpl_appendE rfl (.tmp 33) (.tmp 35) rfl E hfit (OwnE.below HO3.out ((Below.refl _ _).alloc (Nat.le_refl _) _)) rfl w3.heap.size 1 HEA.out rfl (by rw [HLen.out]; omega) (by have hzz := HG3.out.size; simp; omega) ?_; intro v1 w9 ho9 hg9; have HO9 : Hid (OwnE w9 w.heap.size v1 (L ++ [E])) := ho9; have HS9 : Hid (Src w9 g v l (K + 1 + 1)) := srcGrew (HS3.out.alloc _) HS.out.2.2.1 (by have hzz := HG3.out.size; simp; omega) hg9 HO3.out hg0; have HG9 : Hid (w.grownBy w9 (some g)) := growOwn (grownBy_trans HG3.out (World.grownBy_alloc _ _ _)) hg9 HO3.out; clear ho9 hg9))
          go_roundw
          case rel => exact ⟨j + 1, by omega, by go_num, by rw [HD.out], by rw [HD.out]; exact HO9.out, by rw [HD.out]; exact HS9.out, HG9.out⟩
          case measure => simp [intOf]; omega
        · have n6 : ((p6 : Int) != 0) = true := by rw [bne_iff_ne]; omega
          have HE : Hid (E = ⟨(TT + 1), m1, m2, m3, m4, m5, m6⟩) := (show E = ⟨(TT + 1), m1, m2, m3, m4, m5, m6⟩ by rw [hE6, if_neg h6])
          obtain rfl : KN = KC := by rw [hK6, if_neg h6]
          clear hE6 hK6
          go_wp2_with (first
            | (go_at_call 71; clear y1; refine Calls.mono HP5.out ?_; rintro e w1 ⟨rfl, hs1, hg1⟩; have z1 := hg1.size; have HS1 : Hid (Src w1 g v l (K + 1)) := hs1; have HG1 : Hid (w.grownBy w1 (some g)) := grownBy_trans HGR.out hg1; have HO1 : Hid (OwnE w1 w.heap.size (.slice la j lc) L) := HO.out.grown hg1 hg0; clear hs1 hg1)
            | (have hBA := HS1; refine gate_st 91 (.tmp 9) _ rfl ?_; clear hBA; refine wpl_store_last rfl 91 (.tmp 9) _ rfl (w1.heap.size) rfl rfl rfl infoEnt7 rfl rfl (by simp [Value.oneCell']) ?_; obtain ⟨W2, hW2⟩ : ∃ W2, W2 = w1.alloc (.cells #[.int .i64 (TT + 1), .int .i64 0, .int .i64 0, .int .i64 0, .string ⟨#[]⟩, .string ⟨#[]⟩, .string ⟨#[]⟩] 91) := ⟨_, rfl⟩; rw [← hW2]; have HS2 : Hid (Src W2 g v l (K + 1)) := (by rw [hW2]; exact HS1.out.alloc _); have HE2 : Hid (Blk W2 w1.heap.size #[.int .i64 (TT + 1), .int .i64 0, .int .i64 0, .int .i64 0, .string ⟨#[]⟩, .string ⟨#[]⟩, .string ⟨#[]⟩] 91) := (by rw [hW2]; exact Blk.new _ _ _); have HG2 : Hid (w.grownBy W2 (some g)) := (by rw [hW2]; exact grownBy_trans HG1.out (World.grownBy_alloc _ _ _)); have HO2 : Hid (OwnE W2 w.heap.size (.slice la j lc) L) := (by rw [hW2]; exact HO1.out.below ((Below.refl _ _).alloc (Nat.le_refl _) _)); have hol : Hid (∀ q, (Value.slice la j lc).ownBlock = some q → q < w1.heap.size) := (fun q hq => (HO1.out.2.lt q hq).2); clear hW2)
            | (go_at_call 71; refine Calls.mono (HP6 _ HS2.out).out ?_; rintro e w3 ⟨rfl, hs3, hg3⟩; have z3 := hg3.size; have z2 := HE2.out.lt; have HS3 : Hid (Src w3 g v l (K + 1 + 1)) := hs3; have HE3 : Hid (Blk w3 w1.heap.size #[.int .i64 (TT + 1), .int .i64 0, .int .i64 0, .int .i64 0, .string ⟨#[]⟩, .string ⟨#[]⟩, .string ⟨#[]⟩] 91) := HE2.out.grown hg3 (by omega); have HG3 : Hid (w.grownBy w3 (some g)) := grownBy_trans HG2.out hg3; have HO3 : Hid (OwnE w3 w.heap.size (.slice la j lc) L) := HO2.out.grown hg3 hg0; clear hs3 hg3)
            | (go_at_call 124; refine Calls.mono (HCm _ HS3.out).out ?_; rintro e w4 ⟨rfl, hs4, hg4⟩; have z4 := hg4.size; have z4b := HE3.out.lt; have HS4 : Hid (Src w4 g v l KN) := hs4; have HE4 : Hid (Blk w4 w1.heap.size #[.int .i64 (TT + 1), .int .i64 0, .int .i64 0, .int .i64 0, .string ⟨#[]⟩, .string ⟨#[]⟩, .string ⟨#[]⟩] 91) := HE3.out.grown hg4 (by omega); have HG4 : Hid (w.grownBy w4 (some g)) := grownBy_trans HG3.out hg4; have HO4 : Hid (OwnE w4 w.heap.size (.slice la j lc) L) := HO3.out.grown hg4 hg0; have hTh : Hid (w4.there w1.heap.size 1 6) := there_part HE4.out.there 1 6 (by simp); clear hs4 hg4)
            | (have hBA := HE4; refine gate_store 89 (.tmp 32) (.tmp 31) rfl ?_; clear hBA; refine wpList_store_mid rfl 89 (.tmp 32) (.tmp 31) rfl (w1.heap.size) 1 #[.int .i64 m1, .int .i64 m2, .int .i64 m3, .string m4, .string m5, .string m6] rfl rfl hTh.out infoCmd6 (by simp [Value.oneCell']) ?_; obtain ⟨U, hU⟩ : ∃ U, U = w4.setCells w1.heap.size 1 [.int .i64 m1, .int .i64 m2, .int .i64 m3, .string m4, .string m5, .string m6] := ⟨_, rfl⟩; rw [show w4.setCells w1.heap.size 1 (#[.int .i64 m1, .int .i64 m2, .int .i64 m3, .string m4, .string m5, .string m6] : Array Value).toList = U from hU.symm]; have hzU : Hid (U.heap.size = w4.heap.size) := (by rw [hU]; exact size_setC _ _ _); have HEU : Hid (Blk U w1.heap.size #[.int .i64 (TT + 1), .int .i64 m1, .int .i64 m2, .int .i64 m3, .string m4, .string m5, .string m6] 91) := (by rw [hU]; exact (((((HE4.out.set 1 _).set 2 _).set 3 _).set 4 _).set 5 _).set 6 _); have HSU : Hid (Src U g v l KN) := (by rw [hU]; exact srcCells HS4.out HE4.out (by omega)); have HGU : Hid (w.grownBy U (some g)) := (by rw [hU]; exact growCells HG4.out (by omega)); have HOU : Hid (OwnE U w.heap.size (.slice la j lc) L) := (by rw [hU]; exact HO4.out.block fun q hq => setC_other (by have := hol.out q hq; omega) _ _ _); clear hU)
            | (have hBA := HEU; refine gate_ld 91 (.tmp 9) rfl ?_; clear hBA; refine wpl_load_blk rfl 91 (.tmp 9) rfl (w1.heap.size) rfl HEU.out Try.underlying91 rfl infoEnt7 rfl ?_; have HEA : Hid (EntAt (U.alloc (.cells #[.int .i64 (TT + 1), .int .i64 m1, .int .i64 m2, .int .i64 m3, .string m4, .string m5, .string m6] 91)) U.heap.size 0 E) := (by rw [HE.out]; exact entAt_at U ⟨(TT + 1), m1, m2, m3, m4, m5, m6⟩))
            | (at_builtin; refine wpl_appendE rfl (.tmp 33) (.tmp 35) rfl E hfit (OwnE.below HOU.out ((Below.refl _ _).alloc (Nat.le_refl _) _)) rfl U.heap.size 1 HEA.out rfl (by rw [HLen.out]; omega) (by have hzz := HGU.out.size; simp; omega) ?_; intro v1 w9 ho9 hg9; have HO9 : Hid (OwnE w9 w.heap.size v1 (L ++ [E])) := ho9; have HS9 : Hid (Src w9 g v l KN) := srcGrew (HSU.out.alloc _) HS.out.2.2.1 (by have hzz := HGU.out.size; simp; omega) hg9 HOU.out hg0; have HG9 : Hid (w.grownBy w9 (some g)) := growOwn (grownBy_trans HGU.out (World.grownBy_alloc _ _ _)) hg9 HOU.out; clear ho9 hg9))
          go_roundw
          case rel => exact ⟨j + 1, by omega, by go_num, by rw [HD.out], by rw [HD.out]; exact HO9.out, by rw [HD.out]; exact HS9.out, HG9.out⟩
          case measure => simp [intOf]; omega
    · obtain rfl : j = n := by omega
      go_wp2
      go_ret
      exact ⟨_, rfl, ho, hs, hgr⟩
end Go.Proofs.Ytfcmffdljfljkaa
