/-
  impl.tellStep.
-/
import Derived.Test.YtabnanmfojppjaaDoorSkNo
import Derived.Test.YtabnanmfojppjaaDoorSkLn
import Derived.Test.YtabnanmfojppjaaDoorSkTp
namespace Go.Proofs.YtabnanmfojppjaaDoor
open Go.RowKit Go.Shelf
set_option linter.unusedVariables false
set_option linter.unusedSimpArgs false

/-- ints of one's own -/
def inC (n : Int) : List Value := [.int .i64 n]
theorem inLaw : GLaw inC 1 3 24 := {
  und := Tryd.underlying24
  info := by
    obtain ⟨i0, hi, hz0, hz1, hz2⟩ := info_parts (show (Tryd.prog.info? 3).map (fun i => (i.zero, i.size, i.bytes)) = some (some (.int .i64 0), 1, 8) by kernel_rfl)
    exact ⟨i0, _, _, hi, hz0, hz1, hz2, rfl, by decide⟩
  pos := by decide
  len := fun _ => rfl
  one := fun a u hu => by
    simp only [inC, List.mem_cons, List.not_mem_nil, or_false] at hu
    subst hu; rfl }
theorem ix_sl {w : World} {v : Value} {l : List Int} (h : Sl inC 1 w v l) : Ix w v l := by
  obtain ⟨hl, a, cap, rfl, hc⟩ := h
  refine ⟨hl, a, cap, rfl, fun i hi => ?_⟩
  obtain ⟨b, off, rfl, hj⟩ := hc i hi
  refine ⟨b, off, rfl, fun j hj' => ?_⟩
  have := hj j hj' 0 _ rfl
  simpa using this
/-- a row of another kind above the builder stays -/
theorem ownG_far {α : Type} {cs : α → List Value} {m : Nat} {T : TypeId} {w w' : World} {B b : Nat} {v : Value} {l : List α} (hT : T ≠ 5) (h : OwnG cs m T w B v l) (hB : b < B) (hf : Fr b w w') : OwnG cs m T w' B v l := by
  refine h.block fun k hk => ?_
  rcases h.2 with ⟨rfl, _⟩ | ⟨g, cap, cur, rfl, hg, hh, _⟩
  · simp [Value.ownBlock] at hk
  · simp [Value.ownBlock] at hk
    subst hk
    rw [hh]
    refine hf.ok g _ hh (fun e => ?_) (fun c fz e => ?_)
    · injection e with e; omega
    · injection e with _ e _; exact hT e
/-- what the growth of a row of another kind leaves -/
theorem ownG_grew {α β : Type} {cs : α → List Value} {ds : β → List Value} {m m' : Nat} {T T' : TypeId} {w w' : World} {B B' : Nat} {v v' : Value} {l : List α} {l' : List β} (h : OwnG cs m T w B v l) (h' : OwnG ds m' T' w B' v' l') (hT : T ≠ T') (hg : w.grownBy w' v'.ownBlock) : OwnG cs m T w' B v l := by
  refine h.block fun k hk => hg.block k (h.lts k hk).2 (fun e => ?_)
  rcases h.2 with ⟨rfl, _⟩ | ⟨g, cap, cur, rfl, _, hh, _⟩
  · simp [Value.ownBlock] at hk
  · simp [Value.ownBlock] at hk
    subst hk
    rcases h'.2 with ⟨rfl, _⟩ | ⟨g', cap', cur', rfl, _, hh', _⟩
    · simp [Value.ownBlock] at e
    · simp [Value.ownBlock] at e
      subst e
      rw [hh] at hh'
      injection hh' with hh'
      injection hh' with _ hh' _
      exact hT hh'
theorem ptr_at {q g B cp n : Nat} {T : TypeId} {w : World} {l : List Nat} (h : OwnG (ptC q) 1 T w B (.slice (some ⟨g, 0, none⟩) n cp) l) (hn : n = l.length) (k : Nat) (hk : k < l.length) : w.cell? ⟨g, k, none⟩ = some (.pointer (some ⟨q, l[k], none⟩)) := by
  subst hn
  rw [World.ownsRow.cellAt h k (by omega)]
  have h2 := gC_get (cs := ptC q) (m := 1) (fun _ => rfl) l k hk 0 (by omega)
  simp only [Nat.mul_one, Nat.add_zero] at h2
  rw [h2]
  rfl
theorem three_at (k cn : Nat) (hk : k < cn) (h3 : cn ≤ 3) (h : k < ([1, 2, 3].take cn).length) : ([1, 2, 3].take cn)[k] = k + 1 := by
  rw [List.getElem_take]
  rcases (show k = 0 ∨ k = 1 ∨ k = 2 by omega) with rfl | rfl | rfl <;> rfl

set_option maxHeartbeats 8000000 in
set_option maxRecDepth 100000 in
theorem tellStep_not (x : Stp) (hx : StP x) (hxf : x.fits) (h11 : ¬ x.kd = 11) (b : Nat) (L : List UInt8) (w : World) (hB : Bu w b L) (hL : L.length ≤ 100000000) (ht : Tabs w) (htab : ∀ w', Below b w w' → Lib.TabIs Tryd.prog w' "internal/strconv.uint64pow10" .u64 Lib.pow10Tab) :
    Calls Tryd.prog 23 #[.pointer (some ⟨b, 0, none⟩), .agg #[.int .i64 x.kd, .int .i64 x.a, .int .i64 x.b, .int .i64 x.c, .int .i64 x.cl, .int .i64 x.sq, .int .i64 x.op, .string x.k, .string x.v, .string x.o]] w fun e w' => e = .returned (.bool (tOkS x)) ∧ (tOkS x = true → Bu w' b (L ++ (stepL x ++ [10]))) ∧ Fr b w w' := by
  have hbl := hB.lt
  have hcn3 : 1 ≤ cntK x.kd ∧ cntK x.kd ≤ 3 := by unfold cntK; (repeat' split) <;> omega
  have HBu : Hid (Bu w b L) := hB
  have HT : Hid (Tabs w) := ht
  have HTab : Hid (∀ w', Below b w w' → Lib.TabIs Tryd.prog w' "internal/strconv.uint64pow10" .u64 Lib.pow10Tab) := htab
  have HBk : Hid (∀ z, Below (w.heap.size + 1) (w.alloc (.cells #[.int .i64 x.kd, .int .i64 x.a, .int .i64 x.b, .int .i64 x.c, .int .i64 x.cl, .int .i64 x.sq, .int .i64 x.op, .string x.k, .string x.v, .string x.o] 47)) z → Blk z w.heap.size #[.int .i64 x.kd, .int .i64 x.a, .int .i64 x.b, .int .i64 x.c, .int .i64 x.cl, .int .i64 x.sq, .int .i64 x.op, .string x.k, .string x.v, .string x.o] 47) := fun z h => (Blk.new _ _ _).below h (by omega)
  have HNo : Hid (Calls Tryd.prog 46 #[.pointer (some ⟨w.heap.size, 0, none⟩)] (w.alloc (.cells #[.int .i64 x.kd, .int .i64 x.a, .int .i64 x.b, .int .i64 x.c, .int .i64 x.cl, .int .i64 x.sq, .int .i64 x.op, .string x.k, .string x.v, .string x.o] 47)) fun e w' => ∃ v, e = .returned v ∧ OwnG (ptC w.heap.size) 1 87 w' (w.heap.size + 1) v ([1, 2, 3].take (cntK x.kd)) ∧ Below (w.heap.size + 1) (w.alloc (.cells #[.int .i64 x.kd, .int .i64 x.a, .int .i64 x.b, .int .i64 x.c, .int .i64 x.cl, .int .i64 x.sq, .int .i64 x.op, .string x.k, .string x.v, .string x.o] 47)) w') := by
    have h := numbersOf_any x.kd #[.int .i64 x.kd, .int .i64 x.a, .int .i64 x.b, .int .i64 x.c, .int .i64 x.cl, .int .i64 x.sq, .int .i64 x.op, .string x.k, .string x.v, .string x.o] w.heap.size (w.alloc (.cells #[.int .i64 x.kd, .int .i64 x.a, .int .i64 x.b, .int .i64 x.c, .int .i64 x.cl, .int .i64 x.sq, .int .i64 x.op, .string x.k, .string x.v, .string x.o] 47)) (Blk.new _ _ _) rfl (HT.out.below ((Below.refl _ _).alloc (Nat.le_refl _) _)) hx.k1 hx.k2
    have hs : (w.alloc (.cells #[.int .i64 x.kd, .int .i64 x.a, .int .i64 x.b, .int .i64 x.c, .int .i64 x.cl, .int .i64 x.sq, .int .i64 x.op, .string x.k, .string x.v, .string x.o] 47)).heap.size = w.heap.size + 1 := by simp
    rw [hs] at h
    exact h
  obtain ⟨NS, hNS⟩ : ∃ l, l = [x.a, x.b, x.c].take (cntK x.kd) := ⟨_, rfl⟩
  have hNl : NS.length = cntK x.kd := by rw [hNS, List.length_take]; simp; omega
  have HNC : Hid (∀ z, Below (w.heap.size + 1) (w.alloc (.cells #[.int .i64 x.kd, .int .i64 x.a, .int .i64 x.b, .int .i64 x.c, .int .i64 x.cl, .int .i64 x.sq, .int .i64 x.op, .string x.k, .string x.v, .string x.o] 47)) z → ∀ k (h : k < NS.length), z.cell? ⟨w.heap.size, k + 1, none⟩ = some (.int .i64 NS[k])) := fun z h k hk => by
    have h1 := (HBk.out z h).cell (k + 1)
    have e : NS[k] = [x.a, x.b, x.c][k]'(by simp; omega) := by subst hNS; rw [List.getElem_take]
    rw [h1, e]
    rcases (show k = 0 ∨ k = 1 ∨ k = 2 by omega) with rfl | rfl | rfl <;> rfl
  have HNs : Hid (∀ n ∈ NS, 0 ≤ n ∧ n < 10000000000) := fun n hn => by
    rw [hNS] at hn
    have := List.mem_of_mem_take hn
    simp only [List.mem_cons, List.not_mem_nil, or_false] at this
    rcases this with rfl | rfl | rfl
    · exact hx.a
    · exact hx.b
    · exact hx.c
  have HFo : Hid (∀ z, Below (w.heap.size + 1) (w.alloc (.cells #[.int .i64 x.kd, .int .i64 x.a, .int .i64 x.b, .int .i64 x.c, .int .i64 x.cl, .int .i64 x.sq, .int .i64 x.op, .string x.k, .string x.v, .string x.o] 47)) z → z.cell? ⟨1, x.kd.toNat * 4, none⟩ = some (.string (sOf (wordK x.kd)))) := fun z h => (HT.out.below (((Below.refl _ _).alloc (Nat.le_refl _) _).trans (h.mono (by omega)))).f0 x.kd hx.k1 hx.k2
  have hfa := form_at x.kd hx.k1 hx.k2
  have HLn : Hid (∀ z vn vt ts, Bu z b L → Below w.heap.size w z → FarI b z vn NS → FarT b z vt ts → ts.length ≤ 4 → (∀ t ∈ ts, t.size ≤ 1048576) → Calls Tryd.prog 22 #[.pointer (some ⟨b, 0, none⟩), .string (sOf (wordK x.kd)), vn, vt] z fun e w' => e = .returned (.tuple #[]) ∧ Bu w' b (L ++ wordK x.kd ++ numsL NS ++ txsL ts ++ [10]) ∧ Fr b z w') := fun z vn vt ts h1 h2 h3 h4 h5 h6 => tellLine_any z b L (wordK x.kd) vn vt NS ts h1 h3 h4 hL (by have := wordK_len x.kd; omega) (by omega) HNs.out h5 h6 (fun w' h => HTab.out w' ((h2.mono (by omega)).trans h))
  have HS : Hid (stepL x = wordK x.kd ++ numsL NS) := by unfold Hid stepL; rw [if_neg h11, hNS]
  have HOk : Hid (tOkS x = true) := by unfold Hid tOkS; rw [if_neg h11]
  have hop := hx.op0 h11
  have HAs : Hid (∀ z, Below (w.heap.size + 1) (w.alloc (.cells #[.int .i64 x.kd, .int .i64 x.a, .int .i64 x.b, .int .i64 x.c, .int .i64 x.cl, .int .i64 x.sq, .int .i64 x.op, .string x.k, .string x.v, .string x.o] 47)) z → Calls Tryd.prog 47 #[.pointer (some ⟨w.heap.size, 4, none⟩)] z fun e w' => ∃ v, e = .returned v ∧ OwnG (ptC w.heap.size) 1 92 w' z.heap.size v (askP x.op) ∧ Below z.heap.size z w') := fun z h => askTexts_any x.op w.heap.size z ((HBk.out z h).cell 6) (by omega) (by omega)
  have HP0 : Hid (askP x.op = []) := by unfold Hid askP; rw [hop]; rfl
  rw [HP0.out] at HAs
  have h11' : (x.kd == 11) = false := by simpa using h11
  have HK0 : Hid (∀ z, Below (w.heap.size + 1) (w.alloc (.cells #[.int .i64 x.kd, .int .i64 x.a, .int .i64 x.b, .int .i64 x.c, .int .i64 x.cl, .int .i64 x.sq, .int .i64 x.op, .string x.k, .string x.v, .string x.o] 47)) z → z.cell? ⟨w.heap.size, 0, none⟩ = some (.int .i64 x.kd)) := fun z h => (HBk.out z h).cell 0
  generalize tOkS x = TO at *
  generalize stepL x = SL at *
  have k1 := hx.k1
  have k2 := hx.k2
  clear hx hxf h11 HP0 hop
  generalize sOf (wordK x.kd) = WD at *
  generalize wordK x.kd = WL at *
  generalize x.kd.toNat * 4 = K at *
  clear hNS
  generalize cntK x.kd = cn at *
  obtain ⟨kd, xa, xb, xc, cl, sq, op, kk, vv, oo⟩ := x
  dsimp only at *
  have hpl : ([1, 2, 3].take cn).length = cn := by rw [List.length_take]; simp; omega
  clear hB ht htab
  go_enter Tryd.func23, Tryd.ntmps23
  go_wp2_with (go_at_call 46; refine Calls.mono HNo.out ?_; rintro e w2 ⟨vp, rfl, hp, hb2⟩; obtain ⟨g, cp, hvp⟩ := hp.shape' (by rw [hpl]; omega); rw [hpl] at hvp; subst hvp)
  have hgl := hp.lts g rfl
  have HB2 : Hid (Below (w.heap.size + 1) (w.alloc (.cells #[.int .i64 kd, .int .i64 xa, .int .i64 xb, .int .i64 xc, .int .i64 cl, .int .i64 sq, .int .i64 op, .string kk, .string vv, .string oo] 47)) w2) := hb2
  have hz2 := hb2.size
  simp at hz2
  have HPt : Hid (∀ z, Below w2.heap.size w2 z → ∀ k, k < cn → z.cell? ⟨g, k, none⟩ = some (.pointer (some ⟨w.heap.size, k + 1, none⟩))) := fun z h k hk => by
    rw [h.cell (p := ⟨g, k, none⟩) hgl.2, ptr_at hp hpl.symm k (by omega), three_at k cn hk (by omega)]
  have HB2w : Hid (∀ z, Below w2.heap.size w2 z → Below (w.heap.size + 1) (w.alloc (.cells #[.int .i64 kd, .int .i64 xa, .int .i64 xb, .int .i64 xc, .int .i64 cl, .int .i64 sq, .int .i64 op, .string kk, .string vv, .string oo] 47)) z) := fun z h => HB2.out.trans (h.mono (by omega))
  clear hp hb2 HNo
  go_loopw [5, 13] (fun vn i wr => ∃ k : Nat, k ≤ cn ∧ i = .int .i64 k ∧ OwnG inC 1 3 wr w2.heap.size vn (NS.take k) ∧ Below w2.heap.size w2 wr) (fun _ i _ => cn - (intOf i).toNat)
  case atStart => exact ⟨0, Nat.zero_le _, rfl, OwnG.nil _ _ _ _ _, Below.refl _ _⟩
  case round =>
    obtain ⟨k, hk, rfl, hO, hB⟩ := hrel
    have HO : Hid (OwnG inC 1 3 wr w2.heap.size _ (NS.take k)) := hO
    have HB : Hid (Below w2.heap.size w2 wr) := hB
    have hzr := hB.size
    clear hO hB
    by_cases hlt : k < cn
    · have cp1 := HPt.out wr HB.out k hlt
      have cn1 := HNC.out wr (HB2w.out wr HB.out) k (by omega)
      have HTk : Hid (NS.take k ++ [NS[k]] = NS.take (k + 1)) := (List.take_succ_eq_append_getElem (by omega)).symm
      have hkl : (k : Int) < (cn : Int) := by omega
      have hlt9 : (NS.take k).length ≤ 3 := by rw [List.length_take]; omega
      generalize NS[k] = n at *
      go_wp2_with (at_builtin; refine wpl_appendG inLaw rfl (.tmp 17) (.tmp 21) rfl n (HO.out.below ((Below.refl _ _).alloc (Nat.le_refl _) _)) rfl (wr.heap.size) 1 (Blk.new _ _ _).range rfl (by omega) (by simp; omega) ?_; intro v3 w3 ho3 hg3; have HB3 : Hid (Below w2.heap.size w2 w3) := (HB.out.alloc hzr _).trans (growG hg3 (HO.out.below ((Below.refl _ _).alloc (Nat.le_refl _) _)) (by simp; omega)))
      go_roundw
      case rel => exact ⟨k + 1, by omega, by go_num, by rw [← HTk.out]; exact ho3, HB3.out⟩
      case measure => simp [intOf]; omega
    · obtain rfl : k = cn := by omega
      rw [List.take_of_length_le (by omega)] at HO
      clear HPt
      have c0 := HK0.out wr (HB2w.out wr HB.out)
      go_wp2_with (first
        | (go_at_call 47; refine Calls.mono (HAs.out _ (HB2w.out wr HB.out)) ?_; rintro e w5 ⟨vt, rfl, hp5, hb5⟩; obtain ⟨ga, gc, rfl⟩ := hp5.shape))
      have HB5 : Hid (Below w2.heap.size w2 w5) := HB.out.trans (hb5.mono hzr)
      have HO5 : Hid (OwnG inC 1 3 w5 w2.heap.size _ NS) := HO.out.below hb5
      clear hp5 hb5 HO HB c0
      go_loopw [8, 38] (fun vt i wr => vt = .slice none 0 0 ∧ i = .int .i64 0 ∧ wr = w5) (fun _ _ _ => 0)
      case atStart => exact ⟨rfl, rfl, rfl⟩
      case round =>
        obtain ⟨rfl, rfl, rfl⟩ := hrel
        have c0 := HK0.out _ (HB2w.out _ HB5.out)
        have cf := HFo.out _ (HB2w.out _ HB5.out)
        have hbw : Below w.heap.size w wr := ((Below.refl _ _).alloc (Nat.le_refl _) _).trans ((HB2w.out _ HB5.out).mono (by omega))
        have HBw : Hid (Below w.heap.size w wr) := hbw
        have HFI : Hid (FarI b wr _ NS) := fun w' hf => ix_sl ((ownG_far (by decide) HO5.out (by omega) hf).sl inLaw (by simp [maxLen]; omega))
        have HFT : Hid (FarT b wr (.slice none 0 0) []) := fun w' hf => ⟨by simp [maxLen], _, _, rfl, fun i hi => absurd hi (by simp)⟩
        clear hbw
        go_wp2_with (go_at_call 22; refine Calls.mono (HLn.out wr _ _ [] (HBu.out.below HBw.out) HBw.out HFI.out HFT.out (by simp) (by simp)) ?_; rintro e w6 ⟨rfl, hd6, hf6⟩)
        go_ret
        refine ⟨by rw [HOk.out]; rfl, fun _ => ?_, (Fr.of_below HBw.out (by omega)).trans hf6⟩
        rw [HS.out]
        simpa [txsL, textsL] using hd6

set_option maxHeartbeats 8000000 in
set_option maxRecDepth 100000 in
theorem tellStep_ask (x : Stp) (hx : StP x) (hxf : x.fits) (h11 : x.kd = 11) (b : Nat) (L : List UInt8) (w : World) (hB : Bu w b L) (hL : L.length ≤ 100000000) (ht : Tabs w) (htab : ∀ w', Below b w w' → Lib.TabIs Tryd.prog w' "internal/strconv.uint64pow10" .u64 Lib.pow10Tab) :
    Calls Tryd.prog 23 #[.pointer (some ⟨b, 0, none⟩), .agg #[.int .i64 x.kd, .int .i64 x.a, .int .i64 x.b, .int .i64 x.c, .int .i64 x.cl, .int .i64 x.sq, .int .i64 x.op, .string x.k, .string x.v, .string x.o]] w fun e w' => e = .returned (.bool (tOkS x)) ∧ (tOkS x = true → Bu w' b (L ++ (stepL x ++ [10]))) ∧ Fr b w w' := by
  have hbl := hB.lt
  have hcn3 : 1 ≤ cntK x.kd ∧ cntK x.kd ≤ 3 := by unfold cntK; (repeat' split) <;> omega
  have HBu : Hid (Bu w b L) := hB
  have HT : Hid (Tabs w) := ht
  have HTab : Hid (∀ w', Below b w w' → Lib.TabIs Tryd.prog w' "internal/strconv.uint64pow10" .u64 Lib.pow10Tab) := htab
  have HBk : Hid (∀ z, Below (w.heap.size + 1) (w.alloc (.cells #[.int .i64 x.kd, .int .i64 x.a, .int .i64 x.b, .int .i64 x.c, .int .i64 x.cl, .int .i64 x.sq, .int .i64 x.op, .string x.k, .string x.v, .string x.o] 47)) z → Blk z w.heap.size #[.int .i64 x.kd, .int .i64 x.a, .int .i64 x.b, .int .i64 x.c, .int .i64 x.cl, .int .i64 x.sq, .int .i64 x.op, .string x.k, .string x.v, .string x.o] 47) := fun z h => (Blk.new _ _ _).below h (by omega)
  have HNo : Hid (Calls Tryd.prog 46 #[.pointer (some ⟨w.heap.size, 0, none⟩)] (w.alloc (.cells #[.int .i64 x.kd, .int .i64 x.a, .int .i64 x.b, .int .i64 x.c, .int .i64 x.cl, .int .i64 x.sq, .int .i64 x.op, .string x.k, .string x.v, .string x.o] 47)) fun e w' => ∃ v, e = .returned v ∧ OwnG (ptC w.heap.size) 1 87 w' (w.heap.size + 1) v ([1, 2, 3].take (cntK x.kd)) ∧ Below (w.heap.size + 1) (w.alloc (.cells #[.int .i64 x.kd, .int .i64 x.a, .int .i64 x.b, .int .i64 x.c, .int .i64 x.cl, .int .i64 x.sq, .int .i64 x.op, .string x.k, .string x.v, .string x.o] 47)) w') := by
    have h := numbersOf_any x.kd #[.int .i64 x.kd, .int .i64 x.a, .int .i64 x.b, .int .i64 x.c, .int .i64 x.cl, .int .i64 x.sq, .int .i64 x.op, .string x.k, .string x.v, .string x.o] w.heap.size (w.alloc (.cells #[.int .i64 x.kd, .int .i64 x.a, .int .i64 x.b, .int .i64 x.c, .int .i64 x.cl, .int .i64 x.sq, .int .i64 x.op, .string x.k, .string x.v, .string x.o] 47)) (Blk.new _ _ _) rfl (HT.out.below ((Below.refl _ _).alloc (Nat.le_refl _) _)) hx.k1 hx.k2
    have hs : (w.alloc (.cells #[.int .i64 x.kd, .int .i64 x.a, .int .i64 x.b, .int .i64 x.c, .int .i64 x.cl, .int .i64 x.sq, .int .i64 x.op, .string x.k, .string x.v, .string x.o] 47)).heap.size = w.heap.size + 1 := by simp
    rw [hs] at h
    exact h
  obtain ⟨NS, hNS⟩ : ∃ l, l = [x.a, x.b, x.c].take (cntK x.kd) := ⟨_, rfl⟩
  have hNl : NS.length = cntK x.kd := by rw [hNS, List.length_take]; simp; omega
  have HNC : Hid (∀ z, Below (w.heap.size + 1) (w.alloc (.cells #[.int .i64 x.kd, .int .i64 x.a, .int .i64 x.b, .int .i64 x.c, .int .i64 x.cl, .int .i64 x.sq, .int .i64 x.op, .string x.k, .string x.v, .string x.o] 47)) z → ∀ k (h : k < NS.length), z.cell? ⟨w.heap.size, k + 1, none⟩ = some (.int .i64 NS[k])) := fun z h k hk => by
    have h1 := (HBk.out z h).cell (k + 1)
    have e : NS[k] = [x.a, x.b, x.c][k]'(by simp; omega) := by subst hNS; rw [List.getElem_take]
    rw [h1, e]
    rcases (show k = 0 ∨ k = 1 ∨ k = 2 by omega) with rfl | rfl | rfl <;> rfl
  have HNs : Hid (∀ n ∈ NS, 0 ≤ n ∧ n < 10000000000) := fun n hn => by
    rw [hNS] at hn
    have := List.mem_of_mem_take hn
    simp only [List.mem_cons, List.not_mem_nil, or_false] at this
    rcases this with rfl | rfl | rfl
    · exact hx.a
    · exact hx.b
    · exact hx.c
  have HFo : Hid (∀ z, Below (w.heap.size + 1) (w.alloc (.cells #[.int .i64 x.kd, .int .i64 x.a, .int .i64 x.b, .int .i64 x.c, .int .i64 x.cl, .int .i64 x.sq, .int .i64 x.op, .string x.k, .string x.v, .string x.o] 47)) z → z.cell? ⟨1, x.kd.toNat * 4, none⟩ = some (.string (sOf (wordK x.kd)))) := fun z h => (HT.out.below (((Below.refl _ _).alloc (Nat.le_refl _) _).trans (h.mono (by omega)))).f0 x.kd hx.k1 hx.k2
  have hfa := form_at x.kd hx.k1 hx.k2
  have HLn : Hid (∀ z vn vt ts, Bu z b L → Below w.heap.size w z → FarI b z vn NS → FarT b z vt ts → ts.length ≤ 4 → (∀ t ∈ ts, t.size ≤ 1048576) → Calls Tryd.prog 22 #[.pointer (some ⟨b, 0, none⟩), .string (sOf (wordK x.kd)), vn, vt] z fun e w' => e = .returned (.tuple #[]) ∧ Bu w' b (L ++ wordK x.kd ++ numsL NS ++ txsL ts ++ [10]) ∧ Fr b z w') := fun z vn vt ts h1 h2 h3 h4 h5 h6 => tellLine_any z b L (wordK x.kd) vn vt NS ts h1 h3 h4 hL (by have := wordK_len x.kd; omega) (by omega) HNs.out h5 h6 (fun w' h => HTab.out w' ((h2.mono (by omega)).trans h))
  have HS : Hid (stepL x = askH x ++ txsL (askT x)) := by unfold Hid stepL; rw [if_pos h11]
  have HAh : Hid (askH x = wordK x.kd ++ numsL NS ++ [32] ++ opK x.op) := by
    unfold Hid askH
    have e : cntK x.kd = 1 := by rw [h11]; rfl
    rw [hNS, e, h11]
    rfl
  have HOk : Hid (tOkS x = askOk x) := by unfold Hid tOkS; rw [if_pos h11]
  have HOk2 : Hid (askOk x = (askT x).all fun t => wordB t.data.toList) := rfl
  obtain ⟨o1, o2, o3, o4, o5⟩ := hx.op h11
  have HAs : Hid (∀ z, Below (w.heap.size + 1) (w.alloc (.cells #[.int .i64 x.kd, .int .i64 x.a, .int .i64 x.b, .int .i64 x.c, .int .i64 x.cl, .int .i64 x.sq, .int .i64 x.op, .string x.k, .string x.v, .string x.o] 47)) z → Calls Tryd.prog 47 #[.pointer (some ⟨w.heap.size, 4, none⟩)] z fun e w' => ∃ v, e = .returned v ∧ OwnG (ptC w.heap.size) 1 92 w' z.heap.size v (askP x.op) ∧ Below z.heap.size z w') := fun z h => askTexts_any x.op w.heap.size z ((HBk.out z h).cell 6) (by omega) (by omega)
  have hTl : (askT x).length = (askP x.op).length ∧ 1 ≤ (askP x.op).length ∧ (askP x.op).length ≤ 3 := by
    unfold askT askP
    rcases (show x.op = 1 ∨ x.op = 2 ∨ x.op = 3 ∨ x.op = 4 by omega) with e | e | e | e <;> simp [e]
  have HTs : Hid (∀ t ∈ askT x, t.size ≤ 1048576) := askT_fits x hxf
  have HTC : Hid (∀ z, Below (w.heap.size + 1) (w.alloc (.cells #[.int .i64 x.kd, .int .i64 x.a, .int .i64 x.b, .int .i64 x.c, .int .i64 x.cl, .int .i64 x.sq, .int .i64 x.op, .string x.k, .string x.v, .string x.o] 47)) z → ∀ k (h : k < (askT x).length) (h' : k < (askP x.op).length), z.cell? ⟨w.heap.size, (askP x.op)[k], none⟩ = some (.string (askT x)[k])) := fun z hz k h h' => by
    have h7 : z.cell? ⟨w.heap.size, 7, none⟩ = some (.string x.k) := (HBk.out z hz).cell 7
    have h8 : z.cell? ⟨w.heap.size, 8, none⟩ = some (.string x.v) := (HBk.out z hz).cell 8
    have h9 : z.cell? ⟨w.heap.size, 9, none⟩ = some (.string x.o) := (HBk.out z hz).cell 9
    rcases (show x.op = 1 ∨ x.op = 3 ∨ x.op = 2 ∨ x.op = 4 by omega) with e | e | e | e
    · have e1 : askP x.op = [7] := by unfold askP; rw [e]; rfl
      have e2 : askT x = [x.k] := by unfold askT; rw [e]; rfl
      simp only [e1, e2] at h h' ⊢
      obtain rfl : k = 0 := by simpa using h
      exact h7
    · have e1 : askP x.op = [7] := by unfold askP; rw [e]; rfl
      have e2 : askT x = [x.k] := by unfold askT; rw [e]; rfl
      simp only [e1, e2] at h h' ⊢
      obtain rfl : k = 0 := by simpa using h
      exact h7
    · have e1 : askP x.op = [7, 8] := by unfold askP; rw [e]; rfl
      have e2 : askT x = [x.k, x.v] := by unfold askT; rw [e]; rfl
      simp only [e1, e2] at h h' ⊢
      rcases (show k = 0 ∨ k = 1 by simp at h; omega) with rfl | rfl
      · exact h7
      · exact h8
    · have e1 : askP x.op = [7, 9, 8] := by unfold askP; rw [e]; rfl
      have e2 : askT x = [x.k, x.o, x.v] := by unfold askT; rw [e]; rfl
      simp only [e1, e2] at h h' ⊢
      rcases (show k = 0 ∨ k = 1 ∨ k = 2 by simp at h; omega) with rfl | rfl | rfl
      · exact h7
      · exact h9
      · exact h8
  have hwa := word_at x.op o1 o2
  have HWo : Hid (∀ z, Below (w.heap.size + 1) (w.alloc (.cells #[.int .i64 x.kd, .int .i64 x.a, .int .i64 x.b, .int .i64 x.c, .int .i64 x.cl, .int .i64 x.sq, .int .i64 x.op, .string x.k, .string x.v, .string x.o] 47)) z → z.cell? ⟨0, x.op.toNat, none⟩ = some (.string (sOf (opK x.op)))) := fun z h => (HT.out.below (((Below.refl _ _).alloc (Nat.le_refl _) _).trans (h.mono (by omega)))).ws x.op o1 o2
  have HOw : Hid ((sOf (opK x.op)).size ≤ 1048576 ∧ (sOf (opK x.op)).data.toList = opK x.op) := ⟨by rw [sOf_size]; have := opK_len x.op; omega, list_sOf _⟩
  have HK0 : Hid (∀ z, Below (w.heap.size + 1) (w.alloc (.cells #[.int .i64 x.kd, .int .i64 x.a, .int .i64 x.b, .int .i64 x.c, .int .i64 x.cl, .int .i64 x.sq, .int .i64 x.op, .string x.k, .string x.v, .string x.o] 47)) z → z.cell? ⟨w.heap.size, 0, none⟩ = some (.int .i64 x.kd) ∧ z.cell? ⟨w.heap.size, 6, none⟩ = some (.int .i64 x.op)) := fun z h => ⟨(HBk.out z h).cell 0, (HBk.out z h).cell 6⟩
  generalize tOkS x = TO at *
  generalize askOk x = AK at *
  rw [HOk.out]
  generalize stepL x = SL at *
  generalize askH x = AH at *
  generalize askT x = TS at *
  generalize askP x.op = PL at *
  clear hx hxf o1 o2 o3 o4 o5 HOk
  generalize sOf (wordK x.kd) = WD at *
  generalize wordK x.kd = WL at *
  generalize x.kd.toNat * 4 = K at *
  generalize sOf (opK x.op) = OW at *
  generalize opK x.op = OL at *
  generalize x.op.toNat = OK at *
  clear hNS
  generalize cntK x.kd = cn at *
  obtain ⟨kd, xa, xb, xc, cl, sq, op, kk, vv, oo⟩ := x
  dsimp only at *
  subst h11
  have hpl : ([1, 2, 3].take cn).length = cn := by rw [List.length_take]; simp; omega
  clear hB ht htab
  go_enter Tryd.func23, Tryd.ntmps23
  go_wp2_with (go_at_call 46; refine Calls.mono HNo.out ?_; rintro e w2 ⟨vp, rfl, hp, hb2⟩; obtain ⟨g, cp, hvp⟩ := hp.shape' (by rw [hpl]; omega); rw [hpl] at hvp; subst hvp)
  have hgl := hp.lts g rfl
  have HB2 : Hid (Below (w.heap.size + 1) (w.alloc (.cells #[.int .i64 11, .int .i64 xa, .int .i64 xb, .int .i64 xc, .int .i64 cl, .int .i64 sq, .int .i64 op, .string kk, .string vv, .string oo] 47)) w2) := hb2
  have hz2 := hb2.size
  simp at hz2
  have HPt : Hid (∀ z, Below w2.heap.size w2 z → ∀ k, k < cn → z.cell? ⟨g, k, none⟩ = some (.pointer (some ⟨w.heap.size, k + 1, none⟩))) := fun z h k hk => by
    rw [h.cell (p := ⟨g, k, none⟩) hgl.2, ptr_at hp hpl.symm k (by omega), three_at k cn hk (by omega)]
  have HB2w : Hid (∀ z, Below w2.heap.size w2 z → Below (w.heap.size + 1) (w.alloc (.cells #[.int .i64 11, .int .i64 xa, .int .i64 xb, .int .i64 xc, .int .i64 cl, .int .i64 sq, .int .i64 op, .string kk, .string vv, .string oo] 47)) z) := fun z h => HB2.out.trans (h.mono (by omega))
  clear hp hb2 HNo
  go_loopw [5, 13] (fun vn i wr => ∃ k : Nat, k ≤ cn ∧ i = .int .i64 k ∧ OwnG inC 1 3 wr w2.heap.size vn (NS.take k) ∧ Below w2.heap.size w2 wr) (fun _ i _ => cn - (intOf i).toNat)
  case atStart => exact ⟨0, Nat.zero_le _, rfl, OwnG.nil _ _ _ _ _, Below.refl _ _⟩
  case round =>
    obtain ⟨k, hk, rfl, hO, hB⟩ := hrel
    have HO : Hid (OwnG inC 1 3 wr w2.heap.size _ (NS.take k)) := hO
    have HB : Hid (Below w2.heap.size w2 wr) := hB
    have hzr := hB.size
    clear hO hB
    by_cases hlt : k < cn
    · have cp1 := HPt.out wr HB.out k hlt
      have cn1 := HNC.out wr (HB2w.out wr HB.out) k (by omega)
      have HTk : Hid (NS.take k ++ [NS[k]] = NS.take (k + 1)) := (List.take_succ_eq_append_getElem (by omega)).symm
      have hkl : (k : Int) < (cn : Int) := by omega
      have hlt9 : (NS.take k).length ≤ 3 := by rw [List.length_take]; omega
      generalize NS[k] = n at *
      go_wp2_with (at_builtin; refine wpl_appendG inLaw rfl (.tmp 17) (.tmp 21) rfl n (HO.out.below ((Below.refl _ _).alloc (Nat.le_refl _) _)) rfl (wr.heap.size) 1 (Blk.new _ _ _).range rfl (by omega) (by simp; omega) ?_; intro v3 w3 ho3 hg3; have HB3 : Hid (Below w2.heap.size w2 w3) := (HB.out.alloc hzr _).trans (growG hg3 (HO.out.below ((Below.refl _ _).alloc (Nat.le_refl _) _)) (by simp; omega)))
      go_roundw
      case rel => exact ⟨k + 1, by omega, by go_num, by rw [← HTk.out]; exact ho3, HB3.out⟩
      case measure => simp [intOf]; omega
    · obtain rfl : k = cn := by omega
      rw [List.take_of_length_le (by omega)] at HO
      clear HPt
      obtain ⟨c0, c6⟩ := HK0.out wr (HB2w.out wr HB.out)
      have cw := HWo.out wr (HB2w.out wr HB.out)
      have hTp : TS.length = PL.length := hTl.1
      have hPp : 1 ≤ PL.length := hTl.2.1
      have hPq : PL.length ≤ 3 := hTl.2.2
      clear hTl
      go_wp2_with (first
        | (at_builtin; refine wpl_appendG txLaw rfl (.tmp 27) (.tmp 33) rfl OW (OwnG.nil txC 1 9 _ w2.heap.size) rfl (wr.heap.size) 1 (Blk.new _ _ _).range rfl (by simp) (by simp; omega) ?_; intro v4 w4 ho4 hg4; have hb4 : Below w2.heap.size w2 w4 := (HB.out.alloc hzr _).trans (growG hg4 (OwnG.nil txC 1 9 _ w2.heap.size) (by simp; omega)); have HB4 : Hid (Below w2.heap.size w2 w4) := hb4; have hz4 : wr.heap.size + 1 ≤ w4.heap.size := (by have := hg4.g.size; simp at this; exact this); have HN4 : Hid (OwnG inC 1 3 w4 w2.heap.size _ NS) := ownG_grew (HO.out.below ((Below.refl _ _).alloc (Nat.le_refl _) _)) (OwnG.nil txC 1 9 _ w2.heap.size) (by decide) hg4.g; clear hb4)
        | (go_at_call 47; refine Calls.mono (HAs.out _ (HB2w.out w4 HB4.out)) ?_; rintro e w5 ⟨vt, rfl, hp5, hb5⟩; obtain ⟨ga, gc, hvt⟩ := hp5.shape' (by omega); subst hvt))
      have HB5 : Hid (Below w2.heap.size w2 w5) := HB4.out.trans (hb5.mono (by omega))
      have HO5 : Hid (OwnG inC 1 3 w5 w2.heap.size _ NS) := HN4.out.below hb5
      have HX5 : Hid (OwnG txC 1 9 w5 w2.heap.size v4 [OW]) := ho4.below hb5
      have HP5 : Hid (OwnG (ptC w.heap.size) 1 92 w5 w2.heap.size (.slice (some ⟨ga, 0, none⟩) PL.length gc) PL) := hp5.le (by omega)
      clear hp5 hb5 HO HB c0 c6 cw ho4 hg4 HN4 HB4
      go_loopw [8, 38] (fun vt i wz => ∃ k : Nat, k ≤ PL.length ∧ i = .int .i64 k ∧ OwnG txC 1 9 wz w2.heap.size vt ([OW] ++ TS.take k) ∧ OwnG inC 1 3 wz w2.heap.size u5 NS ∧ OwnG (ptC w.heap.size) 1 92 wz w2.heap.size (.slice (some ⟨ga, 0, none⟩) PL.length gc) PL ∧ (TS.take k).all (fun t => wordB t.data.toList) = true ∧ Below w2.heap.size w2 wz) (fun _ i _ => PL.length - (intOf i).toNat)
      case atStart => exact ⟨0, Nat.zero_le _, rfl, HX5.out, HO5.out, HP5.out, rfl, HB5.out⟩
      case round =>
        clear HX5 HO5 HP5 HB5
        obtain ⟨k, hk, rfl, hX, hN, hP, hA, hBz⟩ := hrel
        have HX : Hid (OwnG txC 1 9 wr w2.heap.size _ ([OW] ++ TS.take k)) := hX
        have HN : Hid (OwnG inC 1 3 wr w2.heap.size _ NS) := hN
        have HP : Hid (OwnG (ptC w.heap.size) 1 92 wr w2.heap.size (.slice (some ⟨ga, 0, none⟩) PL.length gc) PL) := hP
        have HA : Hid ((TS.take k).all (fun t => wordB t.data.toList) = true) := hA
        have HB : Hid (Below w2.heap.size w2 wr) := hBz
        have hzr' := hBz.size
        have HBw : Hid (Below w.heap.size w wr) := ((Below.refl _ _).alloc (Nat.le_refl _) _).trans ((HB2w.out _ HB.out).mono (by omega))
        clear hX hN hP hA hBz
        by_cases hlt : k < PL.length
        · have cp1 := ptr_at HP.out rfl k hlt
          have ct1 := HTC.out wr (HB2w.out wr HB.out) k (by omega) hlt
          have hlT : k < TS.length := by omega
          have HTk : Hid ([OW] ++ TS.take k ++ [TS[k]] = [OW] ++ TS.take (k + 1)) := by unfold Hid; rw [List.append_assoc, List.take_succ_eq_append_getElem hlT]
          have hkl : (k : Int) < (PL.length : Int) := by omega
          have hl9 : ([OW] ++ TS.take k).length ≤ 4 := by rw [List.length_append, List.length_take]; simp; omega
          have HIw : Hid (∀ z, Calls Tryd.prog 48 #[.string TS[k]] z fun e w' => e = .returned (.bool (wordB TS[k].data.toList)) ∧ w' = z) := fun z => isWord_any _ (HTs.out _ (List.getElem_mem hlT)) z
          have HAn : Hid (wordB TS[k].data.toList = true → (TS.take (k + 1)).all (fun t => wordB t.data.toList) = true) := fun h => all_takeT hlT _ HA.out h
          have HAf : Hid (wordB TS[k].data.toList = false → TS.all (fun t => wordB t.data.toList) = false) := fun h => all_noT hlT _ h
          generalize wordB TS[k].data.toList = y at *
          generalize TS[k] = t at *
          generalize PL[k] = pl at *
          cases y
          · go_wp2_with (go_at_call 48; refine (HIw.out _).mono ?_; rintro e w' ⟨rfl, rfl⟩)
            go_ret
            have hAK : AK = false := by rw [HOk2.out]; exact HAf.out (by trivial)
            exact ⟨by rw [hAK]; rfl, fun h => absurd (hAK.symm.trans h) (by decide), Fr.of_below HBw.out (by omega)⟩
          · go_wp2_with (first
              | (go_at_call 48; refine (HIw.out _).mono ?_; rintro e w' ⟨rfl, hww⟩; have hww2 := hww.symm; subst hww2)
              | (at_builtin; refine wpl_appendG txLaw rfl (.tmp 47) (.tmp 51) rfl t (HX.out.below ((Below.refl _ _).alloc (Nat.le_refl _) _)) rfl (wr.heap.size) 1 (Blk.new _ _ _).range rfl (by omega) (by simp; omega) ?_; intro v6 w6 ho6 hg6; have HB6 : Hid (Below w2.heap.size w2 w6) := (HB.out.alloc hzr' _).trans (growG hg6 (HX.out.below ((Below.refl _ _).alloc (Nat.le_refl _) _)) (by simp; omega)); have HN6 : Hid (OwnG inC 1 3 w6 w2.heap.size _ NS) := ownG_grew (HN.out.below ((Below.refl _ _).alloc (Nat.le_refl _) _)) (HX.out.below ((Below.refl _ _).alloc (Nat.le_refl _) _)) (by decide) hg6.g; have HP6 : Hid (OwnG (ptC w.heap.size) 1 92 w6 w2.heap.size (.slice (some ⟨ga, 0, none⟩) PL.length gc) PL) := ownG_grew (HP.out.below ((Below.refl _ _).alloc (Nat.le_refl _) _)) (HX.out.below ((Below.refl _ _).alloc (Nat.le_refl _) _)) (by decide) hg6.g))
            go_roundw
            case rel => exact ⟨k + 1, by omega, by go_num, by rw [← HTk.out]; exact ho6, HN6.out, HP6.out, HAn.out (by trivial), HB6.out⟩
            case measure => simp [intOf]; omega
        · obtain rfl : k = PL.length := by omega
          rw [List.take_of_length_le (by omega)] at HX HA
          have hAK : AK = true := by rw [HOk2.out]; exact HA.out
          obtain ⟨c0, c6⟩ := HK0.out _ (HB2w.out _ HB.out)
          have cf := HFo.out _ (HB2w.out _ HB.out)
          have HFI : Hid (FarI b wr _ NS) := fun w' hf => ix_sl ((ownG_far (by decide) HN.out (by omega) hf).sl inLaw (by simp [maxLen]; omega))
          have HFT : Hid (FarT b wr _ ([OW] ++ TS)) := fun w' hf => (ownG_far (by decide) HX.out (by omega) hf).sl txLaw (by rw [List.length_append]; simp [maxLen]; omega)
          have HTz : Hid (∀ t ∈ [OW] ++ TS, t.size ≤ 1048576) := fun t h => by
            rcases List.mem_append.1 h with h | h
            · rw [List.mem_singleton.1 h]; exact HOw.out.1
            · exact HTs.out t h
          go_wp2_with (go_at_call 22; refine Calls.mono (HLn.out wr _ _ ([OW] ++ TS) (HBu.out.below HBw.out) HBw.out HFI.out HFT.out (by rw [List.length_append]; simp; omega) HTz.out) ?_; rintro e w6 ⟨rfl, hd6, hf6⟩)
          go_ret
          refine ⟨by rw [hAK]; rfl, fun _ => ?_, (Fr.of_below HBw.out (by omega)).trans hf6⟩
          have e1 : txsL ([OW] ++ TS) = [32] ++ OL ++ txsL TS := by rw [txsL_app]; simp [txsL, textsL, HOw.out.2]
          rw [e1] at hd6
          rw [HS.out, HAh.out]
          simpa using hd6

theorem tellStep_any (x : Stp) (hx : StP x) (hxf : x.fits) (b : Nat) (L : List UInt8) (w : World) (hB : Bu w b L) (hL : L.length ≤ 100000000) (ht : Tabs w) (htab : ∀ w', Below b w w' → Lib.TabIs Tryd.prog w' "internal/strconv.uint64pow10" .u64 Lib.pow10Tab) :
    Calls Tryd.prog 23 #[.pointer (some ⟨b, 0, none⟩), .agg #[.int .i64 x.kd, .int .i64 x.a, .int .i64 x.b, .int .i64 x.c, .int .i64 x.cl, .int .i64 x.sq, .int .i64 x.op, .string x.k, .string x.v, .string x.o]] w fun e w' => e = .returned (.bool (tOkS x)) ∧ (tOkS x = true → Bu w' b (L ++ (stepL x ++ [10]))) ∧ Fr b w w' := by
  by_cases h : x.kd = 11
  · exact tellStep_ask x hx hxf h b L w hB hL ht htab
  · exact tellStep_not x hx hxf h b L w hB hL ht htab
end Go.Proofs.YtabnanmfojppjaaDoor
