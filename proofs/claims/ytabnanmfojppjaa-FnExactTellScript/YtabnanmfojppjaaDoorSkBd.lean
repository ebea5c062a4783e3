/-
  strings.Builder in memory of the call's own: its writers, Len, String; strconv.Itoa.
-/
import Derived.Test.YtabnanmfojppjaaDoorSkBytes
import Derived.Test.YtabnanmfojppjaaDoorBlk
import Derived.Test.YtabnanmfojppjaaDoorSkLaid
namespace Go.Proofs.YtabnanmfojppjaaDoor
open Go.RowKit Go.Shelf
set_option linter.unusedVariables false
set_option linter.unusedSimpArgs false

/-- a builder in block b, its address word p, that holds the bytes l -/
def Bd (w : World) (b : Nat) (p : Value) (l : List UInt8) : Prop := ∃ v, Blk w b #[p, v] 56 ∧ Own w (b + 1) v (bL l)
/-- fresh or used -/
def Bu (w : World) (b : Nat) (l : List UInt8) : Prop := Bd w b (.pointer none) l ∨ Bd w b (.pointer (some ⟨b, 0, none⟩)) l
/-- what a writer leaves of the rest -/
structure Fr (b : Nat) (w w' : World) : Prop where
  lo : Below b w w'
  ok : Lib.OthersKept 5 (some b) w w'
theorem Fr.refl (b : Nat) (w : World) : Fr b w w := ⟨Below.refl _ _, Lib.OthersKept.refl _ _ _⟩
theorem Fr.trans {b : Nat} {w w1 w2 : World} (h : Fr b w w1) (k : Fr b w1 w2) : Fr b w w2 := ⟨h.lo.trans k.lo, h.ok.trans k.ok⟩
theorem Fr.of_below {b : Nat} {w w' : World} (h : Below w.heap.size w w') (hb : b ≤ w.heap.size) : Fr b w w' :=
  ⟨h.mono hb, fun k o hk _ _ => (h.block k (heap_lt hk)).trans hk⟩
theorem Bd.lt {w : World} {b : Nat} {p : Value} {l : List UInt8} (h : Bd w b p l) : b < w.heap.size := by
  obtain ⟨v, hb, _⟩ := h
  exact hb.lt
theorem Bu.lt {w : World} {b : Nat} {l : List UInt8} (h : Bu w b l) : b < w.heap.size := h.elim (fun h => h.lt) (fun h => h.lt)
theorem Bd.below {w w' : World} {b : Nat} {p : Value} {l : List UInt8} (h : Bd w b p l) (hb : Below w.heap.size w w') : Bd w' b p l := by
  obtain ⟨v, h1, h2⟩ := h
  exact ⟨v, h1.below hb h1.lt, h2.below hb⟩
theorem Bu.below {w w' : World} {b : Nat} {l : List UInt8} (h : Bu w b l) (hb : Below w.heap.size w w') : Bu w' b l := h.elim (fun h => .inl (h.below hb)) (fun h => .inr (h.below hb))
theorem Bu.new (w : World) : Bu (w.alloc (.cells #[.pointer none, .slice none 0 0] 56)) w.heap.size [] :=
  .inl ⟨_, Blk.new _ _ _, Own.nil _ _⟩
theorem own_ne {w : World} {b : Nat} {v : Value} {l : List Int} (h : Own w (b + 1) v l) : v.ownBlock ≠ some b := fun e => by
  have := (h.2.lt b e).1
  omega
theorem own_kind {w : World} {B : Nat} {v : Value} {l : List Int} (h : Own w B v l) : ∀ g, v.ownBlock = some g → ∃ c fz, w.heap[g]? = some (.cells c 5 fz) := by
  intro g hg
  rcases h.2.2 with ⟨rfl, _⟩ | ⟨g', cap, cur, rfl, _, hgg, _⟩
  · simp [Value.ownBlock] at hg
  · simp [Value.ownBlock] at hg
    subst hg
    exact ⟨cur, _, hgg⟩
theorem infoBdS : (Tryd.prog.info? 56).map (·.size) = some 2 := by kernel_rfl
theorem liesBd : liesAt Tryd.prog Tryd.prog.depth 56 (2 / Tryd.prog.cellsOf 56) 0 56 1 = true := by kernel_rfl

set_option maxHeartbeats 1000000 in
set_option maxRecDepth 100000 in
theorem copyCheck_any (w : World) (b : Nat) (l : List UInt8) (h : Bu w b l) :
    Calls Tryd.prog 61 #[.pointer (some ⟨b, 0, none⟩)] w fun e w' => e = .returned (.tuple #[]) ∧ Bd w' b (.pointer (some ⟨b, 0, none⟩)) l ∧ Fr b w w' := by
  rcases h with h | h
  · obtain ⟨v, hb, ho⟩ := h
    have HB : Hid (Blk w b #[.pointer none, v] 56) := hb
    have HO : Hid (Own w (b + 1) v (bL l)) := ho
    have h0 : w.cell? ⟨b, 0, none⟩ = some (.pointer none) := hb.cell 0
    have hf : w.frozen? ⟨b, 0, none⟩ = false := hb.free 0
    have hsh : w.shape? b = some (56, 2) := by unfold World.shape?; rw [hb]; rfl
    obtain ⟨j, hj, hjs⟩ := Option.map_eq_some_iff.1 infoBdS
    clear hb ho
    go_enter Tryd.func61, Tryd.ntmps61
    go_wp2
    rw [Lib.run_to_unsafe w ⟨b, 0, none⟩ Tryd.underlying54 Tryd.underlying110 hj (by rw [hjs]; decide) hsh (Nat.zero_lt_succ 1)]
    simp only [Result.andThen]
    rw [Oper.upon_value]
    go_wp2
    rw [run_callFunc_extern Tryd.func65 (by kernel_rfl) (by kernel_rfl) (by kernel_rfl) (e := Extern.AbiNoEscape.same) (by kernel_rfl)]
    rw [Lib.run_noEscape]
    simp only [Result.andThen]
    rw [Oper.upon_value]
    go_wp2
    rw [Lib.run_from_unsafe w ⟨b, 0, none⟩ Tryd.underlying110 Tryd.underlying54 hj hsh liesBd]
    simp only [Result.andThen]
    rw [Oper.upon_value]
    go_wp2
    go_end0
    refine ⟨rfl, ⟨v, HB.out.set 0 _, HO.out.block fun k hk => Below.heap_setCell _ _ _ _ (fun e => ?_)⟩, ⟨(Below.refl _ _).setCell (p := ⟨b, 0, none⟩) (Nat.le_refl _) _, (Lib.OthersKept.refl _ _ _).setCell (b := b) ⟨b, 0, none⟩ rfl _⟩⟩
    exact own_ne HO.out (hk.trans (congrArg some e))
  · have HB : Hid (Bd w b (.pointer (some ⟨b, 0, none⟩)) l) := h
    obtain ⟨v, hb, ho⟩ := h
    have h0 : w.cell? ⟨b, 0, none⟩ = some (.pointer (some ⟨b, 0, none⟩)) := hb.cell 0
    obtain ⟨j, hj, hjs⟩ := Option.map_eq_some_iff.1 infoBdS
    clear hb ho
    go_enter Tryd.func61, Tryd.ntmps61
    go_wp2
    rw [Lib.run_neq_ptr_same w _ Tryd.underlying54 hj]
    go_wp2
    go_end0
    exact ⟨rfl, HB.out, Fr.refl _ _⟩

/-- behind an append and the store of what it gave -/
theorem bd_put {w w2 : World} {b : Nat} {v v2 : Value} {l l2 : List UInt8} (hb : Blk w b #[.pointer (some ⟨b, 0, none⟩), v] 56) (ho : Own w (b + 1) v (bL l)) (ho2 : Own w2 (b + 1) v2 (bL l2)) (hg : w.grownBy w2 v.ownBlock) :
    Bd (w2.setCell ⟨b, 1, none⟩ v2) b (.pointer (some ⟨b, 0, none⟩)) l2 ∧ Fr b w (w2.setCell ⟨b, 1, none⟩ v2) := by
  have hlt := hb.lt
  have hb2 : Blk w2 b #[.pointer (some ⟨b, 0, none⟩), v] 56 := hb.keep (hg.block b hlt (fun e => own_ne ho e.symm))
  refine ⟨⟨v2, hb2.set 1 _, ho2.block fun k hk => Below.heap_setCell _ _ _ _ (fun e => ?_)⟩, ⟨?_, ?_⟩⟩
  · exact own_ne ho2 (hk.trans (congrArg some e))
  · exact ((Below.refl b _).grown hg (by omega) (fun k hk => by have := (ho.2.lt k hk).1; omega)).setCell (p := ⟨b, 1, none⟩) (Nat.le_refl _) _
  · exact ((Lib.OthersKept.refl _ _ _).grown hg (own_kind ho)).setCell (b := b) ⟨b, 1, none⟩ rfl _

set_option maxHeartbeats 1000000 in
set_option maxRecDepth 100000 in
theorem writeByte_any (w : World) (b : Nat) (l : List UInt8) (c : UInt8) (h : Bu w b l) (hl : l.length ≤ 1000000000) :
    Calls Tryd.prog 44 #[.pointer (some ⟨b, 0, none⟩), .int .u8 (c.toNat : Int)] w fun e w' => e = .returned .nilIface ∧ Bd w' b (.pointer (some ⟨b, 0, none⟩)) (l ++ [c]) ∧ Fr b w w' := by
  have HCc : Hid (∀ u, Bu u b l → Calls Tryd.prog 61 #[.pointer (some ⟨b, 0, none⟩)] u fun e w' => e = .returned (.tuple #[]) ∧ Bd w' b (.pointer (some ⟨b, 0, none⟩)) l ∧ Fr b u w') := fun u h => copyCheck_any u b l h
  have h8 : 0 ≤ (c.toNat : Int) ∧ (c.toNat : Int) ≤ 255 := by have := c.toNat_lt; omega
  have e2 : bL l ++ [(c.toNat : Int)] = bL (l ++ [c]) := by rw [bL_app]; rfl
  have HE : Hid (bL l ++ [(c.toNat : Int)] = bL (l ++ [c])) := e2
  have hll : (bL l).length ≤ 1000000000 := by rw [bL_len]; exact hl
  clear e2
  generalize (c.toNat : Int) = x at *
  go_enter Tryd.func44, Tryd.ntmps44
  go_wp2_with (first
    | (go_at_call 61; refine (HCc.out _ h).mono ?_; rintro e w1 ⟨rfl, hd, hfr⟩; obtain ⟨v, hb, ho⟩ := hd; have c1 : w1.cell? ⟨b, 1, none⟩ = some v := hb.cell 1; have hlt1 := hb.lt)
    | (at_builtin; refine wpl_append rfl (.tmp 11) (.tmp 13) rfl (ho.below ((Below.refl _ _).alloc (Nat.le_refl _) _)) rfl (Bs.one _ x h8) rfl (by simp) (by simp; omega) (by simp; omega) ?_; intro v2 w2 ho2 hg2; rw [HE.out] at ho2; have hg : w1.grownBy w2 v.ownBlock := ((Grew.refl w1 v).alloc _ |>.trans hg2).g; obtain ⟨hd2, hf2⟩ := bd_put hb ho ho2 hg; have hb2 : Blk w2 b #[.pointer (some ⟨b, 0, none⟩), v] 56 := hb.keep (hg.block b hlt1 (fun e => own_ne ho e.symm)); have d0 : w2.cell? ⟨b, 0, none⟩ = some (.pointer (some ⟨b, 0, none⟩)) := hb2.cell 0; have d1 : w2.cell? ⟨b, 1, none⟩ = some v := hb2.cell 1; have f1 := hb2.free 1; obtain ⟨a2, cp2, rfl⟩ := ho2.shape))
  go_ret
  exact ⟨rfl, hd2, hfr.trans hf2⟩

theorem strCells_sOf (t : List UInt8) : Lib.strCells (sOf t) = (bL t).map (Value.int .u8) := by
  simp [Lib.strCells, sOf, bL]

set_option maxHeartbeats 1000000 in
set_option maxRecDepth 100000 in
theorem writeString_any (w : World) (b : Nat) (l t : List UInt8) (h : Bu w b l) (hl : l.length ≤ 1000000000) (ht : t.length ≤ 1000000000) :
    Calls Tryd.prog 43 #[.pointer (some ⟨b, 0, none⟩), .string (sOf t)] w fun e w' => e = .returned (.tuple #[.int .i64 t.length, .nilIface]) ∧ Bd w' b (.pointer (some ⟨b, 0, none⟩)) (l ++ t) ∧ Fr b w w' := by
  have HCc : Hid (∀ u, Bu u b l → Calls Tryd.prog 61 #[.pointer (some ⟨b, 0, none⟩)] u fun e w' => e = .returned (.tuple #[]) ∧ Bd w' b (.pointer (some ⟨b, 0, none⟩)) l ∧ Fr b u w') := fun u h => copyCheck_any u b l h
  have HE : Hid ((bL l).map (Value.int .u8) ++ Lib.strCells (sOf t) = (bL (l ++ t)).map (Value.int .u8)) := by
    unfold Hid
    rw [strCells_sOf, bL_app, List.map_append]
  have hst : (sOf t).size = t.length := sOf_size t
  have hll : (bL l).length = l.length := bL_len l
  have hl2 : (bL (l ++ t)).length = l.length + t.length := by rw [bL_len, List.length_append]
  obtain ⟨i0, hi, hz0, hz1, hz2⟩ := info_parts infoU8
  have HOw : Hid (∀ w2 v2, w2.ownsRow (b + 1) 5 1 v2 ((bL l).length + (sOf t).size) ((bL l).map (Value.int .u8) ++ Lib.strCells (sOf t)) → Own w2 (b + 1) v2 (bL (l ++ t))) := fun w2 v2 h => by
    refine ⟨bL_byte _, ?_⟩
    rw [HE.out] at h
    rw [hl2]
    rw [hll, hst] at h
    exact h
  generalize sOf t = S at *
  go_enter Tryd.func43, Tryd.ntmps43
  go_wp2_with (first
    | (go_at_call 61; refine (HCc.out _ h).mono ?_; rintro e w1 ⟨rfl, hd, hfr⟩; obtain ⟨v, hb, ho⟩ := hd; have c1 : w1.cell? ⟨b, 1, none⟩ = some v := hb.cell 1; have hlt1 := hb.lt)
    | (at_builtin; refine Lib.wpList_append_own_string _ rfl (.tmp 12) (.tmp 13) 40 9 rfl (b + 1) 5 i0 Tryd.underlying40 Tryd.underlying9 hi hz0 hz1 hz2 v _ _ rfl ho.2 S rfl (by unfold maxLen; omega) (by omega) (by omega) ?_; intro v2 w2 ho2 hg _; have ho2' : Own w2 (b + 1) v2 (bL (l ++ t)) := HOw.out w2 v2 ho2; obtain ⟨hd2, hf2⟩ := bd_put hb ho ho2' hg; have hb2 : Blk w2 b #[.pointer (some ⟨b, 0, none⟩), v] 56 := hb.keep (hg.block b hlt1 (fun e => own_ne ho e.symm)); have d0 : w2.cell? ⟨b, 0, none⟩ = some (.pointer (some ⟨b, 0, none⟩)) := hb2.cell 0; have d1 : w2.cell? ⟨b, 1, none⟩ = some v := hb2.cell 1; have f1 := hb2.free 1; clear ho2; obtain ⟨a2, cp2, rfl⟩ := ho2'.shape))
  go_ret2
  rw [hl2] at hd2 hf2
  exact ⟨by rw [← hst]; rfl, hd2, hfr.trans hf2⟩

set_option maxHeartbeats 1000000 in
theorem bdLen_any (w : World) (b : Nat) (l : List UInt8) (h : Bu w b l) :
    Calls Tryd.prog 24 #[.pointer (some ⟨b, 0, none⟩)] w fun e w' => e = .returned (.int .i64 l.length) ∧ w' = w := by
  obtain ⟨p, v, hb, ho⟩ : ∃ p v, Blk w b #[p, v] 56 ∧ Own w (b + 1) v (bL l) := by
    rcases h with ⟨v, h⟩ | ⟨v, h⟩
    · exact ⟨_, v, h⟩
    · exact ⟨_, v, h⟩
  have c1 : w.cell? ⟨b, 1, none⟩ = some v := hb.cell 1
  obtain ⟨a, cp, rfl⟩ := ho.shape
  rw [bL_len] at c1
  clear hb ho
  go_enter Tryd.func24, Tryd.ntmps24
  go_wp2
  go_ret
  exact ⟨rfl, rfl⟩

theorem bdExtra : Builder.Extra Tryd.prog laidB169_ren := {
  sizeBuilder := by kernel_rfl
  liesBuilder := by kernel_rfl
  t5 := Tryd.underlying5
  a5 := Tryd.isAgg5
  z5 := Tryd.sizeOf5
  v5 := Tryd.zeroValue5
  infoByte := by kernel_rfl
  cellsByte := by kernel_rfl
  sizeByte := by kernel_rfl
  neB5 := by decide }
theorem byteCells_bL (l : List UInt8) : Lib.byteCells l = (bL l).map (Value.int .u8) := by
  simp [Lib.byteCells, bL]
theorem Bd.isB {w : World} {b : Nat} {p : Value} {l : List UInt8} (h : Bd w b p l) : Lib.BuilderAt 56 5 b b p (Lib.byteCells l) w := by
  obtain ⟨v, hb, ho⟩ := h
  refine ⟨Nat.le_refl _, v, hb, ?_, own_ne ho⟩
  rw [byteCells_bL, List.length_map]
  exact (ho.le (by omega : b ≤ b + 1)).2
theorem Bu.isB {w : World} {b : Nat} {l : List UInt8} (h : Bu w b l) : Lib.IsBuilderF 56 5 b b (Lib.byteCells l) w :=
  .of (h.elim (fun h => .inl h.isB) (fun h => .inr h.isB))
theorem bdString_any (w : World) (b : Nat) (l : List UInt8) (h : Bu w b l) :
    Calls Tryd.prog 25 #[.pointer (some ⟨b, 0, none⟩)] w fun e w' => e = .returned (.string (sOf l)) ∧ Below b w w' := by
  refine (Any.Builder_String_any_k laidB169 bdExtra b b l w h.isB (Nat.le_of_lt h.lt)).mono ?_
  rintro e w' ⟨rfl, _, hb, _⟩
  exact ⟨rfl, hb⟩
theorem itoa_any (n : Int) (h0 : 0 ≤ n) (h1 : n < 10000000000) (w : World) (htab : Lib.TabIs Tryd.prog w "internal/strconv.uint64pow10" .u64 Lib.pow10Tab) :
    Calls Tryd.prog 45 #[.int .i64 n] w fun e w' => e = .returned (.string (sOf (Lib.itoa n))) ∧ Below w.heap.size w w' := by
  refine (Any.strconv_Itoa laidB171 n (by omega) (by omega) w htab).mono ?_
  rintro e w' ⟨rfl, k, os, rfl⟩
  exact ⟨rfl, ⟨rfl, rfl, rfl, by simp [Go.Sort.grow, World.drewN], fun j hj => by simp [Go.Sort.grow, World.drewN, Array.getElem?_append, hj]⟩⟩
end Go.Proofs.YtabnanmfojppjaaDoor
