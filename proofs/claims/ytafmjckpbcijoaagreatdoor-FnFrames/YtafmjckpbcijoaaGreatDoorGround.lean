import Derived.Test.YtafmjckpbcijoaaGreatDoorRows
import Derived.WalkKit
import Derived.WalkSpells
import Derived.RowKit3
import Derived.Below
import Derived.Deep.Light
import Derived.Deep.QuietTactic
import Derived.BigQuiet
import Derived.Laws.OwnMore
import Derived.Laws.BitsAllLaws
import Derived.OwnWalk
import Derived.Lib.AppendStr
import Derived.Maps.AppendAt
import Derived.Deep.MidRow
import Derived.Deep.WholeRow
import Derived.Orders
import Derived.Deep.DeepCutAuto
import Derived.Deep.RegionLaw
/-
  Small things that every walk wants.
-/
namespace Go.Proofs.YtafmjckpbcijoaaGreatDoor
open Go.RowKit
set_option linter.unusedVariables false

theorem bcell {W w1 : World} (hb : Below W.heap.size W w1) : (∀ b o, b < W.heap.size → w1.cell? ⟨b, o, none⟩ = W.cell? ⟨b, o, none⟩) ∧ (∀ b o, b < W.heap.size → w1.frozen? ⟨b, o, none⟩ = W.frozen? ⟨b, o, none⟩) :=
  ⟨fun b o h => hb.cell (p := ⟨b, o, none⟩) h, fun b o h => hb.frozen (p := ⟨b, o, none⟩) h⟩

theorem ret_int {k : IntKind} {a b : Int} (h : a = b) : Ending.returned (.int k a) = .returned (.int k b) := by rw [h]

theorem ifc {α : Type} {p q : Prop} [Decidable p] [Decidable q] {a b c d : α} (h : p ↔ q) (h1 : a = c) (h2 : b = d) : (if p then a else b) = if q then c else d := by
  subst h1 h2
  by_cases hp : p
  · rw [if_pos hp, if_pos (h.1 hp)]
  · rw [if_neg hp, if_neg (fun hq => hp (h.2 hq))]
end Go.Proofs.YtafmjckpbcijoaaGreatDoor

/-
  Byte slices: what a slice value holds; laws.toByteS, laws.eqByteS.
-/
namespace Go.Proofs.YtafmjckpbcijoaaGreatDoor
open Go.RowKit
set_option linter.unusedVariables false

/-- the slice value v holds, in the world w, the bytes l -/
def Bs (w : World) (v : Value) (l : List Int) : Prop :=
  l.length ≤ maxLen ∧ (∀ x ∈ l, 0 ≤ x ∧ x ≤ 255) ∧
  ∃ a cap, v = .slice a l.length cap ∧ ∀ i, i < l.length → ∃ b off, a = some ⟨b, off, none⟩ ∧ ∀ j, j < l.length → w.cell? ⟨b, off + j, none⟩ = some (.int .u8 (l[j]?.getD 0))

theorem byte_at {l : List Int} (h : ∀ x ∈ l, 0 ≤ x ∧ x ≤ 255) (k : Nat) : 0 ≤ l[k]?.getD 0 ∧ l[k]?.getD 0 ≤ 255 := by
  rcases Nat.lt_or_ge k l.length with hk | hk
  · rw [List.getElem?_eq_getElem hk]; exact h _ (List.getElem_mem hk)
  · rw [List.getElem?_eq_none hk]; simp

theorem cell_lt {w : World} {b o : Nat} {v : Value} (h : w.cell? ⟨b, o, none⟩ = some v) : b < w.heap.size := by
  rcases Nat.lt_or_ge b w.heap.size with h' | h'
  · exact h'
  · rw [World.cell?, Array.getElem?_eq_none h'] at h; simp at h

theorem Bs.below {w w' : World} {v : Value} {l : List Int} (h : Bs w v l) (hb : Below w.heap.size w w') : Bs w' v l := by
  obtain ⟨hl, h8, a, cap, rfl, hc⟩ := h
  refine ⟨hl, h8, a, cap, rfl, fun i hi => ?_⟩
  obtain ⟨b, off, rfl, hj⟩ := hc i hi
  exact ⟨b, off, rfl, fun j hj' => by rw [hb.cell (cell_lt (hj j hj'))]; exact hj j hj'⟩


end Go.Proofs.YtafmjckpbcijoaaGreatDoor

/-
  Byte slices that the call itself owns; append tq them.
-/
namespace Go.Proofs.YtafmjckpbcijoaaGreatDoor
open Go.RowKit
set_option linter.unusedVariables false

theorem infoU8 : (Tryz.prog.info? 5).map (fun i => (i.zero, i.size, i.bytes)) = some (some (.int .u8 0), 1, 1) := by kernel_rfl

/-- the slice value v, in memory from block B on that is the call's own, holds the bytes l -/
def Own (w : World) (B : Nat) (v : Value) (l : List Int) : Prop :=
  (∀ x ∈ l, 0 ≤ x ∧ x ≤ 255) ∧ w.ownsRow B 5 1 v l.length (l.map (Value.int .u8))

theorem Own.nil (w : World) (B : Nat) : Own w B (.slice none 0 0) [] := ⟨by simp, by simpa using World.ownsRow_nil w B 5 1⟩

theorem Own.shape {w : World} {B : Nat} {v : Value} {l : List Int} (h : Own w B v l) : ∃ a cap, v = .slice a l.length cap := by
  rcases h.2.2 with ⟨rfl, h0⟩ | ⟨g, cap, cur, rfl, _⟩
  · exact ⟨none, 0, by rw [h0]⟩
  · exact ⟨_, _, rfl⟩

theorem Own.shape' {w : World} {B : Nat} {v : Value} {l : List Int} (h : Own w B v l) (hl : 0 < l.length) : ∃ g cap, v = .slice (some ⟨g, 0, none⟩) l.length cap := by
  rcases h.2.2 with ⟨rfl, h0⟩ | ⟨g, cap, cur, rfl, _⟩
  · omega
  · exact ⟨_, _, rfl⟩

theorem Own.le {w : World} {B B' : Nat} {v : Value} {l : List Int} (h : Own w B v l) (hb : B' ≤ B) : Own w B' v l := by
  refine ⟨h.1, h.2.1, ?_⟩
  rcases h.2.2 with h | ⟨g, cap, cur, hv, hg, r⟩
  · exact .inl h
  · exact .inr ⟨g, cap, cur, hv, Nat.le_trans hb hg, r⟩

theorem heap_lt {w : World} {g : Nat} {o : Obj} (h : w.heap[g]? = some o) : g < w.heap.size := by
  rcases Nat.lt_or_ge g w.heap.size with h' | h'
  · exact h'
  · rw [Array.getElem?_eq_none h'] at h; cases h

theorem Own.below {w w' : World} {B : Nat} {v : Value} {l : List Int} (h : Own w B v l) (hb : Below w.heap.size w w') : Own w' B v l := by
  refine ⟨h.1, h.2.1, ?_⟩
  rcases h.2.2 with h | ⟨g, cap, cur, hv, hg, hh, r⟩
  · exact .inl h
  · exact .inr ⟨g, cap, cur, hv, hg, (hb.block g (heap_lt hh)).trans hh, r⟩

theorem Own.block {w w' : World} {B : Nat} {v : Value} {l : List Int} (h : Own w B v l) (hb : ∀ k, v.ownBlock = some k → w'.heap[k]? = w.heap[k]?) : Own w' B v l := by
  refine ⟨h.1, h.2.1, ?_⟩
  rcases h.2.2 with h | ⟨g, cap, cur, hv, hg, hh, r⟩
  · exact .inl h
  · subst hv
    exact .inr ⟨g, cap, cur, rfl, hg, (hb g rfl).trans hh, r⟩

theorem cell_add (b o j : Nat) : (⟨b, o, none⟩ : Addr).add j = ⟨b, o + j, none⟩ := by
  unfold Addr.add
  split
  · next h => subst h; rfl
  · rfl

theorem Own.bs {w : World} {B : Nat} {v : Value} {l : List Int} (h : Own w B v l) (hl : l.length ≤ maxLen) : Bs w v l := by
  obtain ⟨a, cap, rfl⟩ := h.shape
  refine ⟨hl, h.1, a, cap, rfl, fun i hi => ?_⟩
  obtain ⟨g, cap', e⟩ := h.shape' (by omega)
  simp only [Value.slice.injEq] at e
  obtain ⟨rfl, _, rfl⟩ := e
  refine ⟨g, 0, rfl, fun j hj => ?_⟩
  have := h.2.cellAt j (by omega)
  rw [Nat.zero_add, this]
  simp [hj]

theorem Own.lit (w : World) (l : List Int) (cs : Array Value) (hc : cs.toList = l.map (Value.int .u8)) (h8 : ∀ x ∈ l, 0 ≤ x ∧ x ≤ 255) (hl : l.length ≤ maxLen) :
    Own (w.alloc (.cells cs 5)) w.heap.size (.slice (some ⟨w.heap.size, 0, none⟩) l.length l.length) l := by
  have hs : cs.size = l.length := by rw [← Array.length_toList, hc, List.length_map]
  refine ⟨h8, by simp, .inr ⟨w.heap.size, l.length, cs, rfl, Nat.le_refl _, ?_, Nat.le_refl _, hl, by omega, ?_⟩⟩
  · show (w.heap.push _)[_]? = _
    simp
  · rw [hc, List.take_of_length_le (by simp)]

/-- w' is w but for v's own row and new blocks; the new value v' lies in v's row or in a new block -/
structure Grew (w : World) (v : Value) (w' : World) (v' : Value) : Prop where
  g : w.grownBy w' v.ownBlock
  at' : v'.ownBlock = v.ownBlock ∨ ∃ k, v'.ownBlock = some k ∧ w.heap.size ≤ k

theorem Grew.refl (w : World) (v : Value) : Grew w v w v := ⟨⟨rfl, rfl, rfl, Nat.le_refl _, fun _ _ _ => rfl⟩, .inl rfl⟩
theorem Grew.trans {w w1 w2 : World} {v v1 v2 : Value} (h : Grew w v w1 v1) (k : Grew w1 v1 w2 v2) : Grew w v w2 v2 := by
  have hs := h.g.size
  refine ⟨⟨k.g.os.trans h.g.os, k.g.tape.trans h.g.tape, k.g.output.trans h.g.output, Nat.le_trans h.g.size k.g.size, fun i hi hne => ?_⟩, ?_⟩
  · refine (k.g.block i (by omega) ?_).trans (h.g.block i hi hne)
    rcases h.at' with e | ⟨j, e, hj⟩
    · rw [e]; exact hne
    · rw [e]; intro he; injection he with he; omega
  · rcases k.at' with e | ⟨j, e, hj⟩
    · rw [e]; exact h.at'
    · exact .inr ⟨j, e, by omega⟩
theorem Grew.alloc {w w' : World} {v v' : Value} (h : Grew w v w' v') (o : Obj) : Grew w v (w'.alloc o) v' :=
  h.trans ⟨World.grownBy_alloc _ _ _, .inl rfl⟩
theorem Grew.below {B : Nat} {w w' : World} {v v' : Value} {l : List Int} (h : Grew w v w' v') (hown : Own w B v l) (hB : B ≤ w.heap.size) : Below B w w' :=
  (Below.refl _ _).grown h.g hB (fun k hk => (hown.2.lt k hk).1)
/-- a block that is not v's own stays -/
theorem Grew.block {w w' : World} {v v' : Value} (h : Grew w v w' v') {k : Nat} (hk : k < w.heap.size) (hne : v.ownBlock ≠ some k) : w'.heap[k]? = w.heap[k]? := h.g.block k hk (fun e => hne e.symm)
theorem Grew.far {w w' : World} {v v' : Value} (h : Grew w v w' v') {k : Nat} (hk : k < w.heap.size) (hne : v.ownBlock ≠ some k) : v'.ownBlock ≠ some k := by
  rcases h.at' with e | ⟨j, e, hj⟩
  · rw [e]; exact hne
  · rw [e]; intro he; injection he with he; omega
theorem Grew.cell {w w' : World} {v v' : Value} (h : Grew w v w' v') {k o : Nat} (hk : k < w.heap.size) (hne : v.ownBlock ≠ some k) : w'.cell? ⟨k, o, none⟩ = w.cell? ⟨k, o, none⟩ := World.cell?_of_block (w := w) (h.block hk hne)
theorem Grew.of_below {w w' : World} {v : Value} (h : Below w.heap.size w w') : Grew w v w' v := ⟨⟨h.os, h.tape, h.output, h.size, fun k hk _ => h.block k hk⟩, .inl rfl⟩

set_option maxRecDepth 100000 in
theorem wpl_append {w : World} {ops : Array Oper} {rest : List Oper} {o : Oper} {a : Act} {Q : Exit → Act → World → Prop} (hgd : o.guard = none) (s x : Operand)
    (ho : o.op = .call { callee := .builtin .append, args := #[s, x], argTypes := #[22, 22] })
    {B : Nat} {v u : Value} {l l2 : List Int} (hown : Own w B v l) (hs : a.eval s = v) (hu : Bs w u l2) (hx : a.eval x = u) (hne : 0 < l2.length) (hlen : l.length + l2.length ≤ 1073741824) (hB : B ≤ w.heap.size)
    (h : ∀ v' w', Own w' B v' (l ++ l2) → Grew w v w' v' → wpList Tryz.prog ops Q rest (a.put o.dst v') w') : wpList Tryz.prog ops Q (o :: rest) a w := by
  obtain ⟨i0, hi, hz0, hz1, hz2⟩ := info_parts infoU8
  obtain ⟨_, h8, au, cu, rfl, hc⟩ := hu
  obtain ⟨b, off, rfl, hcell⟩ := hc 0 hne
  refine wpList_append_own_at w hgd s x 22 ho B 5 i0 (.int .u8 0) 1 1 Tryz.underlying22 hi hz0 hz1 hz2 rfl (by decide) v l.length _ hs hown.2 ⟨b, off, none⟩ l2.length cu (l2.map (Value.int .u8)) hx (by simp) ?_ ?_ (by unfold maxLen; omega) (by omega) hB ?_
  · intro j u hj
    rw [cell_add]
    rw [List.getElem?_map] at hj
    cases hk : l2[j]? with
    | none => rw [hk] at hj; cases hj
    | some y =>
      rw [hk] at hj
      have hjl : j < l2.length := by
        rcases Nat.lt_or_ge j l2.length with h' | h'
        · exact h'
        · rw [List.getElem?_eq_none h'] at hk; cases hk
      rw [hcell j hjl, hk]
      exact hj
  · intro u hu
    simp only [List.mem_map] at hu
    obtain ⟨y, _, rfl⟩ := hu
    rfl
  · intro v' w' h2 h3 _ h5
    refine h v' w' ⟨fun y hy => ?_, by simpa using h2⟩ ⟨h3, h5.imp id fun e => ⟨_, e, Nat.le_refl _⟩⟩
    rcases List.mem_append.1 hy with hy | hy
    · exact hown.1 y hy
    · exact h8 y hy

/-- the bytes of a string -/
def strL (s : ByteArray) : List Int := s.data.toList.map fun c => (c.toNat : Int)
theorem strL_len (s : ByteArray) : (strL s).length = s.size := by simp [strL]
theorem strL_byte (s : ByteArray) : ∀ x ∈ strL s, 0 ≤ x ∧ x ≤ 255 := by
  intro x hx
  simp only [strL, List.mem_map] at hx
  obtain ⟨c, _, rfl⟩ := hx
  have := c.toNat_lt
  omega

set_option maxRecDepth 100000 in
theorem wpl_append_str {w : World} {ops : Array Oper} {rest : List Oper} {o : Oper} {a : Act} {Q : Exit → Act → World → Prop} (hgd : o.guard = none) (sl x : Operand)
    (ho : o.op = .call { callee := .builtin .append, args := #[sl, x], argTypes := #[22, 9] })
    {B : Nat} {v : Value} {l : List Int} {t : ByteArray} (hown : Own w B v l) (hpos : 0 < l.length) (hs : a.eval sl = v) (hx : a.eval x = .string t) (hlen : l.length + t.size ≤ 1073741824) (hB : B ≤ w.heap.size)
    (h : ∀ v' w', Own w' B v' (l ++ strL t) → Grew w v w' v' → wpList Tryz.prog ops Q rest (a.put o.dst v') w') : wpList Tryz.prog ops Q (o :: rest) a w := by
  obtain ⟨i0, hi, hz0, hz1, hz2⟩ := info_parts infoU8
  refine wpList_plain hgd fun K hK => ?_
  obtain ⟨v', w', hr, h2, h3, h4⟩ := Lib.run_append_own_string (P := Tryz.prog) w B 22 9 o.type 5 i0 Tryz.underlying22 Tryz.underlying9 hi hz0 hz1 hz2 v l.length _ hown.2 t (by unfold maxLen; omega) (by omega) hB
  have hat : v'.ownBlock = v.ownBlock ∨ ∃ k, v'.ownBlock = some k ∧ w.heap.size ≤ k := by
    rcases hown.2.2 with ⟨_, h0⟩ | ⟨g, cap, cur, rfl, hbg, hg, hnc, hcm, hcs, htake⟩
    · omega
    · have hcs' : cur.size = cap := by simpa using hcs
      by_cases hroom : l.length + t.size ≤ cap
      · have hr2 := Lib.run_append_room_string (P := Tryz.prog) w 22 9 o.type 5 i0 Tryz.underlying22 Tryz.underlying9 hi hz1 g l.length cap cur hg t hroom (by omega)
        rw [hr2] at hr
        injection hr with e1 e2
        rw [← e1]
        exact .inl rfl
      · have holds := hown.2.cells (g := g) rfl
        have hr2 := Lib.run_append_grow_string (P := Tryz.prog) w 22 9 o.type 5 i0 (.int .u8 0) Tryz.underlying22 Tryz.underlying9 hi hz0 ⟨g, 0, none⟩ l.length cap (l.map (Value.int .u8)) (by rw [hz1]; simp) holds t (by omega) (by omega) (by rw [hz2]; exact growslice_fits (by omega) (by omega))
        rw [hr2] at hr
        injection hr with e1 e2
        rw [← e1]
        exact .inr ⟨_, rfl, Nat.le_refl _⟩
  unfold Oper.wp execOp
  simp only [ho, resolve, invoke, builtin, Sem.run_bind, Sem.run_pure, Result.andThen_ok, List.map_toArray, List.map_cons, List.map_nil, hs, hx, hr]
  refine hK _ _ (h v' w' ⟨fun y hy => ?_, ?_⟩ ⟨h3, hat⟩)
  · rcases List.mem_append.1 hy with hy | hy
    · exact hown.1 y hy
    · exact strL_byte t y hy
  · have e : (l ++ strL t).map (Value.int .u8) = l.map (Value.int .u8) ++ Lib.strCells t := by
      rw [List.map_append]
      congr 1
      simp [strL, Lib.strCells]
    rw [e, List.length_append, strL_len]
    exact h2
end Go.Proofs.YtafmjckpbcijoaaGreatDoor

/-
  spec.l1src in memory; spec.l1next, spec.l1pick: the draws out of a code.
-/
namespace Go.Proofs.YtafmjckpbcijoaaGreatDoor
open Go.RowKit
set_option linter.unusedVariables false

/-- the source in block g over the bytes l has given k of them -/
def Src (w : World) (g : Nat) (v : Value) (l : List Int) (k : Nat) : Prop :=
  g < w.heap.size ∧ (∀ i, w.frozen? ⟨g, i, none⟩ = false) ∧ Bs w v l ∧ w.cell? ⟨g, 0, none⟩ = some v ∧ w.cell? ⟨g, 1, none⟩ = some (.int .i64 k)

theorem src_set {w : World} {v : Value} {l : List Int} (h : Bs w v l) {b i : Nat} {x : Value} (hx : w.cell? ⟨b, i, none⟩ = some x) (hn : ∀ n, x ≠ .int .u8 n) (y : Value) : Bs (w.setCell ⟨b, i, none⟩ y) v l := by
  obtain ⟨hl, h8, a, cap, rfl, hc⟩ := h
  refine ⟨hl, h8, a, cap, rfl, fun j hj => ?_⟩
  obtain ⟨b', off, rfl, hj'⟩ := hc j hj
  refine ⟨b', off, rfl, fun m hm => ?_⟩
  have hcm := hj' m hm
  by_cases e : (⟨b, i, none⟩ : Addr) = ⟨b', off + m, none⟩
  · rw [← e, hx] at hcm
    injection hcm with hcm
    exact absurd hcm (hn _)
  · rw [World.cell?_setCell_other w _ _ _ e]; exact hcm

theorem Src.start (w : World) (v : Value) (l : List Int) (h : Bs w v l) (T : Nat) : Src (w.alloc (.cells #[v, .int .i64 0] T)) w.heap.size v l 0 := by
  refine ⟨by simp, fun i => by simp, h.below ((Below.refl _ _).alloc (Nat.le_refl _) _), ?_, ?_⟩ <;> rw [World.cell?_alloc_new] <;> rfl

theorem World.grownBy.trans' {w w1 w2 : World} {row : Option Nat} (h : w.grownBy w1 row) (k : w1.grownBy w2 row) : w.grownBy w2 row :=
  ⟨k.os.trans h.os, k.tape.trans h.tape, k.output.trans h.output, Nat.le_trans h.size k.size, fun i hi hne => (k.block i (Nat.lt_of_lt_of_le hi h.size) hne).trans (h.block i hi hne)⟩

/-- what the source gives at place k -/
def nextV (l : List Int) (k : Nat) : Int := if k < l.length then l[k]?.getD 0 else (((k * 167 + k / 3 * 41 + l.length * 29) % 256 : Nat) : Int)
theorem nextV_byte {l : List Int} (h : ∀ x ∈ l, 0 ≤ x ∧ x ≤ 255) (k : Nat) : 0 ≤ nextV l k ∧ nextV l k ≤ 255 := by
  unfold nextV
  split
  · exact byte_at h k
  · omega

set_option maxHeartbeats 2000000 in
set_option maxRecDepth 100000 in
theorem l1next_any (g : Nat) (w : World) (v : Value) (l : List Int) (k : Nat) (hL : l.length ≤ 1048576) (hk : k ≤ 1000000000) (h : Src w g v l k) :
    Calls Tryz.prog 50 #[.pointer (some ⟨g, 0, none⟩)] w fun e w' => e = .returned (.int .i64 (nextV l k)) ∧ Src w' g v l (k + 1) ∧ w.grownBy w' (some g) := by
  obtain ⟨hg, hf, hb, h0, h1⟩ := h
  have HE : ∀ m, Hid (Src ((w.drewN m).setCell ⟨g, 1, none⟩ (.int .i64 ((k + 1 : Nat) : Int))) g v l (k + 1) ∧ w.grownBy ((w.drewN m).setCell ⟨g, 1, none⟩ (.int .i64 ((k + 1 : Nat) : Int))) (some g)) := fun m => by
    refine ⟨⟨by simpa [World.setCell] using hg, fun i => ?_, src_set (w := w.drewN m) hb h1 (by intro n; simp) _, ?_, World.cell?_setCell_same (w.drewN m) _ _ h1⟩, ?_⟩
    · rw [World.frozen?_setCell]; exact hf i
    · rw [World.cell?_setCell_other _ _ _ _ (by intro h; injection h with _ h2 _; cases h2)]; exact h0
    · exact ⟨rfl, rfl, rfl, by simp [World.setCell], fun j _ hj => Below.heap_setCell _ _ _ _ (fun e => hj (by rw [e]))⟩
  have hf1 := hf 1
  have hby := nextV_byte hb.2.1 k
  obtain ⟨hl, h8, a, cap, rfl, hc⟩ := hb
  by_cases hlt : k < l.length
  · have hn : nextV l k = l[k]?.getD 0 := by unfold nextV; rw [if_pos hlt]
    rw [hn] at hby ⊢
    obtain ⟨b, off, rfl, hcell⟩ := hc k hlt
    have hck := hcell k hlt
    have hlt' : (k : Int) < (l.length : Int) := by omega
    clear hcell hc h8 hf hn
    generalize l[k]?.getD 0 = cc at hck hby ⊢
    obtain ⟨y0, y1⟩ := hby
    go_enter Tryz.func50, Tryz.ntmps50
    go_wp2
    go_quiet (fail)
    go_wp2
    go_quiet (fail)
    go_wp2
    go_ret
    exact ⟨rfl, (HE _).out.1, (HE _).out.2⟩
  · have hn : nextV l k = (((k * 167 + k / 3 * 41 + l.length * 29) % 256 : Nat) : Int) := by unfold nextV; rw [if_neg hlt]
    rw [hn] at hby ⊢
    have hlt' : ¬ (k : Int) < (l.length : Int) := by omega
    clear hc h8 hf
    go_enter Tryz.func50, Tryz.ntmps50
    go_wp2
    go_quiet (fail)
    go_wp2
    go_quiet (fail)
    go_wp2
    go_ret
    exact ⟨by simp, (HE _).out.1, (HE _).out.2⟩

/-- how many bytes a pick takes, and what it is -/
def pickK (n : Nat) : Nat := if n ≤ 256 then 1 else if n ≤ 65536 then 2 else 4
def pickX (l : List Int) (k n : Nat) : Int := if n ≤ 256 then nextV l k else if n ≤ 65536 then nextV l k * 256 + nextV l (k + 1) else (nextV l k * 256 + nextV l (k + 1)) * 65536 + nextV l (k + 1 + 1) * 256 + nextV l (k + 1 + 1 + 1)
def pickV (l : List Int) (k n : Nat) : Nat := (pickX l k n).toNat % n
theorem pickV_lt (l : List Int) (k n : Nat) (hn : 0 < n) : pickV l k n < n := Nat.mod_lt _ hn
theorem pickK_le (n : Nat) : pickK n ≤ 4 := by unfold pickK; split <;> (try split) <;> omega

theorem toNat_mod (x : Int) (n : Nat) (h : 0 ≤ x) : ((x.toNat % n : Nat) : Int) = x % (n : Int) := by rw [Int.natCast_emod, Int.toNat_of_nonneg h]

theorem Src.byte {w : World} {g : Nat} {v : Value} {l : List Int} {k : Nat} (h : Src w g v l k) (j : Nat) : 0 ≤ nextV l j ∧ nextV l j ≤ 255 := nextV_byte h.2.2.1.2.1 j

set_option maxHeartbeats 2000000 in
set_option maxRecDepth 100000 in
theorem l1pick_any (g : Nat) (w : World) (v : Value) (l : List Int) (k n : Nat) (hL : l.length ≤ 1048576) (hk : k ≤ 900000000) (hn : 0 < n) (hN : n ≤ 4294967296) (h : Src w g v l k) :
    Calls Tryz.prog 23 #[.pointer (some ⟨g, 0, none⟩), .int .i64 n] w fun e w' => e = .returned (.int .i64 (pickV l k n : Nat)) ∧ Src w' g v l (k + pickK n) ∧ w.grownBy w' (some g) := by
  have b0 := h.byte k
  have b1 := h.byte (k + 1)
  have b2 := h.byte (k + 1 + 1)
  have b3 := h.byte (k + 1 + 1 + 1)
  have HS : Hid (Src w g v l k) := h
  have HG : Hid (w.grownBy w (some g)) := ⟨rfl, rfl, rfl, Nat.le_refl _, fun _ _ _ => rfl⟩
  have g0 : True := trivial
  have g1 : True := trivial
  have g2 : True := trivial
  clear h
  by_cases h1 : n ≤ 256
  · have hv : (pickV l k n : Int) = nextV l k % (n : Int) := by
      unfold pickV pickX
      rw [if_pos h1]
      exact toNat_mod _ _ b0.1
    have hkk : pickK n = 1 := by unfold pickK; rw [if_pos h1]
    rw [hv, hkk]
    have hgt : ¬ (256 : Int) < n := by omega
    go_enter Tryz.func23, Tryz.ntmps23
    go_wp2_with (go_at_call 50; refine (l1next_any g _ v l _ hL (by omega) HS.out).mono ?_; rintro e w1 ⟨rfl, hs1, hg1⟩; replace HS : Hid (Src w1 g v l (k + 1)) := hs1; replace HG : Hid (w.grownBy w1 (some g)) := hg1; clear hs1 hg1; obtain ⟨c0, c1⟩ := b0)
    go_ret
    exact ⟨by simp, HS.out, HG.out⟩
  · by_cases h2 : n ≤ 65536
    · have hv : (pickV l k n : Int) = (nextV l k * 256 + nextV l (k + 1)) % (n : Int) := by
        unfold pickV pickX
        rw [if_neg h1, if_pos h2]
        exact toNat_mod _ _ (by omega)
      have hkk : pickK n = 1 + 1 := by unfold pickK; rw [if_neg h1, if_pos h2]
      rw [hv, hkk]
      have hgt : (256 : Int) < n := by omega
      have hgt2 : ¬ (65536 : Int) < n := by omega
      go_enter Tryz.func23, Tryz.ntmps23
      go_wp2_with (first
        | (go_at_call 50; clear g0; refine (l1next_any g _ v l k hL (by omega) HS.out).mono ?_; rintro e w1 ⟨rfl, hs1, hg1⟩; replace HS : Hid (Src w1 g v l (k + 1)) := hs1; replace HG : Hid (w.grownBy w1 (some g)) := hg1; clear hs1 hg1; obtain ⟨c0, c1⟩ := b0)
        | (go_at_call 50; refine (l1next_any g _ v l (k + 1) hL (by omega) HS.out).mono ?_; rintro e w2 ⟨rfl, hs1, hg1⟩; have HS2 : Hid (Src w2 g v l (k + 1 + 1)) := hs1; have HG2 : Hid (w.grownBy w2 (some g)) := World.grownBy.trans' HG.out hg1; clear hs1 hg1; obtain ⟨c2, c3⟩ := b1))
      go_ret
      exact ⟨by simp, HS2.out, HG2.out⟩
    · have hv : (pickV l k n : Int) = ((nextV l k * 256 + nextV l (k + 1)) * 65536 + nextV l (k + 1 + 1) * 256 + nextV l (k + 1 + 1 + 1)) % (n : Int) := by
        unfold pickV pickX
        rw [if_neg h1, if_neg h2]
        exact toNat_mod _ _ (by omega)
      have hkk : pickK n = 1 + 1 + 1 + 1 := by unfold pickK; rw [if_neg h1, if_neg h2]
      rw [hv, hkk]
      have hgt : (256 : Int) < n := by omega
      have hgt2 : (65536 : Int) < n := by omega
      go_enter Tryz.func23, Tryz.ntmps23
      go_wp2_with (first
        | (go_at_call 50; clear g0; refine (l1next_any g _ v l k hL (by omega) HS.out).mono ?_; rintro e w1 ⟨rfl, hs1, hg1⟩; replace HS : Hid (Src w1 g v l (k + 1)) := hs1; replace HG : Hid (w.grownBy w1 (some g)) := hg1; clear hs1 hg1; obtain ⟨c0, c1⟩ := b0)
        | (go_at_call 50; clear g1; refine (l1next_any g _ v l (k + 1) hL (by omega) HS.out).mono ?_; rintro e w2 ⟨rfl, hs1, hg1⟩; have HS2 : Hid (Src w2 g v l (k + 1 + 1)) := hs1; have HG2 : Hid (w.grownBy w2 (some g)) := World.grownBy.trans' HG.out hg1; clear hs1 hg1; obtain ⟨c2, c3⟩ := b1)
        | (go_at_call 50; clear g2; refine (l1next_any g _ v l (k + 1 + 1) hL (by omega) HS2.out).mono ?_; rintro e w3 ⟨rfl, hs1, hg1⟩; have HS3 : Hid (Src w3 g v l (k + 1 + 1 + 1)) := hs1; have HG3 : Hid (w.grownBy w3 (some g)) := World.grownBy.trans' HG2.out hg1; clear hs1 hg1; obtain ⟨c4, c5⟩ := b2)
        | (go_at_call 50; refine (l1next_any g _ v l (k + 1 + 1 + 1) hL (by omega) HS3.out).mono ?_; rintro e w4 ⟨rfl, hs1, hg1⟩; have HS4 : Hid (Src w4 g v l (k + 1 + 1 + 1 + 1)) := hs1; have HG4 : Hid (w.grownBy w4 (some g)) := World.grownBy.trans' HG3.out hg1; clear hs1 hg1; obtain ⟨c6, c7⟩ := b3))
      go_ret
      exact ⟨by simp, HS4.out, HG4.out⟩

end Go.Proofs.YtafmjckpbcijoaaGreatDoor

/-
  Over a store into a row.
-/
namespace Go.Proofs.YtafmjckpbcijoaaGreatDoor
open Go.RowKit
set_option linter.unusedVariables false

theorem Rd.frame {w : World} {b : Nat} (x : Nat) (v : Value) : w.grownBy (w.setCell ⟨b, x, none⟩ v) (some b) :=
  ⟨rfl, rfl, rfl, by simp [World.setCell], fun k _ hk => Below.heap_setCell _ _ _ _ (fun e => hk (by rw [e]))⟩

theorem grownBy_trans {w w1 w2 : World} {row : Option Nat} (h : w.grownBy w1 row) (k : w1.grownBy w2 row) : w.grownBy w2 row :=
  ⟨k.os.trans h.os, k.tape.trans h.tape, k.output.trans h.output, Nat.le_trans h.size k.size, fun i hi hne => (k.block i (Nat.lt_of_lt_of_le hi h.size) hne).trans (h.block i hi hne)⟩
theorem grownBy_refl (w : World) (row : Option Nat) : w.grownBy w row := ⟨rfl, rfl, rfl, Nat.le_refl _, fun _ _ _ => rfl⟩
end Go.Proofs.YtafmjckpbcijoaaGreatDoor

/-
  spec.l1long, spec.l1word: the words that are drawn.
-/
namespace Go.Proofs.YtafmjckpbcijoaaGreatDoor
open Go.RowKit
set_option linter.unusedVariables false
set_option linter.unusedSimpArgs false

set_option maxRecDepth 100000 in
theorem conv_bs {w : World} {a : Option Addr} {n c : Nat} {l : List Int} (h : Bs w (.slice a n c) l) (hn : 0 < l.length) : (convert 22 9 (.slice a n c)).run Tryz.prog w = .ok (.string (strOfNums l)) w := by
  obtain ⟨hl, h8, a', cap, e, hcell⟩ := h
  injection e with e1 e2 e3
  subst e1 e2 e3
  obtain ⟨b, off, rfl, hj⟩ := hcell 0 hn
  refine run_convert_bytes_arg w 22 5 Tryz.underlying22 Tryz.underlying5 b off l.length c l rfl (fun i hi => ?_) 9 Tryz.underlying9
  rw [hj i hi]
  simp [List.getD, hi]

theorem bs_one (w : World) (x : Int) (h : 0 ≤ x ∧ x ≤ 255) : Bs (w.alloc (.cells #[.int .u8 x] 5)) (.slice (some ⟨w.heap.size, 0, none⟩) 1 1) [x] :=
  (Own.lit w [x] #[.int .u8 x] rfl (by simpa using h) (by simp [maxLen])).bs (by simp [maxLen])

set_option maxHeartbeats 1000000 in
set_option maxRecDepth 100000 in
theorem l1long_any (n : Nat) (c : Int) (hn0 : 0 < n) (hn : n ≤ 1000) (hc : 0 ≤ c ∧ c ≤ 255) (w : World) :
    Calls Tryz.prog 57 #[.int .i64 n, .int .u8 c] w fun e w' => e = .returned (.string (strOfNums (List.replicate n c))) ∧ Below w.heap.size w w' := by
  have hO := Own.lit w [] #[] rfl (by simp) (by simp [maxLen])
  go_enter Tryz.func57, Tryz.ntmps57
  go_wp2
  go_loopw [5, 6] (fun o i wr => ∃ k : Nat, k ≤ n ∧ i = .int .i64 k ∧ Own wr w.heap.size o (List.replicate k c) ∧ Below w.heap.size w wr) (fun _ i _ => n - (intOf i).toNat)
  case atStart => exact ⟨0, Nat.zero_le _, rfl, by simpa using hO, (Below.refl _ _).alloc (Nat.le_refl _) _⟩
  case round =>
    obtain ⟨k, hk, rfl, ho, hb⟩ := hrel
    have hz := hb.size
    clear hO
    by_cases hlt : k < n
    · go_wp2_with (at_builtin; refine wpl_append rfl (.tmp 13) (.tmp 15) rfl (ho.below ((Below.refl _ _).alloc (Nat.le_refl _) _)) rfl (bs_one _ c hc) rfl (by simp) (by simp; omega) (by simp; omega) ?_; intro v2 w2 ho2 hg2)
      go_roundw
      case rel => exact ⟨k + 1, by omega, by go_num, by rw [List.replicate_succ']; exact ho2, hb.trans (((Below.refl _ _).alloc (by omega) _).trans (hg2.below (ho.below ((Below.refl _ _).alloc (Nat.le_refl _) _)) (by simp; omega)))⟩
      case measure => simp [intOf]; omega
    · obtain rfl : k = n := by omega
      obtain ⟨a', cap', e'⟩ := ho.shape
      rw [List.length_replicate] at e'
      subst e'
      have hcv := conv_bs (ho.bs (by simp [maxLen]; omega)) (by simpa using hn0)
      clear ho
      go_wp2
      go_ret
      exact ⟨rfl, hb⟩

/-- a drawn word, and where the source stands behind it -/
def wordV (l : List Int) (k : Nat) (e : Bool) : ByteArray × Nat :=
  if pickV l k 16 = 0 ∧ e = true then (⟨#[]⟩, k + 1)
  else if pickV l k 16 = 1 then (strOfNums (List.replicate (64 - pickV l (k + 1) 2) (97 + (pickV l (k + 1 + 1) 3 : Nat))), k + 1 + 1 + 1)
  else if pickV l k 16 = 2 then (strOfNums [nextV l (k + 1), nextV l (k + 1 + 1)], k + 1 + 1 + 1)
  else if pickV l k 16 < 11 then (strOfNums [97 + (pickV l (k + 1) 4 : Nat)], k + 1 + 1)
  else (strOfNums [97 + (pickV l (k + 1) 3 : Nat), 48 + (pickV l (k + 1 + 1) 10 : Nat)], k + 1 + 1 + 1)

theorem wordV_size (l : List Int) (k : Nat) (e : Bool) : (wordV l k e).1.size ≤ 64 ∧ (e = false → 0 < (wordV l k e).1.size) ∧ k < (wordV l k e).2 ∧ (wordV l k e).2 ≤ k + 3 := by
  have h2 := pickV_lt l (k + 1) 2 (by omega)
  unfold wordV
  split
  · next h => exact ⟨by simp [ByteArray.size], fun he => by simp [he] at h, by simp, by simp⟩
  · split
    · simp only [strOfNums_size, List.length_replicate]; omega
    · split
      · simp [strOfNums_size]; omega
      · split <;> simp [strOfNums_size] <;> omega

theorem grownBy_alloc' {w w' : World} {row : Option Nat} (h : w.grownBy w' row) (o : Obj) : w.grownBy (w'.alloc o) row := grownBy_trans h (World.grownBy_alloc _ _ _)
theorem grownBy_below' {w w' w'' : World} {row : Option Nat} (h : w.grownBy w' row) (hb : Below w'.heap.size w' w'') : w.grownBy w'' row := grownBy_trans h ⟨hb.os, hb.tape, hb.output, hb.size, fun k hk _ => hb.block k hk⟩
theorem Src.below {w w' : World} {g : Nat} {v : Value} {l : List Int} {k : Nat} (h : Src w g v l k) (hb : Below w.heap.size w w') : Src w' g v l k :=
  ⟨Nat.lt_of_lt_of_le h.1 hb.size, fun i => (hb.frozen h.1).trans (h.2.1 i), h.2.2.1.below hb, (hb.cell h.1).trans h.2.2.2.1, (hb.cell h.1).trans h.2.2.2.2⟩
theorem pickK16 : pickK 16 = 1 := by decide
theorem pickK2 : pickK 2 = 1 := by decide
theorem pickK3 : pickK 3 = 1 := by decide
theorem pickK4 : pickK 4 = 1 := by decide
theorem pickK10 : pickK 10 = 1 := by decide

set_option maxHeartbeats 4000000 in
set_option maxRecDepth 100000 in
theorem l1word_any (g : Nat) (w : World) (v : Value) (l : List Int) (k : Nat) (e : Bool) (hL : l.length ≤ 1048576) (hk : k ≤ 800000000) (h : Src w g v l k) :
    Calls Tryz.prog 56 #[.pointer (some ⟨g, 0, none⟩), .bool e] w fun r w' => r = .returned (.string (wordV l k e).1) ∧ Src w' g v l (wordV l k e).2 ∧ w.grownBy w' (some g) := by
  have p0 := pickV_lt l k 16 (by omega)
  have p2 := pickV_lt l (k + 1) 2 (by omega)
  have p3 := pickV_lt l (k + 1 + 1) 3 (by omega)
  have p3' := pickV_lt l (k + 1) 3 (by omega)
  have p4 := pickV_lt l (k + 1) 4 (by omega)
  have p10 := pickV_lt l (k + 1 + 1) 10 (by omega)
  have b1 := h.byte (k + 1)
  have b2 := h.byte (k + 1 + 1)
  have HS : Hid (Src w g v l k) := h
  have g0 : True := trivial
  have g1 : True := trivial
  have g2 : True := trivial
  clear h
  by_cases c0 : pickV l k 16 = 0 ∧ e = true
  · obtain ⟨c0, rfl⟩ := c0
    have hw : wordV l k true = (⟨#[]⟩, k + 1) := by unfold wordV; rw [if_pos ⟨c0, rfl⟩]
    rw [hw]
    have HP : Hid (pickV l k 16 = 0) := c0
    clear c0 p0 p2 p3 p3' p4 p10 hw
    go_enter Tryz.func56, Tryz.ntmps56
    go_wp2_with (go_at_call 23; clear g0; refine (l1pick_any g _ v l k 16 hL (by omega) (by omega) (by omega) HS.out).mono ?_; rintro r w1 ⟨rfl, hs1, hg1⟩; rw [pickK16] at hs1; rw [HP.out])
    go_ret
    exact ⟨rfl, hs1, hg1⟩
  have HE : Hid (pickV l k 16 = 0 → e = false) := fun h => by cases e with | false => rfl | true => exact absurd ⟨h, rfl⟩ c0
  by_cases c1 : pickV l k 16 = 1
  · have hw : wordV l k e = (strOfNums (List.replicate (64 - pickV l (k + 1) 2) (97 + (pickV l (k + 1 + 1) 3 : Nat))), k + 1 + 1 + 1) := by unfold wordV; rw [if_neg c0, if_pos c1]
    rw [hw]
    have HP : Hid (pickV l k 16 = 1) := c1
    clear c0 c1 HE p0 hw p3' p4 p10
    have hn : ((64 : Int) - (pickV l (k + 1) 2 : Nat)) = ((64 - pickV l (k + 1) 2 : Nat) : Int) := by omega
    have HL : Hid (∀ w : World, Calls Tryz.prog 57 #[.int .i64 ((64 : Int) - (pickV l (k + 1) 2 : Nat)), .int .u8 (97 + (pickV l (k + 1 + 1) 3 : Nat))] w fun e w' => e = .returned (.string (strOfNums (List.replicate (64 - pickV l (k + 1) 2) (97 + (pickV l (k + 1 + 1) 3 : Nat))))) ∧ Below w.heap.size w w') := fun w => by
      rw [hn]; exact l1long_any _ _ (by omega) (by omega) (by omega) w
    clear hn
    generalize strOfNums (List.replicate (64 - pickV l (k + 1) 2) (97 + (pickV l (k + 1 + 1) 3 : Nat))) = S at HL ⊢
    go_enter Tryz.func56, Tryz.ntmps56
    go_wp2_with (first
      | (go_at_call 23; clear g0; refine (l1pick_any g _ v l k 16 hL (by omega) (by omega) (by omega) HS.out).mono ?_; rintro r w1 ⟨rfl, hs1, hg1⟩; rw [pickK16] at hs1; rw [HP.out])
      | (go_at_call 23; clear g1; refine (l1pick_any g _ v l (k + 1) 2 hL (by omega) (by omega) (by omega) hs1).mono ?_; rintro r w2 ⟨rfl, hs2, hg2⟩; rw [pickK2] at hs2)
      | (go_at_call 23; clear g2; refine (l1pick_any g _ v l (k + 1 + 1) 3 hL (by omega) (by omega) (by omega) hs2).mono ?_; rintro r w3 ⟨rfl, hs3, hg3⟩; rw [pickK3] at hs3)
      | (go_at_call 57; refine (HL.out _).mono ?_; rintro r w4 ⟨rfl, hb4⟩))
    go_ret
    exact ⟨rfl, hs3.below hb4, grownBy_below' (grownBy_trans hg1 (grownBy_trans hg2 hg3)) hb4⟩
  by_cases c2 : pickV l k 16 = 2
  · have hw : wordV l k e = (strOfNums [nextV l (k + 1), nextV l (k + 1 + 1)], k + 1 + 1 + 1) := by unfold wordV; rw [if_neg c0, if_neg c1, if_pos c2]
    rw [hw]
    have HP : Hid (pickV l k 16 = 2) := c2
    clear c0 c1 c2 HE p0 hw p3' p4 p10 p2 p3
    obtain ⟨q1, q2⟩ := b1
    obtain ⟨q3, q4⟩ := b2
    have HC : Hid (∀ w : World, (convert 22 9 (.slice (some ⟨w.heap.size, 0, none⟩) 2 2)).run Tryz.prog (w.alloc (.cells #[.int .u8 (nextV l (k + 1)), .int .u8 (nextV l (k + 1 + 1))] 5)) = .ok (.string (strOfNums [nextV l (k + 1), nextV l (k + 1 + 1)])) (w.alloc (.cells #[.int .u8 (nextV l (k + 1)), .int .u8 (nextV l (k + 1 + 1))] 5))) := fun w =>
      conv_bs ((Own.lit w [nextV l (k + 1), nextV l (k + 1 + 1)] #[.int .u8 (nextV l (k + 1)), .int .u8 (nextV l (k + 1 + 1))] rfl (by simp; omega) (by simp [maxLen])).bs (by simp [maxLen])) (by simp)
    generalize strOfNums [nextV l (k + 1), nextV l (k + 1 + 1)] = S at HC ⊢
    go_enter Tryz.func56, Tryz.ntmps56
    go_wp2_with (first
      | (go_at_call 23; clear g0; refine (l1pick_any g _ v l k 16 hL (by omega) (by omega) (by omega) HS.out).mono ?_; rintro r w1 ⟨rfl, hs1, hg1⟩; rw [pickK16] at hs1; rw [HP.out])
      | (go_at_call 50; clear g1; refine (l1next_any g _ v l (k + 1) hL (by omega) hs1).mono ?_; rintro r w2 ⟨rfl, hs2, hg2⟩)
      | (go_at_call 50; clear g2; refine (l1next_any g _ v l (k + 1 + 1) hL (by omega) hs2).mono ?_; rintro r w3 ⟨rfl, hs3, hg3⟩; have hcv := HC.out w3))
    go_ret
    exact ⟨rfl, hs3.below ((Below.refl _ _).alloc (Nat.le_refl _) _), grownBy_alloc' (grownBy_trans hg1 (grownBy_trans hg2 hg3)) _⟩
  by_cases c3 : pickV l k 16 < 11
  · have hw : wordV l k e = (strOfNums [97 + (pickV l (k + 1) 4 : Nat)], k + 1 + 1) := by unfold wordV; rw [if_neg c0, if_neg c1, if_neg c2, if_pos c3]
    rw [hw]
    have HC : Hid (∀ w : World, (convert 22 9 (.slice (some ⟨w.heap.size, 0, none⟩) 1 1)).run Tryz.prog (w.alloc (.cells #[.int .u8 (97 + (pickV l (k + 1) 4 : Nat))] 5)) = .ok (.string (strOfNums [97 + (pickV l (k + 1) 4 : Nat)])) (w.alloc (.cells #[.int .u8 (97 + (pickV l (k + 1) 4 : Nat))] 5))) := fun w =>
      conv_bs ((Own.lit w [97 + (pickV l (k + 1) 4 : Nat)] #[.int .u8 (97 + (pickV l (k + 1) 4 : Nat))] rfl (by simp; omega) (by simp [maxLen])).bs (by simp [maxLen])) (by simp)
    clear hw p3' p10 p2 p3 b1 b2
    generalize strOfNums [97 + (pickV l (k + 1) 4 : Nat)] = S at HC ⊢
    have HQ : Hid (∃ P : Int, P = (pickV l k 16 : Nat)) := ⟨_, rfl⟩
    go_enter Tryz.func56, Tryz.ntmps56
    go_wp2_with (first
      | (go_at_call 23; clear g0; refine (l1pick_any g _ v l k 16 hL (by omega) (by omega) (by omega) HS.out).mono ?_; rintro r w1 ⟨rfl, hs1, hg1⟩; rw [pickK16] at hs1)
      | (go_at_call 23; clear g1; refine (l1pick_any g _ v l (k + 1) 4 hL (by omega) (by omega) (by omega) hs1).mono ?_; rintro r w2 ⟨rfl, hs2, hg2⟩; rw [pickK4] at hs2; have hcv := HC.out w2))
    all_goals first
      | (go_ret; exact ⟨rfl, hs2.below ((Below.refl _ _).alloc (Nat.le_refl _) _), grownBy_alloc' (grownBy_trans hg1 hg2) _⟩)
      | (exfalso; first | omega | (have := HE.out (by omega); simp_all))
  · have hw : wordV l k e = (strOfNums [97 + (pickV l (k + 1) 3 : Nat), 48 + (pickV l (k + 1 + 1) 10 : Nat)], k + 1 + 1 + 1) := by unfold wordV; rw [if_neg c0, if_neg c1, if_neg c2, if_neg c3]
    rw [hw]
    have HC : Hid (∀ w : World, (convert 22 9 (.slice (some ⟨w.heap.size, 0, none⟩) 2 2)).run Tryz.prog (w.alloc (.cells #[.int .u8 (97 + (pickV l (k + 1) 3 : Nat)), .int .u8 (48 + (pickV l (k + 1 + 1) 10 : Nat))] 5)) = .ok (.string (strOfNums [97 + (pickV l (k + 1) 3 : Nat), 48 + (pickV l (k + 1 + 1) 10 : Nat)])) (w.alloc (.cells #[.int .u8 (97 + (pickV l (k + 1) 3 : Nat)), .int .u8 (48 + (pickV l (k + 1 + 1) 10 : Nat))] 5))) := fun w =>
      conv_bs ((Own.lit w [97 + (pickV l (k + 1) 3 : Nat), 48 + (pickV l (k + 1 + 1) 10 : Nat)] #[.int .u8 (97 + (pickV l (k + 1) 3 : Nat)), .int .u8 (48 + (pickV l (k + 1 + 1) 10 : Nat))] rfl (by simp; omega) (by simp [maxLen])).bs (by simp [maxLen])) (by simp)
    clear hw p4 p2 p3 b1 b2 HE
    generalize strOfNums [97 + (pickV l (k + 1) 3 : Nat), 48 + (pickV l (k + 1 + 1) 10 : Nat)] = S at HC ⊢
    go_enter Tryz.func56, Tryz.ntmps56
    go_wp2_with (first
      | (go_at_call 23; clear g0; refine (l1pick_any g _ v l k 16 hL (by omega) (by omega) (by omega) HS.out).mono ?_; rintro r w1 ⟨rfl, hs1, hg1⟩; rw [pickK16] at hs1)
      | (go_at_call 23; clear g1; refine (l1pick_any g _ v l (k + 1) 3 hL (by omega) (by omega) (by omega) hs1).mono ?_; rintro r w2 ⟨rfl, hs2, hg2⟩; rw [pickK3] at hs2)
      | (go_at_call 23; clear g2; refine (l1pick_any g _ v l (k + 1 + 1) 10 hL (by omega) (by omega) (by omega) hs2).mono ?_; rintro r w3 ⟨rfl, hs3, hg3⟩; rw [pickK10] at hs3; have hcv := HC.out w3))
    all_goals first
      | (go_ret; exact ⟨rfl, hs3.below ((Below.refl _ _).alloc (Nat.le_refl _) _), grownBy_alloc' (grownBy_trans hg1 (grownBy_trans hg2 hg3)) _⟩)
      | (exfalso; omega)
end Go.Proofs.YtafmjckpbcijoaaGreatDoor

/-
  A block of cells, whole: what it holds, over what leaves it; a struct loaded out of it and stored into it at one blow.
-/
namespace Go.Proofs.YtafmjckpbcijoaaGreatDoor
open Go.RowKit
set_option linter.unusedVariables false

/-- block b holds the cells C, none frozen -/
def Blk (w : World) (b : Nat) (C : Array Value) (t : TypeId) : Prop := w.heap[b]? = some (.cells C t (0, 0))

section
variable {w w' : World} {b : Nat} {C : Array Value} {t : TypeId}

theorem Blk.cell (h : Blk w b C t) (j : Nat) : w.cell? ⟨b, j, none⟩ = C[j]? := cell_of_row w b j C t _ h
theorem Blk.free (h : Blk w b C t) (j : Nat) : w.frozen? ⟨b, j, none⟩ = false := by
  have : w.heap[b]? = some (.cells C t (0, 0)) := h
  simp [World.frozen?, this]
theorem Blk.lt (h : Blk w b C t) : b < w.heap.size := (Array.getElem?_eq_some_iff.1 h).1
theorem Blk.new (w : World) (C : Array Value) (t : TypeId) : Blk (w.alloc (.cells C t)) w.heap.size C t := heap_alloc_last w _
theorem Blk.new' (w : World) (C : Array Value) (t : TypeId) {k : Nat} (hk : k = w.heap.size) : Blk (w.alloc (.cells C t)) k C t := by subst hk; exact Blk.new w C t
theorem Blk.alloc (h : Blk w b C t) (o : Obj) : Blk (w.alloc o) b C t := (Below.heap_alloc w o b h.lt).trans h
theorem Blk.below {B : Nat} (h : Blk w b C t) (hb : Below B w w') (hlt : b < B) : Blk w' b C t := (hb.block b hlt).trans h
theorem Blk.keep (h : Blk w b C t) (hb : w'.heap[b]? = w.heap[b]?) : Blk w' b C t := hb.trans h
theorem Blk.drew (h : Blk w b C t) : Blk w.drew b C t := h
theorem Blk.set_other (h : Blk w b C t) {p : Addr} (v : Value) (hne : b ≠ p.block) : Blk (w.setCell p v) b C t := (Below.heap_setCell w p v b hne).trans h
theorem Blk.set (h : Blk w b C t) (j : Nat) (v : Value) : Blk (w.setCell ⟨b, j, none⟩ v) b (C.setIfInBounds j v) t := by
  unfold Blk
  rw [setCell_eq_setRow w b j C t (0, 0) v h]
  exact setRow_heap w b C _ t _ h
theorem Blk.row (h : Blk w b C t) (C' : Array Value) : Blk (w.setRow b C') b C' t := setRow_heap w b C C' t _ h
theorem Blk.row_other (h : Blk w b C t) {k : Nat} (C' : Array Value) (hne : b ≠ k) : Blk (w.setRow k C') b C t := (setRow_other w k b C' hne).trans h
theorem Blk.range (h : Blk w b C t) : w.rangeAt b 0 C.toList := fun j v hv => by
  rw [Nat.zero_add, h.cell j, ← hv]; simp
theorem Blk.there (h : Blk w b C t) : w.there b 0 C.size := fun j hj => by
  rw [Nat.zero_add]
  refine ⟨?_, h.free j⟩
  rw [h.cell j, Array.getElem?_eq_getElem hj]; rfl
theorem below_row {B : Nat} {a : World} (h : Below B a w) {k : Nat} (hk : B ≤ k) (C' : Array Value) : Below B a (w.setRow k C') := h.trans ⟨rfl, rfl, rfl, by simp [World.setRow], fun i hi => setRow_other w k i C' (by omega)⟩
end

section
variable {P : Program} {ops : Array Oper} {rest : List Oper} {o : Oper} {a : Act} {w : World} {Q : Exit → Act → World → Prop}

theorem gate_ld (ty : TypeId) (x : Operand) (ho : o.op = .load ty x) (h : wpList P ops Q (o :: rest) a w) : wpList P ops Q (o :: rest) a w := h
theorem gate_st (ty : TypeId) (x y : Operand) (ho : o.op = .store ty x y) (h : wpList P ops Q (o :: rest) a w) : wpList P ops Q (o :: rest) a w := h

theorem wpl_load_blk (hgd : o.guard = none) (ty : TypeId) (x : Operand) (ho : o.op = .load ty x) (b : Nat) (hx : a.eval x = .pointer (some ⟨b, 0, none⟩)) {C : Array Value} {t : TypeId} (hb : Blk w b C t)
    {d : TypeDesc} (hu : P.underlying ty = some d) (hd : d.isRow = true) {n : Nat} (hi : (P.info? ty).map (·.size) = some n) (hn : n = C.size)
    (h : wpList P ops Q rest (a.put o.dst (.agg C)) w) : wpList P ops Q (o :: rest) a w :=
  wpList_load_mid hgd ty x ho b 0 hx C.toList d hb.range hu hd (by rw [hi, hn]; simp) h

theorem wp_store_blk {K : Act → World → Prop} (ty : TypeId) (x y : Operand) (ho : o.op = .store ty x y) (b : Nat) (hx : a.eval x = .pointer (some ⟨b, 0, none⟩)) {C C' : Array Value} (hy : a.eval y = .agg C')
    {t : TypeId} (hb : Blk w b C t) {n : Nat} (hi : (P.info? ty).map (·.size) = some n) (hn : n = C'.size) (hc : C.size = C'.size) (h1 : C'.all (·.oneCell') = true)
    (h : K (a.put o.dst undef) (w.setRow b C')) : o.wp P a w K Q := by
  unfold Oper.wp execOp
  simp only [ho, hx, hy, Instr.storeAt, Instr.sureAddr, Sem.run_bind, Sem.run_pure, Result.andThen_ok, run_storeVar_row w b t ty C C' hb (by rw [hi, hn]) hc h1]
  exact h

theorem wp_load_blk {K : Act → World → Prop} (ty : TypeId) (x : Operand) (ho : o.op = .load ty x) (b : Nat) (hx : a.eval x = .pointer (some ⟨b, 0, none⟩)) {C : Array Value} {t : TypeId} (hb : Blk w b C t)
    {d : TypeDesc} (hu : P.underlying ty = some d) (hd : d.isRow = true) {n : Nat} (hi : (P.info? ty).map (·.size) = some n) (hn : n = C.size)
    (h : K (a.put o.dst (.agg C)) w) : o.wp P a w K Q :=
  wp_load_mid ty x ho b 0 hx C.toList d hb.range hu hd (by rw [hi, hn]; simp) h

/-- the same behind a guard that lets it go -/
theorem wpl_load_blkG {gj : Nat} {gb : Bool} (hgd : o.guard = some (gj, gb)) (hy : yielded ops a.tmps gj = some gb) (ty : TypeId) (x : Operand) (ho : o.op = .load ty x) (b : Nat) (hx : a.eval x = .pointer (some ⟨b, 0, none⟩)) {C : Array Value} {t : TypeId} (hb : Blk w b C t)
    {d : TypeDesc} (hu : P.underlying ty = some d) (hd : d.isRow = true) {n : Nat} (hi : (P.info? ty).map (·.size) = some n) (hn : n = C.size)
    (h : wpList P ops Q rest (a.put o.dst (.agg C)) w) : wpList P ops Q (o :: rest) a w :=
  wpList_step fun K hK => by
    simp only [Region.wanted, hgd, hy, beq_self_eq_true, if_true]
    exact wp_load_blk ty x ho b hx hb hu hd hi hn (hK _ _ h)

theorem wpl_store_blk (hgd : o.guard = none) (ty : TypeId) (x y : Operand) (ho : o.op = .store ty x y) (b : Nat) (hx : a.eval x = .pointer (some ⟨b, 0, none⟩)) {C C' : Array Value} (hy : a.eval y = .agg C')
    {t : TypeId} (hb : Blk w b C t) {n : Nat} (hi : (P.info? ty).map (·.size) = some n) (hn : n = C'.size) (hc : C.size = C'.size) (h1 : C'.all (·.oneCell') = true)
    (h : wpList P ops Q rest (a.put o.dst undef) (w.setRow b C')) : wpList P ops Q (o :: rest) a w :=
  wpList_plain hgd fun K hK => by
    unfold Oper.wp execOp
    simp only [ho, hx, hy, Instr.storeAt, Instr.sureAddr, Sem.run_bind, Sem.run_pure, Result.andThen_ok, run_storeVar_row w b t ty C C' hb (by rw [hi, hn]) hc h1]
    exact hK _ _ h

/-- the store of a whole struct into the block that was made last -/
theorem wpl_store_last {c c' : Array Value} {t : TypeId} (hgd : o.guard = none) (ty : TypeId) (x y : Operand) (ho : o.op = .store ty x y) (k : Nat) (hx : a.eval x = .pointer (some ⟨k, 0, none⟩)) (hk : k = w.heap.size) (hy : a.eval y = .agg c')
    {n : Nat} (hi : (P.info? ty).map (·.size) = some n) (hn : n = c'.size) (hc : c.size = c'.size) (h1 : c'.all (·.oneCell') = true)
    (h : wpList P ops Q rest (a.put o.dst undef) (w.alloc (.cells c' t))) : wpList P ops Q (o :: rest) a (w.alloc (.cells c t)) := by
  subst hk
  refine wpl_store_blk hgd ty x y ho _ hx hy (Blk.new _ _ _) hi hn hc h1 ?_
  rw [World.setRow_alloc_new]; exact h

theorem setRow_under (w : World) (o : Obj) (c c' : Array Value) (t : TypeId) : ((w.alloc (.cells c t)).alloc o).setRow w.heap.size c' = (w.alloc (.cells c' t)).alloc o := by
  simp only [World.setRow, World.alloc]
  congr 1
  apply Array.ext_getElem?
  intro i
  rw [Array.getElem?_modify]
  by_cases h : w.heap.size = i
  · subst h
    simp [Array.getElem?_push]
  · have h' : ¬ i = w.heap.size := fun e => h e.symm
    simp [h, h', Array.getElem?_push]

/-- .. and into the one below it -/
theorem wpl_store_under {c c' : Array Value} {t : TypeId} {ob : Obj} (hgd : o.guard = none) (ty : TypeId) (x y : Operand) (ho : o.op = .store ty x y) (k : Nat) (hx : a.eval x = .pointer (some ⟨k, 0, none⟩)) (hk : k = w.heap.size) (hy : a.eval y = .agg c')
    {n : Nat} (hi : (P.info? ty).map (·.size) = some n) (hn : n = c'.size) (hc : c.size = c'.size) (h1 : c'.all (·.oneCell') = true)
    (h : wpList P ops Q rest (a.put o.dst undef) ((w.alloc (.cells c' t)).alloc ob)) : wpList P ops Q (o :: rest) a ((w.alloc (.cells c t)).alloc ob) := by
  subst hk
  refine wpl_store_blk hgd ty x y ho _ hx hy ((Blk.new _ _ _).alloc _) hi hn hc h1 ?_
  rw [setRow_under]; exact h
end

/-- a result that lies in a block -/
theorem results_blk {fn : Func} {s : Tmp} {ty : TypeId} {tmps : Array Value} {b : Nat} {w : World} {C : Array Value} {t : TypeId} (hr : fn.results = #[.cell s ty]) (ht : tmps.getD s undef = .pointer (some ⟨b, 0, none⟩))
    (hb : Blk w b C t) {d : TypeDesc} (hu : Tryz.prog.underlying ty = some d) (hd : d.isRow = true) {n : Nat} (hi : (Tryz.prog.info? ty).map (·.size) = some n) (hn : n = C.size) : (results fn tmps).run Tryz.prog w = .ok (.agg C) w := by
  have e : tmps[s]?.getD undef = .pointer (some ⟨b, 0, none⟩) := by rw [← ht]; simp
  have hl := run_loadVar_mid (P := Tryz.prog) w b 0 ty C.toList d hb.range hu hd (by rw [hi, hn]; simp)
  simp [results, hr, e, hl, asAddr]
end Go.Proofs.YtafmjckpbcijoaaGreatDoor

/-
  Draws: the source over what else is written.
-/
namespace Go.Proofs.YtafmjckpbcijoaaGreatDoor
open Go.RowKit
set_option linter.unusedVariables false
set_option linter.unusedSimpArgs false

theorem Src.alloc {w : World} {g : Nat} {v : Value} {l : List Int} {k : Nat} (h : Src w g v l k) (o : Obj) : Src (w.alloc o) g v l k := h.below ((Below.refl _ _).alloc (Nat.le_refl _) _)
theorem Src.lt {w : World} {g : Nat} {v : Value} {l : List Int} {k : Nat} (h : Src w g v l k) : g < w.heap.size := h.1

/-- no byte among the cells -/
def NoU8 (C : Array Value) : Prop := ∀ (j : Nat) (n : Int), C[j]? ≠ some (Value.int .u8 n)
def isU8 : Value → Bool
  | .int .u8 _ => true
  | _ => false
theorem noU8_of {C : Array Value} (h : C.toList.all (fun x => !isU8 x) = true) : NoU8 C := fun j n e => by
  have hm : (.int .u8 n : Value) ∈ C.toList := by
    rw [← Array.getElem?_toList] at e
    exact List.mem_of_getElem? e
  have := List.all_eq_true.1 h _ hm
  simp [isU8] at this

theorem Src.setB {w : World} {g : Nat} {v : Value} {l : List Int} {k b : Nat} {C : Array Value} {t : TypeId} (h : Src w g v l k) (hb : Blk w b C t) (hne : b ≠ g) (j : Nat) (hj : j < C.size) (hn : NoU8 C) (y : Value) : Src (w.setCell ⟨b, j, none⟩ y) g v l k := by
  obtain ⟨h1, h2, h3, h4, h5⟩ := h
  have hc : w.cell? ⟨b, j, none⟩ = some C[j] := by rw [hb.cell j]; exact Array.getElem?_eq_getElem hj
  refine ⟨by simpa [World.setCell] using h1, fun i => by rw [World.frozen?_setCell]; exact h2 i, src_set h3 hc (fun n e => hn j n (by rw [Array.getElem?_eq_getElem hj, e])) y, ?_, ?_⟩
  · rw [World.cell?_setCell_other _ _ _ _ (by intro e; injection e with e _ _; exact hne e)]; exact h4
  · rw [World.cell?_setCell_other _ _ _ _ (by intro e; injection e with e _ _; exact hne e)]; exact h5
theorem Src.row {w : World} {g : Nat} {v : Value} {l : List Int} {k b : Nat} {C : Array Value} {t : TypeId} (h : Src w g v l k) (hb : Blk w b C t) (hne : b ≠ g) (hn : NoU8 C) (C' : Array Value) : Src (w.setRow b C') g v l k := by
  obtain ⟨h1, h2, ⟨hl, h8, a, cap, rfl, hc⟩, h4, h5⟩ := h
  have hg : (w.setRow b C').heap[g]? = w.heap[g]? := setRow_other w b g C' (fun e => hne e.symm)
  have hlt : g < (w.setRow b C').heap.size := by
    rcases Nat.lt_or_ge g (w.setRow b C').heap.size with h' | h'
    · exact h'
    · rw [Array.getElem?_eq_none h', Array.getElem?_eq_getElem h1] at hg
      cases hg
  refine ⟨hlt, fun i => ?_, ⟨hl, h8, a, cap, rfl, fun i hi => ?_⟩, (World.cell?_of_block (w := w) hg).trans h4, (World.cell?_of_block (w := w) hg).trans h5⟩
  · have := h2 i
    simp only [World.frozen?, hg] at this ⊢
    exact this
  · obtain ⟨b', off, rfl, hj⟩ := hc i hi
    refine ⟨b', off, rfl, fun m hm => ?_⟩
    by_cases e : b' = b
    · subst e
      have := hj m hm
      rw [hb.cell] at this
      exact absurd this (hn _ _)
    · exact (World.cell?_of_block (w := w) (setRow_other w b b' C' e)).trans (hj m hm)
theorem Blk.grown {w w' : World} {b g : Nat} {C : Array Value} {t : TypeId} (h : Blk w b C t) (hg : w.grownBy w' (some g)) (hne : b ≠ g) : Blk w' b C t :=
  h.keep (hg.block b h.lt (by intro e; injection e with e; exact hne e))
theorem grownBy_set_new {w w1 : World} {row : Option Nat} (h : w.grownBy w1 row) {b : Nat} (hb : w.heap.size ≤ b) (j : Nat) (x : Value) : w.grownBy (w1.setCell ⟨b, j, none⟩ x) row :=
  ⟨h.os, h.tape, h.output, by simpa [World.setCell] using h.size, fun k hk hne => (Below.heap_setCell _ _ _ _ (by simp only; omega)).trans (h.block k hk hne)⟩
theorem grownBy_row_new {w w1 : World} {row : Option Nat} (h : w.grownBy w1 row) {b : Nat} {C : Array Value} {t : TypeId} (hB : Blk w1 b C t) (hb : w.heap.size ≤ b) (C' : Array Value) : w.grownBy (w1.setRow b C') row := by
  exact ⟨h.os, h.tape, h.output, by simpa [World.setRow] using h.size, fun k hk hne => (setRow_other w1 b k C' (by omega)).trans (h.block k hk hne)⟩
end Go.Proofs.YtafmjckpbcijoaaGreatDoor

/-
  A draw under way: the source, and the blocks of the draw's own.
-/
namespace Go.Proofs.YtafmjckpbcijoaaGreatDoor
open Go.RowKit
set_option linter.unusedVariables false
set_option linter.unusedSimpArgs false

/-- since w0 nothing has turned but the source's block g and new blocks; the blocks F, all new, hold what is told of them -/
structure Dr (w0 w : World) (g : Nat) (v : Value) (l : List Int) (k : Nat) (F : List (Nat × Array Value × TypeId)) : Prop where
  grown : w0.grownBy w (some g)
  src : Src w g v l k
  gl : g < w0.heap.size
  bs0 : Bs w0 v l
  blks : ∀ (i : Nat) x, F[i]? = some x → w0.heap.size ≤ x.1 ∧ Blk w x.1 x.2.1 x.2.2 ∧ NoU8 x.2.1
  dis : ∀ (i j : Nat) x y, F[i]? = some x → F[j]? = some y → x.1 = y.1 → i = j

section
variable {w0 w w' : World} {g k k' : Nat} {v : Value} {l : List Int} {F : List (Nat × Array Value × TypeId)}

theorem cell_lt' {w : World} {b o : Nat} {u : Value} (h : w.cell? ⟨b, o, none⟩ = some u) : b < w.heap.size := cell_lt h
theorem Dr.start (h : Src w g v l k) : Dr w w g v l k [] :=
  ⟨⟨rfl, rfl, rfl, Nat.le_refl _, fun _ _ _ => rfl⟩, h, h.lt, h.2.2.1, fun i x e => (by simp at e), fun i j x y e => (by simp at e)⟩
theorem Dr.blk (h : Dr w0 w g v l k F) (i : Nat) {b : Nat} {C : Array Value} {t : TypeId} (hi : F[i]? = some (b, C, t)) : Blk w b C t := (h.blks i _ hi).2.1
theorem Dr.ge (h : Dr w0 w g v l k F) (i : Nat) {b : Nat} {C : Array Value} {t : TypeId} (hi : F[i]? = some (b, C, t)) : w0.heap.size ≤ b := (h.blks i _ hi).1
theorem Dr.lt (h : Dr w0 w g v l k F) (i : Nat) {b : Nat} {C : Array Value} {t : TypeId} (hi : F[i]? = some (b, C, t)) : b < w.heap.size := (h.blk i hi).lt
theorem Dr.ne (h : Dr w0 w g v l k F) (i : Nat) {b : Nat} {C : Array Value} {t : TypeId} (hi : F[i]? = some (b, C, t)) : b ≠ g := by
  have h1 := h.ge i hi
  have h2 := h.gl
  omega
theorem Dr.size (h : Dr w0 w g v l k F) : w0.heap.size ≤ w.heap.size := h.grown.size
/-- a call that draws on -/
theorem Dr.call (h : Dr w0 w g v l k F) (hs : Src w' g v l k') (hg : w.grownBy w' (some g)) : Dr w0 w' g v l k' F :=
  ⟨grownBy_trans h.grown hg, hs, h.gl, h.bs0, fun i x e => ⟨(h.blks i x e).1, ((h.blks i x e).2.1).grown hg (by have h1 := (h.blks i x e).1; have h2 := h.gl; omega), (h.blks i x e).2.2⟩, h.dis⟩
/-- .. that only makes memory -/
theorem Dr.below (h : Dr w0 w g v l k F) (hb : Below w.heap.size w w') : Dr w0 w' g v l k F :=
  h.call (h.src.below hb) ⟨hb.os, hb.tape, hb.output, hb.size, fun k hk _ => hb.block k hk⟩
theorem Dr.other (h : Dr w0 w g v l k F) (o : Obj) : Dr w0 (w.alloc o) g v l k F := h.below ((Below.refl _ _).alloc (Nat.le_refl _) _)
theorem Dr.drew (h : Dr w0 w g v l k F) : Dr w0 w.drew g v l k F := h.below (Below.refl _ _).drew
theorem Dr.drewN (h : Dr w0 w g v l k F) (n : Nat) : Dr w0 (w.drewN n) g v l k F := h.below ⟨rfl, rfl, rfl, Nat.le_refl _, fun _ _ => rfl⟩
theorem Dr.new (h : Dr w0 w g v l k F) (C : Array Value) (t : TypeId) (hn : NoU8 C) : Dr w0 (w.alloc (.cells C t)) g v l k (F ++ [(w.heap.size, C, t)]) := by
  have h' := h.other (.cells C t)
  refine ⟨h'.grown, h'.src, h'.gl, h.bs0, fun i x e => ?_, fun i j x y ei ej e => ?_⟩
  · rcases Nat.lt_or_ge i F.length with hi | hi
    · rw [List.getElem?_append_left hi] at e; exact h'.blks i x e
    · rw [List.getElem?_append_right hi] at e
      rcases Nat.eq_zero_or_pos (i - F.length) with hz | hz
      · rw [hz] at e; simp at e; subst e; exact ⟨h.size, Blk.new _ _ _, hn⟩
      · rw [List.getElem?_eq_none (by simp; omega)] at e; cases e
  · have key : ∀ (i : Nat) x, (F ++ [(w.heap.size, C, t)])[i]? = some x → (i < F.length ∧ F[i]? = some x ∧ x.1 < w.heap.size) ∨ (i = F.length ∧ x.1 = w.heap.size) := fun i x e => by
      rcases Nat.lt_or_ge i F.length with hi | hi
      · rw [List.getElem?_append_left hi] at e; exact .inl ⟨hi, e, ((h.blks i x e).2.1).lt⟩
      · rw [List.getElem?_append_right hi] at e
        rcases Nat.eq_zero_or_pos (i - F.length) with hz | hz
        · rw [hz] at e; simp at e; subst e; exact .inr ⟨by omega, rfl⟩
        · rw [List.getElem?_eq_none (by simp; omega)] at e; cases e
    rcases key i x ei with ⟨a1, a2, a3⟩ | ⟨a1, a2⟩ <;> rcases key j y ej with ⟨b1, b2, b3⟩ | ⟨b1, b2⟩
    · exact h.dis i j x y a2 b2 e
    · omega
    · omega
    · omega
theorem Dr.set (h : Dr w0 w g v l k F) (i : Nat) {b : Nat} {C : Array Value} {t : TypeId} (hi : F[i]? = some (b, C, t)) (j : Nat) (hj : j < C.size) (y : Value) (hy : isU8 y = false) :
    Dr w0 (w.setCell ⟨b, j, none⟩ y) g v l k (F.set i (b, C.setIfInBounds j y, t)) := by
  have hil : i < F.length := (List.getElem?_eq_some_iff.1 hi).1
  refine ⟨grownBy_set_new h.grown (h.ge i hi) _ _, h.src.setB (h.blk i hi) (h.ne i hi) j hj (h.blks i _ hi).2.2 y, h.gl, h.bs0, fun n x e => ?_, fun n m x y' en em e => ?_⟩
  · rw [List.getElem?_set] at e
    by_cases hn : i = n
    · subst hn
      simp [hil] at e
      subst e
      refine ⟨h.ge i hi, (h.blk i hi).set j y, fun q m e => ?_⟩
      rw [Array.getElem?_setIfInBounds] at e
      split at e
      · (try split at e)
        · injection e with e; subst e; simp [isU8] at hy
      · exact (h.blks i _ hi).2.2 q m e
    · rw [if_neg hn] at e
      exact ⟨(h.blks n x e).1, ((h.blks n x e).2.1).set_other _ (fun e' => hn (h.dis i n _ _ hi e e'.symm)), (h.blks n x e).2.2⟩
  · have key : ∀ (n : Nat) (x : Nat × Array Value × TypeId), (F.set i (b, C.setIfInBounds j y, t))[n]? = some x → ∃ z : Nat × Array Value × TypeId, F[n]? = some z ∧ z.1 = x.1 := fun n x e => by
      rw [List.getElem?_set] at e
      by_cases hn : i = n
      · subst hn
        simp [hil] at e
        subst e
        exact ⟨_, hi, rfl⟩
      · rw [if_neg hn] at e
        exact ⟨_, e, rfl⟩
    obtain ⟨z1, a1, a2⟩ := key n x en
    obtain ⟨z2, b1, b2⟩ := key m y' em
    exact h.dis n m z1 z2 a1 b1 (by rw [a2, b2, e])
theorem Dr.row (h : Dr w0 w g v l k F) (i : Nat) {b : Nat} {C : Array Value} {t : TypeId} (hi : F[i]? = some (b, C, t)) (C' : Array Value) (hn' : NoU8 C') :
    Dr w0 (w.setRow b C') g v l k (F.set i (b, C', t)) := by
  have hil : i < F.length := (List.getElem?_eq_some_iff.1 hi).1
  refine ⟨grownBy_row_new h.grown (h.blk i hi) (h.ge i hi) _, h.src.row (h.blk i hi) (h.ne i hi) (h.blks i _ hi).2.2 C', h.gl, h.bs0, fun n x e => ?_, fun n m x y' en em e => ?_⟩
  · rw [List.getElem?_set] at e
    by_cases hn : i = n
    · subst hn
      simp [hil] at e
      subst e
      exact ⟨h.ge i hi, (h.blk i hi).row C', hn'⟩
    · rw [if_neg hn] at e
      exact ⟨(h.blks n x e).1, ((h.blks n x e).2.1).row_other _ (fun e' => hn (h.dis i n _ _ hi e e'.symm)), (h.blks n x e).2.2⟩
  · have key : ∀ (n : Nat) (x : Nat × Array Value × TypeId), (F.set i (b, C', t))[n]? = some x → ∃ z : Nat × Array Value × TypeId, F[n]? = some z ∧ z.1 = x.1 := fun n x e => by
      rw [List.getElem?_set] at e
      by_cases hn : i = n
      · subst hn
        simp [hil] at e
        subst e
        exact ⟨_, hi, rfl⟩
      · rw [if_neg hn] at e
        exact ⟨_, e, rfl⟩
    obtain ⟨z1, a1, a2⟩ := key n x en
    obtain ⟨z2, b1, b2⟩ := key m y' em
    exact h.dis n m z1 z2 a1 b1 (by rw [a2, b2, e])
theorem src_belowB {B : Nat} (h : Src w g v l k) (h0 : Bs w0 v l) (hw : w0.heap.size ≤ B) (hg : g < B) (hb : Below B w w') : Src w' g v l k := by
  obtain ⟨h1, h2, ⟨hl, h8, a, cap, rfl, hc⟩, h4, h5⟩ := h
  obtain ⟨_, _, a', cap', e, hc0⟩ := h0
  injection e with e1 e2 e3
  subst e1 e3
  refine ⟨Nat.lt_of_lt_of_le h1 hb.size, fun i => by rw [hb.frozen (p := ⟨g, i, none⟩) hg]; exact h2 i, ⟨hl, h8, a, cap, rfl, fun i hi => ?_⟩, (hb.cell (p := ⟨g, 0, none⟩) hg).trans h4, (hb.cell (p := ⟨g, 1, none⟩) hg).trans h5⟩
  obtain ⟨b, off, rfl, hj⟩ := hc i hi
  obtain ⟨b', off', e', hj'⟩ := hc0 i hi
  injection e' with e'
  injection e' with e1' e2'
  subst e1' e2'
  exact ⟨b, off, rfl, fun m hm => (hb.cell (p := ⟨b, off + m, none⟩) (Nat.lt_of_lt_of_le (cell_lt (hj' m hm)) hw)).trans (hj m hm)⟩
/-- something written in blocks from B on, which lie behind all that is told of -/
theorem Dr.belowB (h : Dr w0 w g v l k F) {B : Nat} (hb : Below B w w') (hB : w0.heap.size ≤ B) (hF : ∀ x ∈ F, x.1 < B) : Dr w0 w' g v l k F :=
  ⟨⟨hb.os.trans h.grown.os, hb.tape.trans h.grown.tape, hb.output.trans h.grown.output, Nat.le_trans h.grown.size hb.size, fun q hq hne => (hb.block q (by omega)).trans (h.grown.block q hq hne)⟩,
   src_belowB h.src h.bs0 hB (Nat.lt_of_lt_of_le h.gl hB) hb, h.gl, h.bs0, fun i x e => ⟨(h.blks i x e).1, ((h.blks i x e).2.1).below hb (hF x (List.mem_of_getElem? e)), (h.blks i x e).2.2⟩, h.dis⟩
/-- .. or in a row of one's own that is none of the blocks told of -/
theorem Dr.grew (h : Dr w0 w g v l k F) {u u' : Value} (hg : Grew w u w' u') (hB : ∀ q, u.ownBlock = some q → w0.heap.size ≤ q) (hF : ∀ x ∈ F, u.ownBlock ≠ some x.1) : Dr w0 w' g v l k F := by
  have hb : Below w0.heap.size w w' := (Below.refl _ _).grown hg.g h.size hB
  refine ⟨⟨hb.os.trans h.grown.os, hb.tape.trans h.grown.tape, hb.output.trans h.grown.output, Nat.le_trans h.grown.size hb.size, fun q hq hne => (hb.block q hq).trans (h.grown.block q hq hne)⟩,
   src_belowB h.src h.bs0 (Nat.le_refl _) h.gl hb, h.gl, h.bs0, fun i x e => ⟨(h.blks i x e).1, ((h.blks i x e).2.1).keep (hg.block ((h.blks i x e).2.1).lt (hF x (List.mem_of_getElem? e))), (h.blks i x e).2.2⟩, h.dis⟩
/-- blocks of other types are other blocks -/
theorem ownsRow.neBlk {w : World} {base e size n b : Nat} {v : Value} {xs : List Value} {C : Array Value} {t : TypeId} (h : w.ownsRow base e size v n xs) (hb : Blk w b C t) (hne : e ≠ t) : v.ownBlock ≠ some b := fun hv => by
  rcases h.2 with ⟨e1, _⟩ | ⟨q, cap, cur, e1, _, hh, _⟩
  · subst e1; cases hv
  · subst e1
    injection hv with hv
    have hv' : q = b := hv
    subst hv'
    have hb' : w.heap[q]? = some (.cells C t (0, 0)) := hb
    rw [hb'] at hh
    injection hh with hh
    injection hh with _ hh _
    exact hne hh.symm
theorem ownsRow.neRow {w : World} {base e size n base' e' size' n' : Nat} {v u : Value} {xs ys : List Value} (h : w.ownsRow base e size v n xs) (h' : w.ownsRow base' e' size' u n' ys) (hne : e ≠ e') : ∀ q, v.ownBlock = some q → u.ownBlock ≠ some q := fun q hv hu => by
  rcases h.2 with ⟨e1, _⟩ | ⟨q1, cap, cur, e1, _, hh, _⟩
  · subst e1; cases hv
  · rcases h'.2 with ⟨e2, _⟩ | ⟨q2, cap2, cur2, e2, _, hh2, _⟩
    · subst e2; cases hu
    · subst e1 e2
      injection hv with hv
      injection hu with hu
      have hv' : q1 = q := hv
      have hu' : q2 = q := hu
      subst hv' hu'
      rw [hh] at hh2
      injection hh2 with hh2
      injection hh2 with _ hh2 _
      exact hne hh2
theorem Dr.nilF (h : Dr w0 w g v l k F) : Dr w0 w g v l k [] := ⟨h.grown, h.src, h.gl, h.bs0, fun i x e => (by simp at e), fun i j x y e => (by simp at e)⟩
theorem Dr.one {x : Nat × Array Value × TypeId} (h : Dr w0 w g v l k (x :: F)) : Dr w0 w g v l k [x] :=
  ⟨h.grown, h.src, h.gl, h.bs0, fun i y e => (by cases i with | zero => exact h.blks 0 y e | succ i => simp at e), fun i j a b ei ej e => (by cases i with | succ i => simp at ei | zero => cases j with | succ j => simp at ej | zero => rfl)⟩
/-- a pick at this state -/
theorem Dr.pick (h : Dr w0 w g v l k F) (n : Nat) (hL : l.length ≤ 1048576) (hk : k ≤ 900000000) (hn : 0 < n) (hN : n ≤ 4294967296) :
    Calls Tryz.prog 23 #[.pointer (some ⟨g, 0, none⟩), .int .i64 n] w fun e w' => e = .returned (.int .i64 (pickV l k n : Nat)) ∧ Dr w0 w' g v l (k + pickK n) F :=
  (l1pick_any g w v l k n hL hk hn hN h.src).mono fun e w' ⟨h1, h2, h3⟩ => ⟨h1, h.call h2 h3⟩
end
end Go.Proofs.YtafmjckpbcijoaaGreatDoor

/-
  spec.l1drawCmd, spec.l1drawReply: what is drawn, and where the source stands behind it.
-/
namespace Go.Proofs.YtafmjckpbcijoaaGreatDoor
open Go.RowKit
set_option linter.unusedVariables false
set_option linter.unusedSimpArgs false

theorem sizeCmdD : (Tryz.prog.info? 33).map (·.size) = some 6 := by kernel_rfl

set_option maxHeartbeats 4000000 in
set_option maxRecDepth 100000 in
theorem l1drawCmd_00 (g : Nat) (w : World) (v : Value) (l : List Int) (k : Nat) (hL : l.length ≤ 1048576) (hk : k ≤ 700000000) (h : Src w g v l k) (hp : 0 < pickV l (wordV l (k + 1 + 1 + 1) false).2 12) (ho : pickV l (k + 1 + 1) 4 ≠ 1 ∧ pickV l (k + 1 + 1) 4 ≠ 3) :
    Calls Tryz.prog 30 #[.pointer (some ⟨g, 0, none⟩)] w fun r w' => r = .returned (.agg #[.int .i64 (1 + (pickV l k 8 : Nat)), .int .i64 (1 + (pickV l (k + 1) 6 : Nat)), .int .i64 (1 + (pickV l (k + 1 + 1) 4 : Nat)), .string (wordV l (k + 1 + 1 + 1) false).1, .string ⟨#[]⟩, .string ⟨#[]⟩]) ∧ Src w' g v l ((wordV l (k + 1 + 1 + 1) false).2 + 1) ∧ w.grownBy w' (some g) := by
  have HS : Hid (Src w g v l k) := h
  have hg0 : g < w.heap.size := h.lt
  clear h
  have b0 := pickV_lt l k 8 (by omega)
  have b1 := pickV_lt l (k + 1) 6 (by omega)
  have b2 := pickV_lt l (k + 1 + 1) 4 (by omega)
  have b3 := wordV_size l (k + 1 + 1 + 1) false
  have b4 := pickV_lt l (wordV l (k + 1 + 1 + 1) false).2 12 (by omega)
  have g0 : True := trivial
  have g1 : True := trivial
  have g2 : True := trivial
  have g3 : True := trivial
  have g4 : True := trivial
  have fa0 : ¬ (1 + (pickV l (k + 1 + 1) 4 : Nat) : Int) = 2 := by omega
  have fa1 : ¬ (1 + (pickV l (k + 1 + 1) 4 : Nat) : Int) = 4 := by omega
  have fa2 : ¬ ((pickV l (wordV l (k + 1 + 1 + 1) false).2 12 : Nat) : Int) = 0 := by omega
  go_enter Tryz.func30, Tryz.ntmps30
  go_wp2_with (first
    | (go_at_call 23; clear g0; refine Calls.mono (l1pick_any g _ v l k 8 hL (by omega) (by omega) (by omega) (HS.out.alloc _)) ?_; rintro r w1 ⟨rfl, hs, hg⟩; rw [show pickK 8 = 1 from by first | decide | (unfold pickK; rw [if_pos (by omega)])] at hs; have z0 := hg.size; (try simp [World.setCell] at z0); have BR : Hid (Blk _ _ _ _) := (Blk.new w _ _).grown hg (by omega); have HG : Hid (w.grownBy w1 (some g)) := grownBy_trans (World.grownBy_alloc _ _ _) hg; replace HS : Hid (Src w1 g v l (k + 1)) := hs; clear hs hg)
    | (go_at_call 23; clear g1; refine Calls.mono (l1pick_any g _ v l (k + 1) 6 hL (by omega) (by omega) (by omega) HS.out) ?_; rintro r w2 ⟨rfl, hs, hg⟩; rw [show pickK 6 = 1 from by first | decide | (unfold pickK; rw [if_pos (by omega)])] at hs; have z1 := hg.size; (try simp [World.setCell] at z1); replace BR : Hid (Blk _ _ _ _) := BR.out.grown hg (by omega); replace HG : Hid (w.grownBy w2 (some g)) := grownBy_trans HG.out hg; replace HS : Hid (Src w2 g v l ((k + 1) + 1)) := hs; clear hs hg)
    | (go_at_call 23; clear g2; refine Calls.mono (l1pick_any g _ v l (k + 1 + 1) 4 hL (by omega) (by omega) (by omega) HS.out) ?_; rintro r w3 ⟨rfl, hs, hg⟩; rw [show pickK 4 = 1 from by first | decide | (unfold pickK; rw [if_pos (by omega)])] at hs; have z2 := hg.size; (try simp [World.setCell] at z2); replace BR : Hid (Blk _ _ _ _) := BR.out.grown hg (by omega); replace HG : Hid (w.grownBy w3 (some g)) := grownBy_trans HG.out hg; replace HS : Hid (Src w3 g v l ((k + 1 + 1) + 1)) := hs; clear hs hg)
    | (go_at_call 56; clear g3; refine Calls.mono (l1word_any g _ v l (k + 1 + 1 + 1) false hL (by omega) HS.out) ?_; rintro r w4 ⟨rfl, hs, hg⟩; have z3 := hg.size; (try simp [World.setCell] at z3); replace BR : Hid (Blk _ _ _ _) := BR.out.grown hg (by omega); replace HG : Hid (w.grownBy w4 (some g)) := grownBy_trans HG.out hg; replace HS : Hid (Src w4 g v l (wordV l (k + 1 + 1 + 1) false).2) := hs; clear hs hg)
    | (have hBA := HS; refine gate_st 33 (.tmp 3) _ rfl ?_; clear hBA; refine wpl_store_last rfl 33 (.tmp 3) _ rfl (w4.heap.size) rfl rfl rfl sizeCmdD rfl rfl (by simp [Value.oneCell']) ?_)
    | (go_at_call 23; clear g4; refine Calls.mono (l1pick_any g _ v l (wordV l (k + 1 + 1 + 1) false).2 12 hL (by omega) (by omega) (by omega) (HS.out.alloc _)) ?_; rintro r w5 ⟨rfl, hs, hg⟩; rw [show pickK 12 = 1 from by first | decide | (unfold pickK; rw [if_pos (by omega)])] at hs; have z4 := hg.size; (try simp [World.setCell] at z4); replace BR : Hid (Blk _ _ _ _) := (BR.out.alloc _).grown hg (by omega); replace HG : Hid (w.grownBy w5 (some g)) := grownBy_trans (grownBy_alloc' HG.out _) hg; have BV : Hid (Blk _ _ _ _) := (Blk.new w4 _ _).grown hg (by omega); replace HS : Hid (Src w5 g v l ((wordV l (k + 1 + 1 + 1) false).2 + 1)) := hs; clear hs hg; have cV4 := BV.out.cell; have fV4 := BV.out.free)
    | (have hBA := HS; refine gate_ld 33 (.tmp 3) rfl ?_; clear hBA; refine wpl_load_blk rfl 33 (.tmp 3) rfl (w4.heap.size) rfl BV.out Tryz.underlying33 rfl sizeCmdD rfl ?_)
    | (have hBA := HS; refine gate_st 33 (.tmp 2) _ rfl ?_; clear hBA; refine wpl_store_blk rfl 33 (.tmp 2) _ rfl (w.heap.size) rfl rfl BR.out sizeCmdD rfl rfl (by simp [Value.oneCell']) ?_))
  all_goals first
    | exact bodyPost_ret (v := .agg #[.int .i64 (1 + (pickV l k 8 : Nat)), .int .i64 (1 + (pickV l (k + 1) 6 : Nat)), .int .i64 (1 + (pickV l (k + 1 + 1) 4 : Nat)), .string (wordV l (k + 1 + 1 + 1) false).1, .string ⟨#[]⟩, .string ⟨#[]⟩]) (results_blk Tryz.results30 rfl (BR.out.row _) Tryz.underlying33 rfl sizeCmdD rfl) rfl ⟨rfl, HS.out.row BR.out (by omega) (noU8_of rfl) _, grownBy_row_new HG.out BR.out (Nat.le_refl _) _⟩
    | (exfalso; omega)
    | (exfalso; simp only [beq_iff_eq] at *; omega)

set_option maxHeartbeats 4000000 in
set_option maxRecDepth 100000 in
theorem l1drawCmd_01 (g : Nat) (w : World) (v : Value) (l : List Int) (k : Nat) (hL : l.length ≤ 1048576) (hk : k ≤ 700000000) (h : Src w g v l k) (hp : 0 < pickV l (wordV l (k + 1 + 1 + 1) false).2 12) (ho : pickV l (k + 1 + 1) 4 = 1) :
    Calls Tryz.prog 30 #[.pointer (some ⟨g, 0, none⟩)] w fun r w' => r = .returned (.agg #[.int .i64 (1 + (pickV l k 8 : Nat)), .int .i64 (1 + (pickV l (k + 1) 6 : Nat)), .int .i64 2, .string (wordV l (k + 1 + 1 + 1) false).1, .string (wordV l ((wordV l (k + 1 + 1 + 1) false).2 + 1) true).1, .string ⟨#[]⟩]) ∧ Src w' g v l (wordV l ((wordV l (k + 1 + 1 + 1) false).2 + 1) true).2 ∧ w.grownBy w' (some g) := by
  have HS : Hid (Src w g v l k) := h
  have hg0 : g < w.heap.size := h.lt
  clear h
  have b0 := pickV_lt l k 8 (by omega)
  have b1 := pickV_lt l (k + 1) 6 (by omega)
  have b2 := pickV_lt l (k + 1 + 1) 4 (by omega)
  have b3 := wordV_size l (k + 1 + 1 + 1) false
  have b4 := pickV_lt l (wordV l (k + 1 + 1 + 1) false).2 12 (by omega)
  have b5 := wordV_size l ((wordV l (k + 1 + 1 + 1) false).2 + 1) true
  have g0 : True := trivial
  have g1 : True := trivial
  have g2 : True := trivial
  have g3 : True := trivial
  have g4 : True := trivial
  have g5 : True := trivial
  have fa0 : (1 + (pickV l (k + 1 + 1) 4 : Nat) : Int) = 2 := by omega
  have fa1 : ¬ (1 + (pickV l (k + 1 + 1) 4 : Nat) : Int) = 4 := by omega
  have fa2 : ¬ ((pickV l (wordV l (k + 1 + 1 + 1) false).2 12 : Nat) : Int) = 0 := by omega
  go_enter Tryz.func30, Tryz.ntmps30
  go_wp2_with (first
    | (go_at_call 23; clear g0; refine Calls.mono (l1pick_any g _ v l k 8 hL (by omega) (by omega) (by omega) (HS.out.alloc _)) ?_; rintro r w1 ⟨rfl, hs, hg⟩; rw [show pickK 8 = 1 from by first | decide | (unfold pickK; rw [if_pos (by omega)])] at hs; have z0 := hg.size; (try simp [World.setCell] at z0); have BR : Hid (Blk _ _ _ _) := (Blk.new w _ _).grown hg (by omega); have HG : Hid (w.grownBy w1 (some g)) := grownBy_trans (World.grownBy_alloc _ _ _) hg; replace HS : Hid (Src w1 g v l (k + 1)) := hs; clear hs hg)
    | (go_at_call 23; clear g1; refine Calls.mono (l1pick_any g _ v l (k + 1) 6 hL (by omega) (by omega) (by omega) HS.out) ?_; rintro r w2 ⟨rfl, hs, hg⟩; rw [show pickK 6 = 1 from by first | decide | (unfold pickK; rw [if_pos (by omega)])] at hs; have z1 := hg.size; (try simp [World.setCell] at z1); replace BR : Hid (Blk _ _ _ _) := BR.out.grown hg (by omega); replace HG : Hid (w.grownBy w2 (some g)) := grownBy_trans HG.out hg; replace HS : Hid (Src w2 g v l ((k + 1) + 1)) := hs; clear hs hg)
    | (go_at_call 23; clear g2; refine Calls.mono (l1pick_any g _ v l (k + 1 + 1) 4 hL (by omega) (by omega) (by omega) HS.out) ?_; rintro r w3 ⟨rfl, hs, hg⟩; rw [show pickK 4 = 1 from by first | decide | (unfold pickK; rw [if_pos (by omega)])] at hs; have z2 := hg.size; (try simp [World.setCell] at z2); replace BR : Hid (Blk _ _ _ _) := BR.out.grown hg (by omega); replace HG : Hid (w.grownBy w3 (some g)) := grownBy_trans HG.out hg; replace HS : Hid (Src w3 g v l ((k + 1 + 1) + 1)) := hs; clear hs hg)
    | (go_at_call 56; clear g3; refine Calls.mono (l1word_any g _ v l (k + 1 + 1 + 1) false hL (by omega) HS.out) ?_; rintro r w4 ⟨rfl, hs, hg⟩; have z3 := hg.size; (try simp [World.setCell] at z3); replace BR : Hid (Blk _ _ _ _) := BR.out.grown hg (by omega); replace HG : Hid (w.grownBy w4 (some g)) := grownBy_trans HG.out hg; replace HS : Hid (Src w4 g v l (wordV l (k + 1 + 1 + 1) false).2) := hs; clear hs hg)
    | (have hBA := HS; refine gate_st 33 (.tmp 3) _ rfl ?_; clear hBA; refine wpl_store_last rfl 33 (.tmp 3) _ rfl (w4.heap.size) rfl rfl rfl sizeCmdD rfl rfl (by simp [Value.oneCell']) ?_)
    | (go_at_call 23; clear g4; refine Calls.mono (l1pick_any g _ v l (wordV l (k + 1 + 1 + 1) false).2 12 hL (by omega) (by omega) (by omega) (HS.out.alloc _)) ?_; rintro r w5 ⟨rfl, hs, hg⟩; rw [show pickK 12 = 1 from by first | decide | (unfold pickK; rw [if_pos (by omega)])] at hs; have z4 := hg.size; (try simp [World.setCell] at z4); replace BR : Hid (Blk _ _ _ _) := (BR.out.alloc _).grown hg (by omega); replace HG : Hid (w.grownBy w5 (some g)) := grownBy_trans (grownBy_alloc' HG.out _) hg; have BV : Hid (Blk _ _ _ _) := (Blk.new w4 _ _).grown hg (by omega); replace HS : Hid (Src w5 g v l ((wordV l (k + 1 + 1 + 1) false).2 + 1)) := hs; clear hs hg; have cV4 := BV.out.cell; have fV4 := BV.out.free)
    | (go_at_call 56; clear g5; refine Calls.mono (l1word_any g _ v l ((wordV l (k + 1 + 1 + 1) false).2 + 1) true hL (by omega) HS.out) ?_; rintro r w6 ⟨rfl, hs, hg⟩; have z5 := hg.size; (try simp [World.setCell] at z5); replace BR : Hid (Blk _ _ _ _) := BR.out.grown hg (by omega); replace HG : Hid (w.grownBy w6 (some g)) := grownBy_trans HG.out hg; replace BV : Hid (Blk _ _ _ _) := BV.out.grown hg (by omega); replace HS : Hid (Src w6 g v l (wordV l ((wordV l (k + 1 + 1 + 1) false).2 + 1) true).2) := hs; clear hs hg; have cV5 := BV.out.cell; have fV5 := BV.out.free)
    | (have hBA := HS; refine gate_ld 33 (.tmp 3) rfl ?_; clear hBA; refine wpl_load_blk rfl 33 (.tmp 3) rfl (w4.heap.size) rfl (show Blk _ _ #[.int .i64 (1 + (pickV l k 8 : Nat)), .int .i64 (1 + (pickV l (k + 1) 6 : Nat)), .int .i64 2, .string (wordV l (k + 1 + 1 + 1) false).1, .string (wordV l ((wordV l (k + 1 + 1 + 1) false).2 + 1) true).1, .string ⟨#[]⟩] _ from by simpa using BV.out.set 4 (.string (wordV l ((wordV l (k + 1 + 1 + 1) false).2 + 1) true).1)) Tryz.underlying33 rfl sizeCmdD rfl ?_)
    | (have hBA := HS; refine gate_st 33 (.tmp 2) _ rfl ?_; clear hBA; refine wpl_store_blk rfl 33 (.tmp 2) _ rfl (w.heap.size) rfl rfl (BR.out.set_other (p := ⟨w4.heap.size, 4, none⟩) _ (show w.heap.size ≠ w4.heap.size by omega)) sizeCmdD rfl rfl (by simp [Value.oneCell']) ?_))
  all_goals first
    | exact bodyPost_ret (v := .agg #[.int .i64 (1 + (pickV l k 8 : Nat)), .int .i64 (1 + (pickV l (k + 1) 6 : Nat)), .int .i64 2, .string (wordV l (k + 1 + 1 + 1) false).1, .string (wordV l ((wordV l (k + 1 + 1 + 1) false).2 + 1) true).1, .string ⟨#[]⟩]) (results_blk Tryz.results30 rfl ((BR.out.set_other (p := ⟨w4.heap.size, 4, none⟩) _ (show w.heap.size ≠ w4.heap.size by omega)).row _) Tryz.underlying33 rfl sizeCmdD rfl) rfl ⟨rfl, (HS.out.setB BV.out (by omega) 4 (by simp) (noU8_of rfl) _).row (BR.out.set_other (p := ⟨w4.heap.size, 4, none⟩) _ (show w.heap.size ≠ w4.heap.size by omega)) (by omega) (noU8_of rfl) _, grownBy_row_new (grownBy_set_new HG.out (by omega) _ _) (BR.out.set_other (p := ⟨w4.heap.size, 4, none⟩) _ (show w.heap.size ≠ w4.heap.size by omega)) (Nat.le_refl _) _⟩
    | (exfalso; omega)
    | (exfalso; simp only [beq_iff_eq] at *; omega)

set_option maxHeartbeats 4000000 in
set_option maxRecDepth 100000 in
theorem l1drawCmd_02 (g : Nat) (w : World) (v : Value) (l : List Int) (k : Nat) (hL : l.length ≤ 1048576) (hk : k ≤ 700000000) (h : Src w g v l k) (hp : 0 < pickV l (wordV l (k + 1 + 1 + 1) false).2 12) (ho : pickV l (k + 1 + 1) 4 = 3) :
    Calls Tryz.prog 30 #[.pointer (some ⟨g, 0, none⟩)] w fun r w' => r = .returned (.agg #[.int .i64 (1 + (pickV l k 8 : Nat)), .int .i64 (1 + (pickV l (k + 1) 6 : Nat)), .int .i64 4, .string (wordV l (k + 1 + 1 + 1) false).1, .string (wordV l ((wordV l (k + 1 + 1 + 1) false).2 + 1) true).1, .string (wordV l (wordV l ((wordV l (k + 1 + 1 + 1) false).2 + 1) true).2 true).1]) ∧ Src w' g v l (wordV l (wordV l ((wordV l (k + 1 + 1 + 1) false).2 + 1) true).2 true).2 ∧ w.grownBy w' (some g) := by
  have HS : Hid (Src w g v l k) := h
  have hg0 : g < w.heap.size := h.lt
  clear h
  have b0 := pickV_lt l k 8 (by omega)
  have b1 := pickV_lt l (k + 1) 6 (by omega)
  have b2 := pickV_lt l (k + 1 + 1) 4 (by omega)
  have b3 := wordV_size l (k + 1 + 1 + 1) false
  have b4 := pickV_lt l (wordV l (k + 1 + 1 + 1) false).2 12 (by omega)
  have b5 := wordV_size l ((wordV l (k + 1 + 1 + 1) false).2 + 1) true
  have b6 := wordV_size l (wordV l ((wordV l (k + 1 + 1 + 1) false).2 + 1) true).2 true
  have g0 : True := trivial
  have g1 : True := trivial
  have g2 : True := trivial
  have g3 : True := trivial
  have g4 : True := trivial
  have g5 : True := trivial
  have g6 : True := trivial
  have fa0 : ¬ (1 + (pickV l (k + 1 + 1) 4 : Nat) : Int) = 2 := by omega
  have fa1 : (1 + (pickV l (k + 1 + 1) 4 : Nat) : Int) = 4 := by omega
  have fa2 : ¬ ((pickV l (wordV l (k + 1 + 1 + 1) false).2 12 : Nat) : Int) = 0 := by omega
  go_enter Tryz.func30, Tryz.ntmps30
  go_wp2_with (first
    | (go_at_call 23; clear g0; refine Calls.mono (l1pick_any g _ v l k 8 hL (by omega) (by omega) (by omega) (HS.out.alloc _)) ?_; rintro r w1 ⟨rfl, hs, hg⟩; rw [show pickK 8 = 1 from by first | decide | (unfold pickK; rw [if_pos (by omega)])] at hs; have z0 := hg.size; (try simp [World.setCell] at z0); have BR : Hid (Blk _ _ _ _) := (Blk.new w _ _).grown hg (by omega); have HG : Hid (w.grownBy w1 (some g)) := grownBy_trans (World.grownBy_alloc _ _ _) hg; replace HS : Hid (Src w1 g v l (k + 1)) := hs; clear hs hg)
    | (go_at_call 23; clear g1; refine Calls.mono (l1pick_any g _ v l (k + 1) 6 hL (by omega) (by omega) (by omega) HS.out) ?_; rintro r w2 ⟨rfl, hs, hg⟩; rw [show pickK 6 = 1 from by first | decide | (unfold pickK; rw [if_pos (by omega)])] at hs; have z1 := hg.size; (try simp [World.setCell] at z1); replace BR : Hid (Blk _ _ _ _) := BR.out.grown hg (by omega); replace HG : Hid (w.grownBy w2 (some g)) := grownBy_trans HG.out hg; replace HS : Hid (Src w2 g v l ((k + 1) + 1)) := hs; clear hs hg)
    | (go_at_call 23; clear g2; refine Calls.mono (l1pick_any g _ v l (k + 1 + 1) 4 hL (by omega) (by omega) (by omega) HS.out) ?_; rintro r w3 ⟨rfl, hs, hg⟩; rw [show pickK 4 = 1 from by first | decide | (unfold pickK; rw [if_pos (by omega)])] at hs; have z2 := hg.size; (try simp [World.setCell] at z2); replace BR : Hid (Blk _ _ _ _) := BR.out.grown hg (by omega); replace HG : Hid (w.grownBy w3 (some g)) := grownBy_trans HG.out hg; replace HS : Hid (Src w3 g v l ((k + 1 + 1) + 1)) := hs; clear hs hg)
    | (go_at_call 56; clear g3; refine Calls.mono (l1word_any g _ v l (k + 1 + 1 + 1) false hL (by omega) HS.out) ?_; rintro r w4 ⟨rfl, hs, hg⟩; have z3 := hg.size; (try simp [World.setCell] at z3); replace BR : Hid (Blk _ _ _ _) := BR.out.grown hg (by omega); replace HG : Hid (w.grownBy w4 (some g)) := grownBy_trans HG.out hg; replace HS : Hid (Src w4 g v l (wordV l (k + 1 + 1 + 1) false).2) := hs; clear hs hg)
    | (have hBA := HS; refine gate_st 33 (.tmp 3) _ rfl ?_; clear hBA; refine wpl_store_last rfl 33 (.tmp 3) _ rfl (w4.heap.size) rfl rfl rfl sizeCmdD rfl rfl (by simp [Value.oneCell']) ?_)
    | (go_at_call 23; clear g4; refine Calls.mono (l1pick_any g _ v l (wordV l (k + 1 + 1 + 1) false).2 12 hL (by omega) (by omega) (by omega) (HS.out.alloc _)) ?_; rintro r w5 ⟨rfl, hs, hg⟩; rw [show pickK 12 = 1 from by first | decide | (unfold pickK; rw [if_pos (by omega)])] at hs; have z4 := hg.size; (try simp [World.setCell] at z4); replace BR : Hid (Blk _ _ _ _) := (BR.out.alloc _).grown hg (by omega); replace HG : Hid (w.grownBy w5 (some g)) := grownBy_trans (grownBy_alloc' HG.out _) hg; have BV : Hid (Blk _ _ _ _) := (Blk.new w4 _ _).grown hg (by omega); replace HS : Hid (Src w5 g v l ((wordV l (k + 1 + 1 + 1) false).2 + 1)) := hs; clear hs hg; have cV4 := BV.out.cell; have fV4 := BV.out.free)
    | (go_at_call 56; clear g5; refine Calls.mono (l1word_any g _ v l ((wordV l (k + 1 + 1 + 1) false).2 + 1) true hL (by omega) HS.out) ?_; rintro r w6 ⟨rfl, hs, hg⟩; have z5 := hg.size; (try simp [World.setCell] at z5); replace BR : Hid (Blk _ _ _ _) := BR.out.grown hg (by omega); replace HG : Hid (w.grownBy w6 (some g)) := grownBy_trans HG.out hg; replace BV : Hid (Blk _ _ _ _) := BV.out.grown hg (by omega); replace HS : Hid (Src w6 g v l (wordV l ((wordV l (k + 1 + 1 + 1) false).2 + 1) true).2) := hs; clear hs hg; have cV5 := BV.out.cell; have fV5 := BV.out.free)
    | (go_at_call 56; clear g6; refine Calls.mono (l1word_any g _ v l (wordV l ((wordV l (k + 1 + 1 + 1) false).2 + 1) true).2 true hL (by omega) (HS.out.setB BV.out (by omega) 4 (by simp) (noU8_of rfl) _)) ?_; rintro r w7 ⟨rfl, hs, hg⟩; have z6 := hg.size; (try simp [World.setCell] at z6); replace BR : Hid (Blk _ _ _ _) := (BR.out.set_other (p := ⟨w4.heap.size, 4, none⟩) _ (show w.heap.size ≠ w4.heap.size by omega)).grown hg (by omega); replace HG : Hid (w.grownBy w7 (some g)) := grownBy_trans (grownBy_set_new HG.out (by omega) _ _) hg; replace BV : Hid (Blk _ _ _ _) := (show Blk _ _ #[.int .i64 (1 + (pickV l k 8 : Nat)), .int .i64 (1 + (pickV l (k + 1) 6 : Nat)), .int .i64 4, .string (wordV l (k + 1 + 1 + 1) false).1, .string (wordV l ((wordV l (k + 1 + 1 + 1) false).2 + 1) true).1, .string ⟨#[]⟩] _ from by simpa using BV.out.set 4 (.string (wordV l ((wordV l (k + 1 + 1 + 1) false).2 + 1) true).1)).grown hg (by omega); replace HS : Hid (Src w7 g v l (wordV l (wordV l ((wordV l (k + 1 + 1 + 1) false).2 + 1) true).2 true).2) := hs; clear hs hg; have cV6 := BV.out.cell; have fV6 := BV.out.free)
    | (have hBA := HS; refine gate_ld 33 (.tmp 3) rfl ?_; clear hBA; refine wpl_load_blk rfl 33 (.tmp 3) rfl (w4.heap.size) rfl (show Blk _ _ #[.int .i64 (1 + (pickV l k 8 : Nat)), .int .i64 (1 + (pickV l (k + 1) 6 : Nat)), .int .i64 4, .string (wordV l (k + 1 + 1 + 1) false).1, .string (wordV l ((wordV l (k + 1 + 1 + 1) false).2 + 1) true).1, .string (wordV l (wordV l ((wordV l (k + 1 + 1 + 1) false).2 + 1) true).2 true).1] _ from by simpa using BV.out.set 5 (.string (wordV l (wordV l ((wordV l (k + 1 + 1 + 1) false).2 + 1) true).2 true).1)) Tryz.underlying33 rfl sizeCmdD rfl ?_)
    | (have hBA := HS; refine gate_st 33 (.tmp 2) _ rfl ?_; clear hBA; refine wpl_store_blk rfl 33 (.tmp 2) _ rfl (w.heap.size) rfl rfl (BR.out.set_other (p := ⟨w4.heap.size, 5, none⟩) _ (show w.heap.size ≠ w4.heap.size by omega)) sizeCmdD rfl rfl (by simp [Value.oneCell']) ?_))
  all_goals first
    | exact bodyPost_ret (v := .agg #[.int .i64 (1 + (pickV l k 8 : Nat)), .int .i64 (1 + (pickV l (k + 1) 6 : Nat)), .int .i64 4, .string (wordV l (k + 1 + 1 + 1) false).1, .string (wordV l ((wordV l (k + 1 + 1 + 1) false).2 + 1) true).1, .string (wordV l (wordV l ((wordV l (k + 1 + 1 + 1) false).2 + 1) true).2 true).1]) (results_blk Tryz.results30 rfl ((BR.out.set_other (p := ⟨w4.heap.size, 5, none⟩) _ (show w.heap.size ≠ w4.heap.size by omega)).row _) Tryz.underlying33 rfl sizeCmdD rfl) rfl ⟨rfl, (HS.out.setB BV.out (by omega) 5 (by simp) (noU8_of rfl) _).row (BR.out.set_other (p := ⟨w4.heap.size, 5, none⟩) _ (show w.heap.size ≠ w4.heap.size by omega)) (by omega) (noU8_of rfl) _, grownBy_row_new (grownBy_set_new HG.out (by omega) _ _) (BR.out.set_other (p := ⟨w4.heap.size, 5, none⟩) _ (show w.heap.size ≠ w4.heap.size by omega)) (Nat.le_refl _) _⟩
    | (exfalso; omega)
    | (exfalso; simp only [beq_iff_eq] at *; omega)

set_option maxHeartbeats 4000000 in
set_option maxRecDepth 100000 in
theorem l1drawCmd_10 (g : Nat) (w : World) (v : Value) (l : List Int) (k : Nat) (hL : l.length ≤ 1048576) (hk : k ≤ 700000000) (h : Src w g v l k) (hp : pickV l (wordV l (k + 1 + 1 + 1) false).2 12 = 0) (ho : pickV l (k + 1 + 1) 4 ≠ 1 ∧ pickV l (k + 1 + 1) 4 ≠ 3) :
    Calls Tryz.prog 30 #[.pointer (some ⟨g, 0, none⟩)] w fun r w' => r = .returned (.agg #[.int .i64 (1 + (pickV l k 8 : Nat)), .int .i64 (1073741824 - (pickV l ((wordV l (k + 1 + 1 + 1) false).2 + 1) 2 : Nat)), .int .i64 (1 + (pickV l (k + 1 + 1) 4 : Nat)), .string (wordV l (k + 1 + 1 + 1) false).1, .string ⟨#[]⟩, .string ⟨#[]⟩]) ∧ Src w' g v l (((wordV l (k + 1 + 1 + 1) false).2 + 1) + 1) ∧ w.grownBy w' (some g) := by
  have HS : Hid (Src w g v l k) := h
  have hg0 : g < w.heap.size := h.lt
  clear h
  have b0 := pickV_lt l k 8 (by omega)
  have b1 := pickV_lt l (k + 1) 6 (by omega)
  have b2 := pickV_lt l (k + 1 + 1) 4 (by omega)
  have b3 := wordV_size l (k + 1 + 1 + 1) false
  have b4 := pickV_lt l (wordV l (k + 1 + 1 + 1) false).2 12 (by omega)
  have b5 := pickV_lt l ((wordV l (k + 1 + 1 + 1) false).2 + 1) 2 (by omega)
  have g0 : True := trivial
  have g1 : True := trivial
  have g2 : True := trivial
  have g3 : True := trivial
  have g4 : True := trivial
  have g5 : True := trivial
  have fa0 : ¬ (1 + (pickV l (k + 1 + 1) 4 : Nat) : Int) = 2 := by omega
  have fa1 : ¬ (1 + (pickV l (k + 1 + 1) 4 : Nat) : Int) = 4 := by omega
  have fa2 : ((pickV l (wordV l (k + 1 + 1 + 1) false).2 12 : Nat) : Int) = 0 := by omega
  go_enter Tryz.func30, Tryz.ntmps30
  go_wp2_with (first
    | (go_at_call 23; clear g0; refine Calls.mono (l1pick_any g _ v l k 8 hL (by omega) (by omega) (by omega) (HS.out.alloc _)) ?_; rintro r w1 ⟨rfl, hs, hg⟩; rw [show pickK 8 = 1 from by first | decide | (unfold pickK; rw [if_pos (by omega)])] at hs; have z0 := hg.size; (try simp [World.setCell] at z0); have BR : Hid (Blk _ _ _ _) := (Blk.new w _ _).grown hg (by omega); have HG : Hid (w.grownBy w1 (some g)) := grownBy_trans (World.grownBy_alloc _ _ _) hg; replace HS : Hid (Src w1 g v l (k + 1)) := hs; clear hs hg)
    | (go_at_call 23; clear g1; refine Calls.mono (l1pick_any g _ v l (k + 1) 6 hL (by omega) (by omega) (by omega) HS.out) ?_; rintro r w2 ⟨rfl, hs, hg⟩; rw [show pickK 6 = 1 from by first | decide | (unfold pickK; rw [if_pos (by omega)])] at hs; have z1 := hg.size; (try simp [World.setCell] at z1); replace BR : Hid (Blk _ _ _ _) := BR.out.grown hg (by omega); replace HG : Hid (w.grownBy w2 (some g)) := grownBy_trans HG.out hg; replace HS : Hid (Src w2 g v l ((k + 1) + 1)) := hs; clear hs hg)
    | (go_at_call 23; clear g2; refine Calls.mono (l1pick_any g _ v l (k + 1 + 1) 4 hL (by omega) (by omega) (by omega) HS.out) ?_; rintro r w3 ⟨rfl, hs, hg⟩; rw [show pickK 4 = 1 from by first | decide | (unfold pickK; rw [if_pos (by omega)])] at hs; have z2 := hg.size; (try simp [World.setCell] at z2); replace BR : Hid (Blk _ _ _ _) := BR.out.grown hg (by omega); replace HG : Hid (w.grownBy w3 (some g)) := grownBy_trans HG.out hg; replace HS : Hid (Src w3 g v l ((k + 1 + 1) + 1)) := hs; clear hs hg)
    | (go_at_call 56; clear g3; refine Calls.mono (l1word_any g _ v l (k + 1 + 1 + 1) false hL (by omega) HS.out) ?_; rintro r w4 ⟨rfl, hs, hg⟩; have z3 := hg.size; (try simp [World.setCell] at z3); replace BR : Hid (Blk _ _ _ _) := BR.out.grown hg (by omega); replace HG : Hid (w.grownBy w4 (some g)) := grownBy_trans HG.out hg; replace HS : Hid (Src w4 g v l (wordV l (k + 1 + 1 + 1) false).2) := hs; clear hs hg)
    | (have hBA := HS; refine gate_st 33 (.tmp 3) _ rfl ?_; clear hBA; refine wpl_store_last rfl 33 (.tmp 3) _ rfl (w4.heap.size) rfl rfl rfl sizeCmdD rfl rfl (by simp [Value.oneCell']) ?_)
    | (go_at_call 23; clear g4; refine Calls.mono (l1pick_any g _ v l (wordV l (k + 1 + 1 + 1) false).2 12 hL (by omega) (by omega) (by omega) (HS.out.alloc _)) ?_; rintro r w5 ⟨rfl, hs, hg⟩; rw [show pickK 12 = 1 from by first | decide | (unfold pickK; rw [if_pos (by omega)])] at hs; have z4 := hg.size; (try simp [World.setCell] at z4); replace BR : Hid (Blk _ _ _ _) := (BR.out.alloc _).grown hg (by omega); replace HG : Hid (w.grownBy w5 (some g)) := grownBy_trans (grownBy_alloc' HG.out _) hg; have BV : Hid (Blk _ _ _ _) := (Blk.new w4 _ _).grown hg (by omega); replace HS : Hid (Src w5 g v l ((wordV l (k + 1 + 1 + 1) false).2 + 1)) := hs; clear hs hg; have cV4 := BV.out.cell; have fV4 := BV.out.free)
    | (go_at_call 23; clear g5; refine Calls.mono (l1pick_any g _ v l ((wordV l (k + 1 + 1 + 1) false).2 + 1) 2 hL (by omega) (by omega) (by omega) HS.out) ?_; rintro r w6 ⟨rfl, hs, hg⟩; rw [show pickK 2 = 1 from by first | decide | (unfold pickK; rw [if_pos (by omega)])] at hs; have z5 := hg.size; (try simp [World.setCell] at z5); replace BR : Hid (Blk _ _ _ _) := BR.out.grown hg (by omega); replace HG : Hid (w.grownBy w6 (some g)) := grownBy_trans HG.out hg; replace BV : Hid (Blk _ _ _ _) := BV.out.grown hg (by omega); replace HS : Hid (Src w6 g v l (((wordV l (k + 1 + 1 + 1) false).2 + 1) + 1)) := hs; clear hs hg; have cV5 := BV.out.cell; have fV5 := BV.out.free)
    | (have hBA := HS; refine gate_ld 33 (.tmp 3) rfl ?_; clear hBA; refine wpl_load_blk rfl 33 (.tmp 3) rfl (w4.heap.size) rfl (show Blk _ _ #[.int .i64 (1 + (pickV l k 8 : Nat)), .int .i64 (1073741824 - (pickV l ((wordV l (k + 1 + 1 + 1) false).2 + 1) 2 : Nat)), .int .i64 (1 + (pickV l (k + 1 + 1) 4 : Nat)), .string (wordV l (k + 1 + 1 + 1) false).1, .string ⟨#[]⟩, .string ⟨#[]⟩] _ from by simpa using BV.out.set 1 (.int .i64 (1073741824 - (pickV l ((wordV l (k + 1 + 1 + 1) false).2 + 1) 2 : Nat)))) Tryz.underlying33 rfl sizeCmdD rfl ?_)
    | (have hBA := HS; refine gate_st 33 (.tmp 2) _ rfl ?_; clear hBA; refine wpl_store_blk rfl 33 (.tmp 2) _ rfl (w.heap.size) rfl rfl (BR.out.set_other (p := ⟨w4.heap.size, 1, none⟩) _ (show w.heap.size ≠ w4.heap.size by omega)) sizeCmdD rfl rfl (by simp [Value.oneCell']) ?_))
  all_goals first
    | exact bodyPost_ret (v := .agg #[.int .i64 (1 + (pickV l k 8 : Nat)), .int .i64 (1073741824 - (pickV l ((wordV l (k + 1 + 1 + 1) false).2 + 1) 2 : Nat)), .int .i64 (1 + (pickV l (k + 1 + 1) 4 : Nat)), .string (wordV l (k + 1 + 1 + 1) false).1, .string ⟨#[]⟩, .string ⟨#[]⟩]) (results_blk Tryz.results30 rfl ((BR.out.set_other (p := ⟨w4.heap.size, 1, none⟩) _ (show w.heap.size ≠ w4.heap.size by omega)).row _) Tryz.underlying33 rfl sizeCmdD rfl) rfl ⟨rfl, (HS.out.setB BV.out (by omega) 1 (by simp) (noU8_of rfl) _).row (BR.out.set_other (p := ⟨w4.heap.size, 1, none⟩) _ (show w.heap.size ≠ w4.heap.size by omega)) (by omega) (noU8_of rfl) _, grownBy_row_new (grownBy_set_new HG.out (by omega) _ _) (BR.out.set_other (p := ⟨w4.heap.size, 1, none⟩) _ (show w.heap.size ≠ w4.heap.size by omega)) (Nat.le_refl _) _⟩
    | (exfalso; omega)
    | (exfalso; simp only [beq_iff_eq] at *; omega)

set_option maxHeartbeats 4000000 in
set_option maxRecDepth 100000 in
theorem l1drawCmd_11 (g : Nat) (w : World) (v : Value) (l : List Int) (k : Nat) (hL : l.length ≤ 1048576) (hk : k ≤ 700000000) (h : Src w g v l k) (hp : pickV l (wordV l (k + 1 + 1 + 1) false).2 12 = 0) (ho : pickV l (k + 1 + 1) 4 = 1) :
    Calls Tryz.prog 30 #[.pointer (some ⟨g, 0, none⟩)] w fun r w' => r = .returned (.agg #[.int .i64 (1 + (pickV l k 8 : Nat)), .int .i64 (1073741824 - (pickV l ((wordV l (k + 1 + 1 + 1) false).2 + 1) 2 : Nat)), .int .i64 2, .string (wordV l (k + 1 + 1 + 1) false).1, .string (wordV l (((wordV l (k + 1 + 1 + 1) false).2 + 1) + 1) true).1, .string ⟨#[]⟩]) ∧ Src w' g v l (wordV l (((wordV l (k + 1 + 1 + 1) false).2 + 1) + 1) true).2 ∧ w.grownBy w' (some g) := by
  have HS : Hid (Src w g v l k) := h
  have hg0 : g < w.heap.size := h.lt
  clear h
  have b0 := pickV_lt l k 8 (by omega)
  have b1 := pickV_lt l (k + 1) 6 (by omega)
  have b2 := pickV_lt l (k + 1 + 1) 4 (by omega)
  have b3 := wordV_size l (k + 1 + 1 + 1) false
  have b4 := pickV_lt l (wordV l (k + 1 + 1 + 1) false).2 12 (by omega)
  have b5 := pickV_lt l ((wordV l (k + 1 + 1 + 1) false).2 + 1) 2 (by omega)
  have b6 := wordV_size l (((wordV l (k + 1 + 1 + 1) false).2 + 1) + 1) true
  have g0 : True := trivial
  have g1 : True := trivial
  have g2 : True := trivial
  have g3 : True := trivial
  have g4 : True := trivial
  have g5 : True := trivial
  have g6 : True := trivial
  have fa0 : (1 + (pickV l (k + 1 + 1) 4 : Nat) : Int) = 2 := by omega
  have fa1 : ¬ (1 + (pickV l (k + 1 + 1) 4 : Nat) : Int) = 4 := by omega
  have fa2 : ((pickV l (wordV l (k + 1 + 1 + 1) false).2 12 : Nat) : Int) = 0 := by omega
  go_enter Tryz.func30, Tryz.ntmps30
  go_wp2_with (first
    | (go_at_call 23; clear g0; refine Calls.mono (l1pick_any g _ v l k 8 hL (by omega) (by omega) (by omega) (HS.out.alloc _)) ?_; rintro r w1 ⟨rfl, hs, hg⟩; rw [show pickK 8 = 1 from by first | decide | (unfold pickK; rw [if_pos (by omega)])] at hs; have z0 := hg.size; (try simp [World.setCell] at z0); have BR : Hid (Blk _ _ _ _) := (Blk.new w _ _).grown hg (by omega); have HG : Hid (w.grownBy w1 (some g)) := grownBy_trans (World.grownBy_alloc _ _ _) hg; replace HS : Hid (Src w1 g v l (k + 1)) := hs; clear hs hg)
    | (go_at_call 23; clear g1; refine Calls.mono (l1pick_any g _ v l (k + 1) 6 hL (by omega) (by omega) (by omega) HS.out) ?_; rintro r w2 ⟨rfl, hs, hg⟩; rw [show pickK 6 = 1 from by first | decide | (unfold pickK; rw [if_pos (by omega)])] at hs; have z1 := hg.size; (try simp [World.setCell] at z1); replace BR : Hid (Blk _ _ _ _) := BR.out.grown hg (by omega); replace HG : Hid (w.grownBy w2 (some g)) := grownBy_trans HG.out hg; replace HS : Hid (Src w2 g v l ((k + 1) + 1)) := hs; clear hs hg)
    | (go_at_call 23; clear g2; refine Calls.mono (l1pick_any g _ v l (k + 1 + 1) 4 hL (by omega) (by omega) (by omega) HS.out) ?_; rintro r w3 ⟨rfl, hs, hg⟩; rw [show pickK 4 = 1 from by first | decide | (unfold pickK; rw [if_pos (by omega)])] at hs; have z2 := hg.size; (try simp [World.setCell] at z2); replace BR : Hid (Blk _ _ _ _) := BR.out.grown hg (by omega); replace HG : Hid (w.grownBy w3 (some g)) := grownBy_trans HG.out hg; replace HS : Hid (Src w3 g v l ((k + 1 + 1) + 1)) := hs; clear hs hg)
    | (go_at_call 56; clear g3; refine Calls.mono (l1word_any g _ v l (k + 1 + 1 + 1) false hL (by omega) HS.out) ?_; rintro r w4 ⟨rfl, hs, hg⟩; have z3 := hg.size; (try simp [World.setCell] at z3); replace BR : Hid (Blk _ _ _ _) := BR.out.grown hg (by omega); replace HG : Hid (w.grownBy w4 (some g)) := grownBy_trans HG.out hg; replace HS : Hid (Src w4 g v l (wordV l (k + 1 + 1 + 1) false).2) := hs; clear hs hg)
    | (have hBA := HS; refine gate_st 33 (.tmp 3) _ rfl ?_; clear hBA; refine wpl_store_last rfl 33 (.tmp 3) _ rfl (w4.heap.size) rfl rfl rfl sizeCmdD rfl rfl (by simp [Value.oneCell']) ?_)
    | (go_at_call 23; clear g4; refine Calls.mono (l1pick_any g _ v l (wordV l (k + 1 + 1 + 1) false).2 12 hL (by omega) (by omega) (by omega) (HS.out.alloc _)) ?_; rintro r w5 ⟨rfl, hs, hg⟩; rw [show pickK 12 = 1 from by first | decide | (unfold pickK; rw [if_pos (by omega)])] at hs; have z4 := hg.size; (try simp [World.setCell] at z4); replace BR : Hid (Blk _ _ _ _) := (BR.out.alloc _).grown hg (by omega); replace HG : Hid (w.grownBy w5 (some g)) := grownBy_trans (grownBy_alloc' HG.out _) hg; have BV : Hid (Blk _ _ _ _) := (Blk.new w4 _ _).grown hg (by omega); replace HS : Hid (Src w5 g v l ((wordV l (k + 1 + 1 + 1) false).2 + 1)) := hs; clear hs hg; have cV4 := BV.out.cell; have fV4 := BV.out.free)
    | (go_at_call 23; clear g5; refine Calls.mono (l1pick_any g _ v l ((wordV l (k + 1 + 1 + 1) false).2 + 1) 2 hL (by omega) (by omega) (by omega) HS.out) ?_; rintro r w6 ⟨rfl, hs, hg⟩; rw [show pickK 2 = 1 from by first | decide | (unfold pickK; rw [if_pos (by omega)])] at hs; have z5 := hg.size; (try simp [World.setCell] at z5); replace BR : Hid (Blk _ _ _ _) := BR.out.grown hg (by omega); replace HG : Hid (w.grownBy w6 (some g)) := grownBy_trans HG.out hg; replace BV : Hid (Blk _ _ _ _) := BV.out.grown hg (by omega); replace HS : Hid (Src w6 g v l (((wordV l (k + 1 + 1 + 1) false).2 + 1) + 1)) := hs; clear hs hg; have cV5 := BV.out.cell; have fV5 := BV.out.free)
    | (go_at_call 56; clear g6; refine Calls.mono (l1word_any g _ v l (((wordV l (k + 1 + 1 + 1) false).2 + 1) + 1) true hL (by omega) (HS.out.setB BV.out (by omega) 1 (by simp) (noU8_of rfl) _)) ?_; rintro r w7 ⟨rfl, hs, hg⟩; have z6 := hg.size; (try simp [World.setCell] at z6); replace BR : Hid (Blk _ _ _ _) := (BR.out.set_other (p := ⟨w4.heap.size, 1, none⟩) _ (show w.heap.size ≠ w4.heap.size by omega)).grown hg (by omega); replace HG : Hid (w.grownBy w7 (some g)) := grownBy_trans (grownBy_set_new HG.out (by omega) _ _) hg; replace BV : Hid (Blk _ _ _ _) := (show Blk _ _ #[.int .i64 (1 + (pickV l k 8 : Nat)), .int .i64 (1073741824 - (pickV l ((wordV l (k + 1 + 1 + 1) false).2 + 1) 2 : Nat)), .int .i64 2, .string (wordV l (k + 1 + 1 + 1) false).1, .string ⟨#[]⟩, .string ⟨#[]⟩] _ from by simpa using BV.out.set 1 (.int .i64 (1073741824 - (pickV l ((wordV l (k + 1 + 1 + 1) false).2 + 1) 2 : Nat)))).grown hg (by omega); replace HS : Hid (Src w7 g v l (wordV l (((wordV l (k + 1 + 1 + 1) false).2 + 1) + 1) true).2) := hs; clear hs hg; have cV6 := BV.out.cell; have fV6 := BV.out.free)
    | (have hBA := HS; refine gate_ld 33 (.tmp 3) rfl ?_; clear hBA; refine wpl_load_blk rfl 33 (.tmp 3) rfl (w4.heap.size) rfl (show Blk _ _ #[.int .i64 (1 + (pickV l k 8 : Nat)), .int .i64 (1073741824 - (pickV l ((wordV l (k + 1 + 1 + 1) false).2 + 1) 2 : Nat)), .int .i64 2, .string (wordV l (k + 1 + 1 + 1) false).1, .string (wordV l (((wordV l (k + 1 + 1 + 1) false).2 + 1) + 1) true).1, .string ⟨#[]⟩] _ from by simpa using BV.out.set 4 (.string (wordV l (((wordV l (k + 1 + 1 + 1) false).2 + 1) + 1) true).1)) Tryz.underlying33 rfl sizeCmdD rfl ?_)
    | (have hBA := HS; refine gate_st 33 (.tmp 2) _ rfl ?_; clear hBA; refine wpl_store_blk rfl 33 (.tmp 2) _ rfl (w.heap.size) rfl rfl (BR.out.set_other (p := ⟨w4.heap.size, 4, none⟩) _ (show w.heap.size ≠ w4.heap.size by omega)) sizeCmdD rfl rfl (by simp [Value.oneCell']) ?_))
  all_goals first
    | exact bodyPost_ret (v := .agg #[.int .i64 (1 + (pickV l k 8 : Nat)), .int .i64 (1073741824 - (pickV l ((wordV l (k + 1 + 1 + 1) false).2 + 1) 2 : Nat)), .int .i64 2, .string (wordV l (k + 1 + 1 + 1) false).1, .string (wordV l (((wordV l (k + 1 + 1 + 1) false).2 + 1) + 1) true).1, .string ⟨#[]⟩]) (results_blk Tryz.results30 rfl ((BR.out.set_other (p := ⟨w4.heap.size, 4, none⟩) _ (show w.heap.size ≠ w4.heap.size by omega)).row _) Tryz.underlying33 rfl sizeCmdD rfl) rfl ⟨rfl, (HS.out.setB BV.out (by omega) 4 (by simp) (noU8_of rfl) _).row (BR.out.set_other (p := ⟨w4.heap.size, 4, none⟩) _ (show w.heap.size ≠ w4.heap.size by omega)) (by omega) (noU8_of rfl) _, grownBy_row_new (grownBy_set_new HG.out (by omega) _ _) (BR.out.set_other (p := ⟨w4.heap.size, 4, none⟩) _ (show w.heap.size ≠ w4.heap.size by omega)) (Nat.le_refl _) _⟩
    | (exfalso; omega)
    | (exfalso; simp only [beq_iff_eq] at *; omega)

set_option maxHeartbeats 4000000 in
set_option maxRecDepth 100000 in
theorem l1drawCmd_12 (g : Nat) (w : World) (v : Value) (l : List Int) (k : Nat) (hL : l.length ≤ 1048576) (hk : k ≤ 700000000) (h : Src w g v l k) (hp : pickV l (wordV l (k + 1 + 1 + 1) false).2 12 = 0) (ho : pickV l (k + 1 + 1) 4 = 3) :
    Calls Tryz.prog 30 #[.pointer (some ⟨g, 0, none⟩)] w fun r w' => r = .returned (.agg #[.int .i64 (1 + (pickV l k 8 : Nat)), .int .i64 (1073741824 - (pickV l ((wordV l (k + 1 + 1 + 1) false).2 + 1) 2 : Nat)), .int .i64 4, .string (wordV l (k + 1 + 1 + 1) false).1, .string (wordV l (((wordV l (k + 1 + 1 + 1) false).2 + 1) + 1) true).1, .string (wordV l (wordV l (((wordV l (k + 1 + 1 + 1) false).2 + 1) + 1) true).2 true).1]) ∧ Src w' g v l (wordV l (wordV l (((wordV l (k + 1 + 1 + 1) false).2 + 1) + 1) true).2 true).2 ∧ w.grownBy w' (some g) := by
  have HS : Hid (Src w g v l k) := h
  have hg0 : g < w.heap.size := h.lt
  clear h
  have b0 := pickV_lt l k 8 (by omega)
  have b1 := pickV_lt l (k + 1) 6 (by omega)
  have b2 := pickV_lt l (k + 1 + 1) 4 (by omega)
  have b3 := wordV_size l (k + 1 + 1 + 1) false
  have b4 := pickV_lt l (wordV l (k + 1 + 1 + 1) false).2 12 (by omega)
  have b5 := pickV_lt l ((wordV l (k + 1 + 1 + 1) false).2 + 1) 2 (by omega)
  have b6 := wordV_size l (((wordV l (k + 1 + 1 + 1) false).2 + 1) + 1) true
  have b7 := wordV_size l (wordV l (((wordV l (k + 1 + 1 + 1) false).2 + 1) + 1) true).2 true
  have g0 : True := trivial
  have g1 : True := trivial
  have g2 : True := trivial
  have g3 : True := trivial
  have g4 : True := trivial
  have g5 : True := trivial
  have g6 : True := trivial
  have g7 : True := trivial
  have fa0 : ¬ (1 + (pickV l (k + 1 + 1) 4 : Nat) : Int) = 2 := by omega
  have fa1 : (1 + (pickV l (k + 1 + 1) 4 : Nat) : Int) = 4 := by omega
  have fa2 : ((pickV l (wordV l (k + 1 + 1 + 1) false).2 12 : Nat) : Int) = 0 := by omega
  go_enter Tryz.func30, Tryz.ntmps30
  go_wp2_with (first
    | (go_at_call 23; clear g0; refine Calls.mono (l1pick_any g _ v l k 8 hL (by omega) (by omega) (by omega) (HS.out.alloc _)) ?_; rintro r w1 ⟨rfl, hs, hg⟩; rw [show pickK 8 = 1 from by first | decide | (unfold pickK; rw [if_pos (by omega)])] at hs; have z0 := hg.size; (try simp [World.setCell] at z0); have BR : Hid (Blk _ _ _ _) := (Blk.new w _ _).grown hg (by omega); have HG : Hid (w.grownBy w1 (some g)) := grownBy_trans (World.grownBy_alloc _ _ _) hg; replace HS : Hid (Src w1 g v l (k + 1)) := hs; clear hs hg)
    | (go_at_call 23; clear g1; refine Calls.mono (l1pick_any g _ v l (k + 1) 6 hL (by omega) (by omega) (by omega) HS.out) ?_; rintro r w2 ⟨rfl, hs, hg⟩; rw [show pickK 6 = 1 from by first | decide | (unfold pickK; rw [if_pos (by omega)])] at hs; have z1 := hg.size; (try simp [World.setCell] at z1); replace BR : Hid (Blk _ _ _ _) := BR.out.grown hg (by omega); replace HG : Hid (w.grownBy w2 (some g)) := grownBy_trans HG.out hg; replace HS : Hid (Src w2 g v l ((k + 1) + 1)) := hs; clear hs hg)
    | (go_at_call 23; clear g2; refine Calls.mono (l1pick_any g _ v l (k + 1 + 1) 4 hL (by omega) (by omega) (by omega) HS.out) ?_; rintro r w3 ⟨rfl, hs, hg⟩; rw [show pickK 4 = 1 from by first | decide | (unfold pickK; rw [if_pos (by omega)])] at hs; have z2 := hg.size; (try simp [World.setCell] at z2); replace BR : Hid (Blk _ _ _ _) := BR.out.grown hg (by omega); replace HG : Hid (w.grownBy w3 (some g)) := grownBy_trans HG.out hg; replace HS : Hid (Src w3 g v l ((k + 1 + 1) + 1)) := hs; clear hs hg)
    | (go_at_call 56; clear g3; refine Calls.mono (l1word_any g _ v l (k + 1 + 1 + 1) false hL (by omega) HS.out) ?_; rintro r w4 ⟨rfl, hs, hg⟩; have z3 := hg.size; (try simp [World.setCell] at z3); replace BR : Hid (Blk _ _ _ _) := BR.out.grown hg (by omega); replace HG : Hid (w.grownBy w4 (some g)) := grownBy_trans HG.out hg; replace HS : Hid (Src w4 g v l (wordV l (k + 1 + 1 + 1) false).2) := hs; clear hs hg)
    | (have hBA := HS; refine gate_st 33 (.tmp 3) _ rfl ?_; clear hBA; refine wpl_store_last rfl 33 (.tmp 3) _ rfl (w4.heap.size) rfl rfl rfl sizeCmdD rfl rfl (by simp [Value.oneCell']) ?_)
    | (go_at_call 23; clear g4; refine Calls.mono (l1pick_any g _ v l (wordV l (k + 1 + 1 + 1) false).2 12 hL (by omega) (by omega) (by omega) (HS.out.alloc _)) ?_; rintro r w5 ⟨rfl, hs, hg⟩; rw [show pickK 12 = 1 from by first | decide | (unfold pickK; rw [if_pos (by omega)])] at hs; have z4 := hg.size; (try simp [World.setCell] at z4); replace BR : Hid (Blk _ _ _ _) := (BR.out.alloc _).grown hg (by omega); replace HG : Hid (w.grownBy w5 (some g)) := grownBy_trans (grownBy_alloc' HG.out _) hg; have BV : Hid (Blk _ _ _ _) := (Blk.new w4 _ _).grown hg (by omega); replace HS : Hid (Src w5 g v l ((wordV l (k + 1 + 1 + 1) false).2 + 1)) := hs; clear hs hg; have cV4 := BV.out.cell; have fV4 := BV.out.free)
    | (go_at_call 23; clear g5; refine Calls.mono (l1pick_any g _ v l ((wordV l (k + 1 + 1 + 1) false).2 + 1) 2 hL (by omega) (by omega) (by omega) HS.out) ?_; rintro r w6 ⟨rfl, hs, hg⟩; rw [show pickK 2 = 1 from by first | decide | (unfold pickK; rw [if_pos (by omega)])] at hs; have z5 := hg.size; (try simp [World.setCell] at z5); replace BR : Hid (Blk _ _ _ _) := BR.out.grown hg (by omega); replace HG : Hid (w.grownBy w6 (some g)) := grownBy_trans HG.out hg; replace BV : Hid (Blk _ _ _ _) := BV.out.grown hg (by omega); replace HS : Hid (Src w6 g v l (((wordV l (k + 1 + 1 + 1) false).2 + 1) + 1)) := hs; clear hs hg; have cV5 := BV.out.cell; have fV5 := BV.out.free)
    | (go_at_call 56; clear g6; refine Calls.mono (l1word_any g _ v l (((wordV l (k + 1 + 1 + 1) false).2 + 1) + 1) true hL (by omega) (HS.out.setB BV.out (by omega) 1 (by simp) (noU8_of rfl) _)) ?_; rintro r w7 ⟨rfl, hs, hg⟩; have z6 := hg.size; (try simp [World.setCell] at z6); replace BR : Hid (Blk _ _ _ _) := (BR.out.set_other (p := ⟨w4.heap.size, 1, none⟩) _ (show w.heap.size ≠ w4.heap.size by omega)).grown hg (by omega); replace HG : Hid (w.grownBy w7 (some g)) := grownBy_trans (grownBy_set_new HG.out (by omega) _ _) hg; replace BV : Hid (Blk _ _ _ _) := (show Blk _ _ #[.int .i64 (1 + (pickV l k 8 : Nat)), .int .i64 (1073741824 - (pickV l ((wordV l (k + 1 + 1 + 1) false).2 + 1) 2 : Nat)), .int .i64 4, .string (wordV l (k + 1 + 1 + 1) false).1, .string ⟨#[]⟩, .string ⟨#[]⟩] _ from by simpa using BV.out.set 1 (.int .i64 (1073741824 - (pickV l ((wordV l (k + 1 + 1 + 1) false).2 + 1) 2 : Nat)))).grown hg (by omega); replace HS : Hid (Src w7 g v l (wordV l (((wordV l (k + 1 + 1 + 1) false).2 + 1) + 1) true).2) := hs; clear hs hg; have cV6 := BV.out.cell; have fV6 := BV.out.free)
    | (go_at_call 56; clear g7; refine Calls.mono (l1word_any g _ v l (wordV l (((wordV l (k + 1 + 1 + 1) false).2 + 1) + 1) true).2 true hL (by omega) (HS.out.setB BV.out (by omega) 4 (by simp) (noU8_of rfl) _)) ?_; rintro r w8 ⟨rfl, hs, hg⟩; have z7 := hg.size; (try simp [World.setCell] at z7); replace BR : Hid (Blk _ _ _ _) := (BR.out.set_other (p := ⟨w4.heap.size, 4, none⟩) _ (show w.heap.size ≠ w4.heap.size by omega)).grown hg (by omega); replace HG : Hid (w.grownBy w8 (some g)) := grownBy_trans (grownBy_set_new HG.out (by omega) _ _) hg; replace BV : Hid (Blk _ _ _ _) := (show Blk _ _ #[.int .i64 (1 + (pickV l k 8 : Nat)), .int .i64 (1073741824 - (pickV l ((wordV l (k + 1 + 1 + 1) false).2 + 1) 2 : Nat)), .int .i64 4, .string (wordV l (k + 1 + 1 + 1) false).1, .string (wordV l (((wordV l (k + 1 + 1 + 1) false).2 + 1) + 1) true).1, .string ⟨#[]⟩] _ from by simpa using BV.out.set 4 (.string (wordV l (((wordV l (k + 1 + 1 + 1) false).2 + 1) + 1) true).1)).grown hg (by omega); replace HS : Hid (Src w8 g v l (wordV l (wordV l (((wordV l (k + 1 + 1 + 1) false).2 + 1) + 1) true).2 true).2) := hs; clear hs hg; have cV7 := BV.out.cell; have fV7 := BV.out.free)
    | (have hBA := HS; refine gate_ld 33 (.tmp 3) rfl ?_; clear hBA; refine wpl_load_blk rfl 33 (.tmp 3) rfl (w4.heap.size) rfl (show Blk _ _ #[.int .i64 (1 + (pickV l k 8 : Nat)), .int .i64 (1073741824 - (pickV l ((wordV l (k + 1 + 1 + 1) false).2 + 1) 2 : Nat)), .int .i64 4, .string (wordV l (k + 1 + 1 + 1) false).1, .string (wordV l (((wordV l (k + 1 + 1 + 1) false).2 + 1) + 1) true).1, .string (wordV l (wordV l (((wordV l (k + 1 + 1 + 1) false).2 + 1) + 1) true).2 true).1] _ from by simpa using BV.out.set 5 (.string (wordV l (wordV l (((wordV l (k + 1 + 1 + 1) false).2 + 1) + 1) true).2 true).1)) Tryz.underlying33 rfl sizeCmdD rfl ?_)
    | (have hBA := HS; refine gate_st 33 (.tmp 2) _ rfl ?_; clear hBA; refine wpl_store_blk rfl 33 (.tmp 2) _ rfl (w.heap.size) rfl rfl (BR.out.set_other (p := ⟨w4.heap.size, 5, none⟩) _ (show w.heap.size ≠ w4.heap.size by omega)) sizeCmdD rfl rfl (by simp [Value.oneCell']) ?_))
  all_goals first
    | exact bodyPost_ret (v := .agg #[.int .i64 (1 + (pickV l k 8 : Nat)), .int .i64 (1073741824 - (pickV l ((wordV l (k + 1 + 1 + 1) false).2 + 1) 2 : Nat)), .int .i64 4, .string (wordV l (k + 1 + 1 + 1) false).1, .string (wordV l (((wordV l (k + 1 + 1 + 1) false).2 + 1) + 1) true).1, .string (wordV l (wordV l (((wordV l (k + 1 + 1 + 1) false).2 + 1) + 1) true).2 true).1]) (results_blk Tryz.results30 rfl ((BR.out.set_other (p := ⟨w4.heap.size, 5, none⟩) _ (show w.heap.size ≠ w4.heap.size by omega)).row _) Tryz.underlying33 rfl sizeCmdD rfl) rfl ⟨rfl, (HS.out.setB BV.out (by omega) 5 (by simp) (noU8_of rfl) _).row (BR.out.set_other (p := ⟨w4.heap.size, 5, none⟩) _ (show w.heap.size ≠ w4.heap.size by omega)) (by omega) (noU8_of rfl) _, grownBy_row_new (grownBy_set_new HG.out (by omega) _ _) (BR.out.set_other (p := ⟨w4.heap.size, 5, none⟩) _ (show w.heap.size ≠ w4.heap.size by omega)) (Nat.le_refl _) _⟩
    | (exfalso; omega)
    | (exfalso; simp only [beq_iff_eq] at *; omega)


/-- the fields of a drawn command, and where the source stands behind it -/
def cmdSq (l : List Int) (k : Nat) : Int := if pickV l (wordV l (k + 1 + 1 + 1) false).2 12 = 0 then 1073741824 - (pickV l ((wordV l (k + 1 + 1 + 1) false).2 + 1) 2 : Nat) else 1 + (pickV l (k + 1) 6 : Nat)
def cmdK2 (l : List Int) (k : Nat) : Nat := if pickV l (wordV l (k + 1 + 1 + 1) false).2 12 = 0 then (wordV l (k + 1 + 1 + 1) false).2 + 1 + 1 else (wordV l (k + 1 + 1 + 1) false).2 + 1
def cmdVl (l : List Int) (k : Nat) : ByteArray := if pickV l (k + 1 + 1) 4 = 1 ∨ pickV l (k + 1 + 1) 4 = 3 then (wordV l (cmdK2 l k) true).1 else ⟨#[]⟩
def cmdK3 (l : List Int) (k : Nat) : Nat := if pickV l (k + 1 + 1) 4 = 1 ∨ pickV l (k + 1 + 1) 4 = 3 then (wordV l (cmdK2 l k) true).2 else cmdK2 l k
def cmdOl (l : List Int) (k : Nat) : ByteArray := if pickV l (k + 1 + 1) 4 = 3 then (wordV l (cmdK3 l k) true).1 else ⟨#[]⟩
def cmdK (l : List Int) (k : Nat) : Nat := if pickV l (k + 1 + 1) 4 = 3 then (wordV l (cmdK3 l k) true).2 else cmdK3 l k
def cmdCl (l : List Int) (k : Nat) : Int := 1 + (pickV l k 8 : Nat)
def cmdOp (l : List Int) (k : Nat) : Int := 1 + (pickV l (k + 1 + 1) 4 : Nat)
def cmdKy (l : List Int) (k : Nat) : ByteArray := (wordV l (k + 1 + 1 + 1) false).1

theorem cmdK_le (l : List Int) (k : Nat) : k < cmdK l k ∧ cmdK l k ≤ k + 14 := by
  have h0 := wordV_size l (k + 1 + 1 + 1) false
  have h1 := wordV_size l (cmdK2 l k) true
  have h2 := wordV_size l (cmdK3 l k) true
  have e2 : (wordV l (k + 1 + 1 + 1) false).2 < cmdK2 l k ∧ cmdK2 l k ≤ (wordV l (k + 1 + 1 + 1) false).2 + 2 := by unfold cmdK2; split <;> omega
  have e3 : cmdK2 l k ≤ cmdK3 l k ∧ cmdK3 l k ≤ cmdK2 l k + 3 := by unfold cmdK3; split <;> omega
  unfold cmdK
  split <;> omega
theorem cmd_facts (l : List Int) (k : Nat) : 1 ≤ cmdCl l k ∧ cmdCl l k ≤ 8 ∧ 1 ≤ cmdSq l k ∧ cmdSq l k ≤ 1073741824 ∧ 1 ≤ cmdOp l k ∧ cmdOp l k ≤ 4 ∧ 1 ≤ (cmdKy l k).size ∧ (cmdKy l k).size ≤ 64 ∧ (cmdVl l k).size ≤ 64 ∧ (cmdOl l k).size ≤ 64 ∧ (cmdOp l k ≠ 2 ∧ cmdOp l k ≠ 4 → (cmdVl l k).size = 0) ∧ (cmdOp l k ≠ 4 → (cmdOl l k).size = 0) := by
  have p0 := pickV_lt l k 8 (by omega)
  have p1 := pickV_lt l (k + 1) 6 (by omega)
  have p2 := pickV_lt l (k + 1 + 1) 4 (by omega)
  have p3 := pickV_lt l ((wordV l (k + 1 + 1 + 1) false).2 + 1) 2 (by omega)
  have h0 := wordV_size l (k + 1 + 1 + 1) false
  have h1 := wordV_size l (cmdK2 l k) true
  have h2 := wordV_size l (cmdK3 l k) true
  have hq : 1 ≤ cmdSq l k ∧ cmdSq l k ≤ 1073741824 := by unfold cmdSq; split <;> omega
  have hv : (cmdVl l k).size ≤ 64 ∧ (cmdOp l k ≠ 2 ∧ cmdOp l k ≠ 4 → (cmdVl l k).size = 0) := by
    unfold cmdVl cmdOp
    split
    · next h => exact ⟨h1.1, fun h' => by omega⟩
    · exact ⟨by simp [ByteArray.size], fun _ => rfl⟩
  have ho : (cmdOl l k).size ≤ 64 ∧ (cmdOp l k ≠ 4 → (cmdOl l k).size = 0) := by
    unfold cmdOl cmdOp
    split
    · next h => exact ⟨h2.1, fun h' => by omega⟩
    · exact ⟨by simp [ByteArray.size], fun _ => rfl⟩
  have hk : 1 ≤ (cmdKy l k).size ∧ (cmdKy l k).size ≤ 64 := by unfold cmdKy; exact ⟨h0.2.1 rfl, h0.1⟩
  refine ⟨?_, ?_, hq.1, hq.2, ?_, ?_, hk.1, hk.2, hv.1, ho.1, hv.2, ho.2⟩ <;> (first | unfold cmdCl | unfold cmdOp) <;> omega

set_option maxHeartbeats 1000000 in
theorem l1drawCmd_any (g : Nat) (w : World) (v : Value) (l : List Int) (k : Nat) (hL : l.length ≤ 1048576) (hk : k ≤ 700000000) (h : Src w g v l k) :
    Calls Tryz.prog 30 #[.pointer (some ⟨g, 0, none⟩)] w fun r w' => r = .returned (.agg #[.int .i64 (cmdCl l k), .int .i64 (cmdSq l k), .int .i64 (cmdOp l k), .string (cmdKy l k), .string (cmdVl l k), .string (cmdOl l k)]) ∧ Src w' g v l (cmdK l k) ∧ w.grownBy w' (some g) := by
  by_cases hp : pickV l (wordV l (k + 1 + 1 + 1) false).2 12 = 0
  · have e1 : cmdSq l k = 1073741824 - (pickV l ((wordV l (k + 1 + 1 + 1) false).2 + 1) 2 : Nat) := by unfold cmdSq; rw [if_pos hp]
    have e2 : cmdK2 l k = (wordV l (k + 1 + 1 + 1) false).2 + 1 + 1 := by unfold cmdK2; rw [if_pos hp]
    by_cases h1 : pickV l (k + 1 + 1) 4 = 1
    · have e3 : cmdVl l k = (wordV l (cmdK2 l k) true).1 := by unfold cmdVl; rw [if_pos (.inl h1)]
      have e4 : cmdK3 l k = (wordV l (cmdK2 l k) true).2 := by unfold cmdK3; rw [if_pos (.inl h1)]
      have e5 : cmdOl l k = ⟨#[]⟩ := by unfold cmdOl; rw [if_neg (by omega)]
      have e6 : cmdK l k = cmdK3 l k := by unfold cmdK; rw [if_neg (by omega)]
      have e7 : cmdOp l k = 2 := by unfold cmdOp; omega
      rw [e6, e4, e3, e5, e2, e1, e7]
      exact l1drawCmd_11 g w v l k hL hk h hp h1
    by_cases h3 : pickV l (k + 1 + 1) 4 = 3
    · have e3 : cmdVl l k = (wordV l (cmdK2 l k) true).1 := by unfold cmdVl; rw [if_pos (.inr h3)]
      have e4 : cmdK3 l k = (wordV l (cmdK2 l k) true).2 := by unfold cmdK3; rw [if_pos (.inr h3)]
      have e5 : cmdOl l k = (wordV l (cmdK3 l k) true).1 := by unfold cmdOl; rw [if_pos h3]
      have e6 : cmdK l k = (wordV l (cmdK3 l k) true).2 := by unfold cmdK; rw [if_pos h3]
      have e7 : cmdOp l k = 4 := by unfold cmdOp; omega
      rw [e6, e5, e4, e3, e2, e1, e7]
      exact l1drawCmd_12 g w v l k hL hk h hp h3
    · have e3 : cmdVl l k = ⟨#[]⟩ := by unfold cmdVl; rw [if_neg (by omega)]
      have e4 : cmdK3 l k = cmdK2 l k := by unfold cmdK3; rw [if_neg (by omega)]
      have e5 : cmdOl l k = ⟨#[]⟩ := by unfold cmdOl; rw [if_neg (by omega)]
      have e6 : cmdK l k = cmdK3 l k := by unfold cmdK; rw [if_neg (by omega)]
      rw [e6, e5, e4, e3, e2, e1]
      exact l1drawCmd_10 g w v l k hL hk h hp ⟨h1, h3⟩
  · have e1 : cmdSq l k = 1 + (pickV l (k + 1) 6 : Nat) := by unfold cmdSq; rw [if_neg hp]
    have e2 : cmdK2 l k = (wordV l (k + 1 + 1 + 1) false).2 + 1 := by unfold cmdK2; rw [if_neg hp]
    replace hp : 0 < pickV l (wordV l (k + 1 + 1 + 1) false).2 12 := by omega
    by_cases h1 : pickV l (k + 1 + 1) 4 = 1
    · have e3 : cmdVl l k = (wordV l (cmdK2 l k) true).1 := by unfold cmdVl; rw [if_pos (.inl h1)]
      have e4 : cmdK3 l k = (wordV l (cmdK2 l k) true).2 := by unfold cmdK3; rw [if_pos (.inl h1)]
      have e5 : cmdOl l k = ⟨#[]⟩ := by unfold cmdOl; rw [if_neg (by omega)]
      have e6 : cmdK l k = cmdK3 l k := by unfold cmdK; rw [if_neg (by omega)]
      have e7 : cmdOp l k = 2 := by unfold cmdOp; omega
      rw [e6, e4, e3, e5, e2, e1, e7]
      exact l1drawCmd_01 g w v l k hL hk h hp h1
    by_cases h3 : pickV l (k + 1 + 1) 4 = 3
    · have e3 : cmdVl l k = (wordV l (cmdK2 l k) true).1 := by unfold cmdVl; rw [if_pos (.inr h3)]
      have e4 : cmdK3 l k = (wordV l (cmdK2 l k) true).2 := by unfold cmdK3; rw [if_pos (.inr h3)]
      have e5 : cmdOl l k = (wordV l (cmdK3 l k) true).1 := by unfold cmdOl; rw [if_pos h3]
      have e6 : cmdK l k = (wordV l (cmdK3 l k) true).2 := by unfold cmdK; rw [if_pos h3]
      have e7 : cmdOp l k = 4 := by unfold cmdOp; omega
      rw [e6, e5, e4, e3, e2, e1, e7]
      exact l1drawCmd_02 g w v l k hL hk h hp h3
    · have e3 : cmdVl l k = ⟨#[]⟩ := by unfold cmdVl; rw [if_neg (by omega)]
      have e4 : cmdK3 l k = cmdK2 l k := by unfold cmdK3; rw [if_neg (by omega)]
      have e5 : cmdOl l k = ⟨#[]⟩ := by unfold cmdOl; rw [if_neg (by omega)]
      have e6 : cmdK l k = cmdK3 l k := by unfold cmdK; rw [if_neg (by omega)]
      rw [e6, e5, e4, e3, e2, e1]
      exact l1drawCmd_00 g w v l k hL hk h hp ⟨h1, h3⟩
end Go.Proofs.YtafmjckpbcijoaaGreatDoor

/-
  Slices of entries: what a slice value holds.
-/
namespace Go.Proofs.YtafmjckpbcijoaaGreatDoor
open Go.RowKit
set_option linter.unusedVariables false

/-- an entry -/
structure Ent where
  t : Int
  cl : Int
  sq : Int
  op : Int
  k : ByteArray
  v : ByteArray
  o : ByteArray

def Ent.fits (e : Ent) : Prop := e.k.size ≤ maxLen ∧ e.v.size ≤ maxLen ∧ e.o.size ≤ maxLen

/-- the seven cells of an entry -/
def EntAt (w : World) (b off : Nat) (e : Ent) : Prop :=
  w.cell? ⟨b, off, none⟩ = some (.int .i64 e.t) ∧ w.cell? ⟨b, off + 1, none⟩ = some (.int .i64 e.cl) ∧ w.cell? ⟨b, off + 2, none⟩ = some (.int .i64 e.sq) ∧ w.cell? ⟨b, off + 3, none⟩ = some (.int .i64 e.op) ∧
  w.cell? ⟨b, off + 4, none⟩ = some (.string e.k) ∧ w.cell? ⟨b, off + 5, none⟩ = some (.string e.v) ∧ w.cell? ⟨b, off + 6, none⟩ = some (.string e.o)

theorem EntAt.below {w w' : World} {b off : Nat} {e : Ent} (h : EntAt w b off e) (hb : Below w.heap.size w w') : EntAt w' b off e := by
  obtain ⟨h0, h1, h2, h3, h4, h5, h6⟩ := h
  have hl := cell_lt h0
  exact ⟨(hb.cell hl).trans h0, (hb.cell hl).trans h1, (hb.cell hl).trans h2, (hb.cell hl).trans h3, (hb.cell hl).trans h4, (hb.cell hl).trans h5, (hb.cell hl).trans h6⟩

/-- the slice value v holds, in the world w, the entries l -/
def Es (w : World) (v : Value) (l : List Ent) : Prop :=
  l.length ≤ maxLen ∧ (∀ e ∈ l, e.fits) ∧
  ∃ a cap, v = .slice a l.length cap ∧ ∀ i, i < l.length → ∃ b off, a = some ⟨b, off, none⟩ ∧ ∀ j (h : j < l.length), EntAt w b (off + j * 7) l[j]

theorem Es.below {w w' : World} {v : Value} {l : List Ent} (h : Es w v l) (hb : Below w.heap.size w w') : Es w' v l := by
  obtain ⟨hl, hf, a, cap, rfl, hc⟩ := h
  refine ⟨hl, hf, a, cap, rfl, fun i hi => ?_⟩
  obtain ⟨b, off, rfl, hj⟩ := hc i hi
  exact ⟨b, off, rfl, fun j hj' => (hj j hj').below hb⟩

theorem Es.block {w w' : World} {g n cap : Nat} {l : List Ent} (h : Es w (.slice (some ⟨g, 0, none⟩) n cap) l) (hb : w'.heap[g]? = w.heap[g]?) : Es w' (.slice (some ⟨g, 0, none⟩) n cap) l := by
  obtain ⟨hl, hf, a, cap', e, hc⟩ := h
  refine ⟨hl, hf, a, cap', e, fun i hi => ?_⟩
  obtain ⟨b, off, rfl, hj⟩ := hc i hi
  simp only [Value.slice.injEq, Option.some.injEq, Addr.mk.injEq, and_true] at e
  obtain ⟨⟨rfl, rfl⟩, _⟩ := e
  have hcc : ∀ o, w'.cell? ⟨g, o, none⟩ = w.cell? ⟨g, o, none⟩ := fun o => World.cell?_of_block (w := w) hb
  refine ⟨g, 0, rfl, fun j hj' => ?_⟩
  obtain ⟨h0, h1, h2, h3, h4, h5, h6⟩ := hj j hj'
  exact ⟨(hcc _).trans h0, (hcc _).trans h1, (hcc _).trans h2, (hcc _).trans h3, (hcc _).trans h4, (hcc _).trans h5, (hcc _).trans h6⟩
end Go.Proofs.YtafmjckpbcijoaaGreatDoor

/-
  Slices of entries that the call itself owns; append tq them.
-/
namespace Go.Proofs.YtafmjckpbcijoaaGreatDoor
open Go.RowKit
set_option linter.unusedVariables false

theorem infoEnt : (Tryz.prog.info? 87).map (fun i => (i.zero, i.size, i.bytes)) = some (some (.agg #[.int .i64 0, .int .i64 0, .int .i64 0, .int .i64 0, .string ⟨#[]⟩, .string ⟨#[]⟩, .string ⟨#[]⟩]), 7, 80) := by kernel_rfl

def Ent.cells (e : Ent) : List Value := [.int .i64 e.t, .int .i64 e.cl, .int .i64 e.sq, .int .i64 e.op, .string e.k, .string e.v, .string e.o]
def entCells : List Ent → List Value
  | [] => []
  | e :: l => e.cells ++ entCells l
theorem entCells_app (l k : List Ent) : entCells (l ++ k) = entCells l ++ entCells k := by
  induction l with
  | nil => rfl
  | cons e l ih => rw [List.cons_append, entCells, ih, entCells, List.append_assoc]
theorem entCells_len (l : List Ent) : (entCells l).length = l.length * 7 := by
  induction l with
  | nil => rfl
  | cons e l ih => rw [entCells, List.length_append, ih, List.length_cons]; simp [Ent.cells]; omega
theorem entCells_get (l : List Ent) : ∀ (j : Nat) (h : j < l.length) (i : Nat), i < 7 → (entCells l)[j * 7 + i]? = l[j].cells[i]? := by
  induction l with
  | nil => intro j h; simp at h
  | cons e l ih =>
    intro j h i hi
    have h7 : e.cells.length = 7 := rfl
    cases j with
    | zero => rw [entCells, List.getElem?_append_left (by rw [h7]; omega)]; simp
    | succ j =>
      rw [entCells, List.getElem?_append_right (by rw [h7]; omega), h7, show (j + 1) * 7 + i - 7 = j * 7 + i by omega, ih j (by simpa using h) i hi]
      simp

/-- the slice value v, in memory from block B on that is the call's own, holds the entries l -/
def OwnE (w : World) (B : Nat) (v : Value) (l : List Ent) : Prop :=
  (∀ e ∈ l, e.fits) ∧ w.ownsRow B 87 7 v l.length (entCells l)

theorem OwnE.nil (w : World) (B : Nat) : OwnE w B (.slice none 0 0) [] := ⟨by simp, World.ownsRow_nil w B _ 7⟩
theorem OwnE.made (w : World) (B : Nat) (hB : B ≤ w.heap.size) : OwnE (w.alloc (.cells #[] 87)) B (.slice (some ⟨w.heap.size, 0, none⟩) 0 0) [] :=
  ⟨by simp, World.ownsRow_made w #[] 0 hB (by decide) (by simp)⟩
theorem OwnE.shape {w : World} {B : Nat} {v : Value} {l : List Ent} (h : OwnE w B v l) : ∃ a cap, v = .slice a l.length cap := by
  rcases h.2.2 with ⟨rfl, h0⟩ | ⟨g, cap, cur, rfl, _⟩
  · exact ⟨none, 0, by rw [h0]⟩
  · exact ⟨_, _, rfl⟩
theorem OwnE.shape' {w : World} {B : Nat} {v : Value} {l : List Ent} (h : OwnE w B v l) (hl : 0 < l.length) : ∃ g cap, v = .slice (some ⟨g, 0, none⟩) l.length cap := by
  rcases h.2.2 with ⟨rfl, h0⟩ | ⟨g, cap, cur, rfl, _⟩
  · omega
  · exact ⟨_, _, rfl⟩
theorem OwnE.le {w : World} {B B' : Nat} {v : Value} {l : List Ent} (h : OwnE w B v l) (hb : B' ≤ B) : OwnE w B' v l := by
  refine ⟨h.1, h.2.1, ?_⟩
  rcases h.2.2 with h | ⟨g, cap, cur, hv, hg, r⟩
  · exact .inl h
  · exact .inr ⟨g, cap, cur, hv, Nat.le_trans hb hg, r⟩
theorem OwnE.block {w w' : World} {B : Nat} {v : Value} {l : List Ent} (h : OwnE w B v l) (hb : ∀ k, v.ownBlock = some k → w'.heap[k]? = w.heap[k]?) : OwnE w' B v l := by
  refine ⟨h.1, h.2.1, ?_⟩
  rcases h.2.2 with h | ⟨g, cap, cur, hv, hg, hh, r⟩
  · exact .inl h
  · subst hv
    exact .inr ⟨g, cap, cur, rfl, hg, (hb g rfl).trans hh, r⟩
theorem OwnE.below {w w' : World} {B : Nat} {v : Value} {l : List Ent} (h : OwnE w B v l) (hb : Below w.heap.size w w') : OwnE w' B v l :=
  h.block fun k hk => hb.block k (h.2.lt k hk).2
/-- .. through a call that writes in one block that is older -/
theorem OwnE.grown {w w' : World} {B b : Nat} {v : Value} {l : List Ent} (h : OwnE w B v l) (hg : w.grownBy w' (some b)) (hb : b < B) : OwnE w' B v l :=
  h.block fun k hk => hg.block k (h.2.lt k hk).2 (by intro e; injection e with e; have := (h.2.lt k hk).1; omega)
theorem OwnE.es {w : World} {B : Nat} {v : Value} {l : List Ent} (h : OwnE w B v l) (hl : l.length ≤ maxLen) : Es w v l := by
  obtain ⟨a, cap, rfl⟩ := h.shape
  refine ⟨hl, h.1, a, cap, rfl, fun i hi => ?_⟩
  obtain ⟨g, cap', e⟩ := h.shape' (by omega)
  simp only [Value.slice.injEq] at e
  obtain ⟨rfl, _, rfl⟩ := e
  refine ⟨g, 0, rfl, fun j hj => ?_⟩
  have c : ∀ i, i < 7 → w.cell? ⟨g, j * 7 + i, none⟩ = l[j].cells[i]? := fun i hi => by
    rw [h.2.cellAt (j * 7 + i) (by omega)]
    exact entCells_get l j hj i hi
  rw [Nat.zero_add]
  exact ⟨c 0 (by omega), c 1 (by omega), c 2 (by omega), c 3 (by omega), c 4 (by omega), c 5 (by omega), c 6 (by omega)⟩

theorem growE {B : Nat} {w w' : World} {v v' : Value} {l : List Ent} (h : Grew w v w' v') (hown : OwnE w B v l) (hB : B ≤ w.heap.size) : Below B w w' :=
  (Below.refl _ _).grown h.g hB (fun k hk => (hown.2.lt k hk).1)

set_option maxRecDepth 100000 in
theorem wpl_appendE {w : World} {ops : Array Oper} {rest : List Oper} {o : Oper} {a : Act} {Q : Exit → Act → World → Prop} (hgd : o.guard = none) (s x : Operand)
    (ho : o.op = .call { callee := .builtin .append, args := #[s, x], argTypes := #[25, 25] })
    {B : Nat} {v : Value} {l : List Ent} (e : Ent) (hf : e.fits) (hown : OwnE w B v l) (hs : a.eval s = v) (b c : Nat) (hu : EntAt w b 0 e) (hx : a.eval x = .slice (some ⟨b, 0, none⟩) 1 c) (hlen : l.length ≤ 1000000) (hB : B ≤ w.heap.size)
    (h : ∀ v' w', OwnE w' B v' (l ++ [e]) → Grew w v w' v' → wpList Tryz.prog ops Q rest (a.put o.dst v') w') : wpList Tryz.prog ops Q (o :: rest) a w := by
  obtain ⟨i0, hi, hz0, hz1, hz2⟩ := info_parts infoEnt
  obtain ⟨u0, u1, u2, u3, u4, u5, u6⟩ := hu
  refine wpList_append_own_at w hgd s x 25 ho B 87 i0 _ 7 80 Tryz.underlying25 hi hz0 hz1 hz2 rfl (by decide) v l.length _ hs hown.2 ⟨b, 0, none⟩ 1 c e.cells hx rfl ?_ ?_ (by unfold maxLen; omega) (by omega) hB ?_
  · intro j u hj
    rw [cell_add, Nat.zero_add]
    have hj7 : j < 7 := (List.getElem?_eq_some_iff.1 hj).1
    rcases (show j = 0 ∨ j = 1 ∨ j = 2 ∨ j = 3 ∨ j = 4 ∨ j = 5 ∨ j = 6 by omega) with rfl | rfl | rfl | rfl | rfl | rfl | rfl
    · exact u0.trans hj
    · exact u1.trans hj
    · exact u2.trans hj
    · exact u3.trans hj
    · exact u4.trans hj
    · exact u5.trans hj
    · exact u6.trans hj
  · intro u hu
    simp only [Ent.cells, List.mem_cons, List.not_mem_nil, or_false] at hu
    rcases hu with rfl | rfl | rfl | rfl | rfl | rfl | rfl <;> rfl
  · intro v' w' h2 h3 _ h5
    refine h v' w' ⟨fun y hy => ?_, by rw [entCells_app]; simpa [entCells] using h2⟩ ⟨h3, h5.imp id fun e => ⟨_, e, Nat.le_refl _⟩⟩
    rcases List.mem_append.1 hy with hy | hy
    · exact hown.1 y hy
    · rw [List.mem_singleton.1 hy]; exact hf
end Go.Proofs.YtafmjckpbcijoaaGreatDoor

/-
  Stores into new blocks; results out of a cell.
-/
namespace Go.Proofs.YtafmjckpbcijoaaGreatDoor
open Go.RowKit
set_option linter.unusedVariables false
set_option linter.unusedSimpArgs false

theorem below_setCells {B g : Nat} {w0 : World} (hg : B ≤ g) : ∀ (vs : List Value) (o : Nat) (w : World), Below B w0 w → Below B w0 (w.setCells g o vs)
  | [], _, _, h => h
  | v :: vs, o, w, h => below_setCells hg vs (o + 1) _ (h.setCell (show B ≤ (⟨g, o, none⟩ : Addr).block from hg) v)

theorem wpl_store_new {w : World} {ops : Array Oper} {rest : List Oper} {o : Oper} {a : Act} {Q : Exit → Act → World → Prop} (hgd : o.guard = none) (ty : TypeId) (x y : Operand) (ho : o.op = .store ty x y)
    (c c' : Array Value) (hx : a.eval x = .pointer (some ⟨w.heap.size, 0, none⟩)) (hy : a.eval y = .agg c') (hi : (Tryz.prog.info? ty).map (·.size) = some c'.size) (hc : c.size = c'.size) (h1 : c'.all (·.oneCell') = true)
    (h : wpList Tryz.prog ops Q rest (a.put o.dst undef) (w.alloc (.cells c' ty))) : wpList Tryz.prog ops Q (o :: rest) a (w.alloc (.cells c ty)) :=
  wpList_plain hgd fun K hK => by
    unfold Oper.wp execOp
    simp only [ho, hx, hy, Sem.run_bind, Sem.run_pure, Result.andThen_ok, run_storeAt_new w ty c c' hi hc h1]
    exact hK _ _ h

theorem range_new (w : World) (cs : List Value) (t : TypeId) : (w.alloc (.cells cs.toArray t)).rangeAt w.heap.size 0 cs := by
  intro j v hj
  rw [Nat.zero_add, World.cell?_alloc_new]
  simpa using hj

theorem results_cell {fn : Func} {t : Tmp} {ty : TypeId} {tmps : Array Value} {a : Addr} {w : World} {v : Value} (hr : fn.results = #[.cell t ty]) (ht : tmps.getD t undef = .pointer (some a))
    (hl : (loadVar ty a).run Tryz.prog w = .ok v w) : (results fn tmps).run Tryz.prog w = .ok v w := by
  have e : tmps[t]?.getD undef = .pointer (some a) := by rw [← ht]; simp
  simp [results, hr, e, hl, asAddr]

/-- a variable that the call itself made is there still -/
theorem there_new {w w2 : World} {cs : Array Value} {t : TypeId} (hb : Below (w.alloc (.cells cs t)).heap.size (w.alloc (.cells cs t)) w2) (hlt : w.heap.size < w2.heap.size) (o : Obj) : (w2.alloc o).there w.heap.size 0 cs.size := by
  intro j hj
  have c := hb.cell (p := ⟨w.heap.size, 0 + j, none⟩) (by simp)
  have f := hb.frozen (p := ⟨w.heap.size, 0 + j, none⟩) (by simp)
  rw [World.cell?_alloc_lt _ _ ⟨w.heap.size, 0 + j, none⟩ hlt, World.frozen?_alloc_old _ _ ⟨w.heap.size, 0 + j, none⟩ (Nat.ne_of_lt hlt), c, f]
  simp [hj]
end Go.Proofs.YtafmjckpbcijoaaGreatDoor

/-
  Gates: so that an arm is tried at its own operation alone.
-/
namespace Go.Proofs.YtafmjckpbcijoaaGreatDoor
open Go.RowKit
set_option linter.unusedVariables false

theorem gate_store {P : Program} {w : World} {ops : Array Oper} {rest : List Oper} {o : Oper} {a : Act} {Q : Exit → Act → World → Prop} (ty : TypeId) (x y : Operand) (ho : o.op = .store ty x y)
    (h : wpList P ops Q (o :: rest) a w) : wpList P ops Q (o :: rest) a w := h
theorem gate_load {P : Program} {w : World} {ops : Array Oper} {rest : List Oper} {o : Oper} {a : Act} {Q : Exit → Act → World → Prop} (ty : TypeId) (x : Operand) (ho : o.op = .load ty x)
    (h : wpList P ops Q (o :: rest) a w) : wpList P ops Q (o :: rest) a w := h
theorem range_app {w : World} {b o : Nat} {xs ys : List Value} : w.rangeAt b o (xs ++ ys) ↔ w.rangeAt b o xs ∧ w.rangeAt b (o + xs.length) ys := by
  constructor
  · intro h
    refine ⟨fun j v hj => h j v ?_, fun j v hj => ?_⟩
    · rw [List.getElem?_append_left (List.getElem?_eq_some_iff.1 hj).1]; exact hj
    · have := h (xs.length + j) v (by rw [List.getElem?_append_right (by omega)]; simpa using hj)
      rwa [← Nat.add_assoc] at this
  · rintro ⟨h1, h2⟩ j v hj
    rcases Nat.lt_or_ge j xs.length with h | h
    · rw [List.getElem?_append_left h] at hj
      exact h1 j v hj
    · rw [List.getElem?_append_right h] at hj
      have := h2 (j - xs.length) v hj
      rwa [Nat.add_assoc, Nat.add_sub_cancel' h] at this
theorem range_splice {w : World} {b : Nat} (p m m' q : List Value) (h : w.rangeAt b 0 (p ++ (m ++ q))) (hl : m'.length = m.length) (ht : w.there b p.length m'.length) :
    (w.setCells b p.length m').rangeAt b 0 (p ++ (m' ++ q)) := by
  obtain ⟨h1, h2⟩ := range_app.1 h
  obtain ⟨h2, h3⟩ := range_app.1 h2
  rw [Nat.zero_add] at h2 h3
  refine range_app.2 ⟨World.rangeAt_setCells_apart h1 _ _ _ (by omega), range_app.2 ⟨?_, ?_⟩⟩
  · rw [Nat.zero_add]; exact World.rangeAt_setCells_same _ _ _ _ ht
  · rw [Nat.zero_add, hl]; exact World.rangeAt_setCells_apart h3 _ _ _ (by omega)
theorem there_part {w : World} {b n : Nat} (h : w.there b 0 n) (o k : Nat) (hk : o + k ≤ n) : w.there b o k := fun j hj => by
  have := h (o + j) (by omega)
  rwa [Nat.zero_add] at this
end Go.Proofs.YtafmjckpbcijoaaGreatDoor

/-
  spec.l1drawEntries.
-/
namespace Go.Proofs.YtafmjckpbcijoaaGreatDoor
open Go.RowKit
set_option linter.unusedVariables false
set_option linter.unusedSimpArgs false

theorem infoEnt7 : (Tryz.prog.info? 87).map (·.size) = some 7 := by kernel_rfl
theorem infoCmd6 : (Tryz.prog.info? 33).map (·.size) = some 6 := by kernel_rfl
theorem entAt_at (w : World) (e : Ent) : EntAt (w.alloc (.cells #[.int .i64 e.t, .int .i64 e.cl, .int .i64 e.sq, .int .i64 e.op, .string e.k, .string e.v, .string e.o] 87)) w.heap.size 0 e := by
  unfold EntAt
  simp [World.cell?_alloc_new]
theorem size_setC {g : Nat} : ∀ (vs : List Value) (o : Nat) (w : World), (w.setCells g o vs).heap.size = w.heap.size
  | [], _, _ => rfl
  | v :: vs, o, w => (size_setC vs (o + 1) _).trans (by simp [World.setCell])
theorem setC_other {g k : Nat} (h : k ≠ g) : ∀ (vs : List Value) (o : Nat) (w : World), (w.setCells g o vs).heap[k]? = w.heap[k]?
  | [], _, _ => rfl
  | v :: vs, o, w => (setC_other h vs (o + 1) _).trans (Below.heap_setCell w ⟨g, o, none⟩ v k h)
theorem growCells {w w' : World} {g b o : Nat} {vs : List Value} (h : w.grownBy w' (some g)) (hb : w.heap.size ≤ b) : w.grownBy (w'.setCells b o vs) (some g) := by
  have hB := below_setCells (B := b) (w0 := w') (Nat.le_refl _) vs o w' (Below.refl _ _)
  exact ⟨hB.os.trans h.os, hB.tape.trans h.tape, hB.output.trans h.output, Nat.le_trans h.size hB.size, fun k hk hne => (hB.block k (by omega)).trans (h.block k hk hne)⟩
theorem srcCells {w : World} {g b : Nat} {v : Value} {l : List Int} {k : Nat} {t m1 m2 m3 : Int} {m4 m5 m6 : ByteArray} (h : Src w g v l k) (hb : Blk w b #[.int .i64 t, .int .i64 0, .int .i64 0, .int .i64 0, .string ⟨#[]⟩, .string ⟨#[]⟩, .string ⟨#[]⟩] 87) (hne : b ≠ g) :
    Src (w.setCells b 1 [.int .i64 m1, .int .i64 m2, .int .i64 m3, .string m4, .string m5, .string m6]) g v l k := by
  have h1 := h.setB hb hne 1 (by simp) (noU8_of rfl) (.int .i64 m1)
  have b1 : Blk _ b #[.int .i64 t, .int .i64 m1, .int .i64 0, .int .i64 0, .string ⟨#[]⟩, .string ⟨#[]⟩, .string ⟨#[]⟩] 87 := hb.set 1 (.int .i64 m1)
  have h2 := h1.setB b1 hne 2 (by simp) (noU8_of rfl) (.int .i64 m2)
  have b2 : Blk _ b #[.int .i64 t, .int .i64 m1, .int .i64 m2, .int .i64 0, .string ⟨#[]⟩, .string ⟨#[]⟩, .string ⟨#[]⟩] 87 := b1.set 2 (.int .i64 m2)
  have h3 := h2.setB b2 hne 3 (by simp) (noU8_of rfl) (.int .i64 m3)
  have b3 : Blk _ b #[.int .i64 t, .int .i64 m1, .int .i64 m2, .int .i64 m3, .string ⟨#[]⟩, .string ⟨#[]⟩, .string ⟨#[]⟩] 87 := b2.set 3 (.int .i64 m3)
  have h4 := h3.setB b3 hne 4 (by simp) (noU8_of rfl) (.string m4)
  have b4 : Blk _ b #[.int .i64 t, .int .i64 m1, .int .i64 m2, .int .i64 m3, .string m4, .string ⟨#[]⟩, .string ⟨#[]⟩] 87 := b3.set 4 (.string m4)
  have h5 := h4.setB b4 hne 5 (by simp) (noU8_of rfl) (.string m5)
  have b5 : Blk _ b #[.int .i64 t, .int .i64 m1, .int .i64 m2, .int .i64 m3, .string m4, .string m5, .string ⟨#[]⟩] 87 := b4.set 5 (.string m5)
  exact h5.setB b5 hne 6 (by simp) (noU8_of rfl) (.string m6)
theorem srcGrew {w0 w w' wo : World} {g : Nat} {v : Value} {l : List Int} {k : Nat} {u u' : Value} {E : List Ent} (h : Src w g v l k) (h0 : Bs w0 v l) (hw : w0.heap.size ≤ w.heap.size) (hg : Grew w u w' u') (ho : OwnE wo w0.heap.size u E) (hg0 : g < w0.heap.size) : Src w' g v l k := by
  have hb : Below w0.heap.size w w' := (Below.refl _ _).grown hg.g hw (fun k hk => (ho.2.lt k hk).1)
  obtain ⟨h1, h2, ⟨hl, h8, a, cap, rfl, hc⟩, h4, h5⟩ := h
  obtain ⟨_, _, a', cap', e, hc0⟩ := h0
  injection e with e1 e2 e3
  subst e1 e3
  refine ⟨Nat.lt_of_lt_of_le h1 hb.size, fun i => by rw [hb.frozen (p := ⟨g, i, none⟩) hg0]; exact h2 i, ⟨hl, h8, a, cap, rfl, fun i hi => ?_⟩, (hb.cell (p := ⟨g, 0, none⟩) hg0).trans h4, (hb.cell (p := ⟨g, 1, none⟩) hg0).trans h5⟩
  obtain ⟨b, off, rfl, hj⟩ := hc i hi
  obtain ⟨b', off', e', hj'⟩ := hc0 i hi
  injection e' with e'
  injection e' with e1' e2'
  subst e1' e2'
  exact ⟨b, off, rfl, fun m hm => (hb.cell (p := ⟨b, off + m, none⟩) (cell_lt (hj' m hm))).trans (hj m hm)⟩
theorem growOwn {w w1 w' : World} {g : Nat} {v v' : Value} {l : List Ent} {wo : World} (h : w.grownBy w1 (some g)) (hg : Grew w1 v w' v') (ho : OwnE wo w.heap.size v l) : w.grownBy w' (some g) :=
  ⟨hg.g.os.trans h.os, hg.g.tape.trans h.tape, hg.g.output.trans h.output, Nat.le_trans h.size hg.g.size, fun k hk hne => (hg.g.block k (Nat.lt_of_lt_of_le hk h.size) (fun e => by have := (ho.2.lt k e.symm).1; omega)).trans (h.block k hk hne)⟩
/-- one drawn entry: its term, itself, where the draws stand behind it -/
def entT (l : List Int) (k : Nat) (t : Int) : Int := if pickV l k 5 = 0 ∧ t < 1073741824 then t + 1 else t
def entE (l : List Int) (k : Nat) (t : Int) : Ent := if pickV l (k + 1) 6 = 0 then ⟨entT l k t, 0, 0, 0, ⟨#[]⟩, ⟨#[]⟩, ⟨#[]⟩⟩ else ⟨entT l k t, cmdCl l (k + 1 + 1), cmdSq l (k + 1 + 1), cmdOp l (k + 1 + 1), cmdKy l (k + 1 + 1), cmdVl l (k + 1 + 1), cmdOl l (k + 1 + 1)⟩
def entKn (l : List Int) (k : Nat) : Nat := if pickV l (k + 1) 6 = 0 then k + 1 + 1 else cmdK l (k + 1 + 1)
/-- n drawn entries -/
def entsD (l : List Int) (k : Nat) (t : Int) : Nat → List Ent × Nat × Int
  | 0 => ([], k, t)
  | n + 1 => ((entsD l k t n).1 ++ [entE l (entsD l k t n).2.1 (entsD l k t n).2.2], entKn l (entsD l k t n).2.1, entT l (entsD l k t n).2.1 (entsD l k t n).2.2)
theorem entsD_len (l : List Int) (k : Nat) (t : Int) (n : Nat) : (entsD l k t n).1.length = n := by
  induction n with
  | zero => rfl
  | succ n ih => rw [entsD, List.length_append, ih]; rfl
theorem entKn_le (l : List Int) (k : Nat) : k < entKn l k ∧ entKn l k ≤ k + 16 := by
  have := cmdK_le l (k + 1 + 1)
  unfold entKn
  split <;> omega
theorem entsD_k (l : List Int) (k : Nat) (t : Int) (n : Nat) : k ≤ (entsD l k t n).2.1 ∧ (entsD l k t n).2.1 ≤ k + 16 * n := by
  induction n with
  | zero => exact ⟨Nat.le_refl _, Nat.le_refl _⟩
  | succ n ih =>
    have := entKn_le l (entsD l k t n).2.1
    rw [entsD]
    exact ⟨by show k ≤ entKn l _; omega, by show entKn l _ ≤ _; omega⟩
theorem entT_le (l : List Int) (k : Nat) (t : Int) (h0 : 0 ≤ t) (h1 : t ≤ 1073741824) : t ≤ entT l k t ∧ entT l k t ≤ 1073741824 := by
  unfold entT
  split <;> omega
theorem entsD_t (l : List Int) (k : Nat) (t : Int) (n : Nat) (h0 : 0 ≤ t) (h1 : t ≤ 1073741824) : t ≤ (entsD l k t n).2.2 ∧ (entsD l k t n).2.2 ≤ 1073741824 := by
  induction n with
  | zero => exact ⟨Int.le_refl _, h1⟩
  | succ n ih =>
    have := entT_le l (entsD l k t n).2.1 (entsD l k t n).2.2 (by omega) ih.2
    rw [entsD]
    exact ⟨Int.le_trans ih.1 this.1, this.2⟩
theorem entE_fits (l : List Int) (k : Nat) (t : Int) : (entE l k t).fits := by
  have h := cmd_facts l (k + 1 + 1)
  unfold entE
  split
  · exact ⟨(by decide : (⟨#[]⟩ : ByteArray).size ≤ maxLen), (by decide : (⟨#[]⟩ : ByteArray).size ≤ maxLen), (by decide : (⟨#[]⟩ : ByteArray).size ≤ maxLen)⟩
  · obtain ⟨_, _, _, _, _, _, _, h1, h2⟩ := h
    unfold Ent.fits maxLen
    dsimp only
    omega

set_option maxHeartbeats 16000000 in
set_option maxRecDepth 100000 in
theorem l1drawEntries_any (g : Nat) (w : World) (v : Value) (l : List Int) (k n : Nat) (t : Int) (hL : l.length ≤ 1048576) (hk : k ≤ 600000000) (hn : n ≤ 100000) (ht : 0 ≤ t ∧ t ≤ 1073741824) (h : Src w g v l k) :
    Calls Tryz.prog 48 #[.pointer (some ⟨g, 0, none⟩), .int .i64 n, .int .i64 t] w fun r w' => ∃ ev, r = .returned ev ∧ OwnE w' w.heap.size ev (entsD l k t n).1 ∧ Src w' g v l (entsD l k t n).2.1 ∧ w.grownBy w' (some g) := by
  have HS : Hid (Src w g v l k) := h
  have hg0 : g < w.heap.size := h.lt
  clear h
  go_enter Tryz.func48, Tryz.ntmps48
  go_wp2
  go_loopw [2, 7, 8] (fun t2 es i wr => ∃ j : Nat, j ≤ n ∧ i = .int .i64 j ∧ t2 = .int .i64 (entsD l k t j).2.2 ∧ OwnE wr w.heap.size es (entsD l k t j).1 ∧ Src wr g v l (entsD l k t j).2.1 ∧ w.grownBy wr (some g)) (fun _ _ i _ => n - (intOf i).toNat)
  case atStart => exact ⟨0, Nat.zero_le _, rfl, rfl, OwnE.made _ _ (Nat.le_refl _), HS.out.below ((Below.refl _ _).alloc (Nat.le_refl _) _), World.grownBy_alloc _ _ _⟩
  case round =>
    obtain ⟨j, hj, rfl, rfl, ho, hs, hgr⟩ := hrel
    obtain ⟨la, lc, es⟩ := ho.shape
    rw [entsD_len] at es
    subst es
    have hkk := entsD_k l k t j
    have htt := entsD_t l k t j ht.1 ht.2
    have hz := hgr.size
    by_cases hlt : j < n
    · have hD : entsD l k t (j + 1) = ((entsD l k t j).1 ++ [entE l (entsD l k t j).2.1 (entsD l k t j).2.2], entKn l (entsD l k t j).2.1, entT l (entsD l k t j).2.1 (entsD l k t j).2.2) := rfl
      have hlen := entsD_len l k t j
      generalize (entsD l k t j).1 = L at *
      generalize (entsD l k t j).2.1 = K at *
      generalize (entsD l k t j).2.2 = TT at *
      have HO : Hid (OwnE wr w.heap.size (.slice la j lc) L) := ho
      have HGR : Hid (w.grownBy wr (some g)) := hgr
      have HD : Hid (entsD l k t (j + 1) = (L ++ [entE l K TT], entKn l K, entT l K TT)) := hD
      have HLen : Hid (L.length = j) := hlen
      have hfit := entE_fits l K TT
      have HP5 : Hid (Calls Tryz.prog 23 #[.pointer (some ⟨g, 0, none⟩), .int .i64 5] wr fun e w' => e = .returned (.int .i64 (pickV l K 5 : Nat)) ∧ Src w' g v l (K + 1) ∧ wr.grownBy w' (some g)) := l1pick_any g wr v l K 5 hL (by omega) (by decide) (by decide) hs
      have HP6 : ∀ u : World, Src u g v l (K + 1) → Hid (Calls Tryz.prog 23 #[.pointer (some ⟨g, 0, none⟩), .int .i64 6] u fun e w' => e = .returned (.int .i64 (pickV l (K + 1) 6 : Nat)) ∧ Src w' g v l (K + 1 + 1) ∧ u.grownBy w' (some g)) := fun u h => l1pick_any g u v l (K + 1) 6 hL (by omega) (by decide) (by decide) h
      have HCm : ∀ u : World, Src u g v l (K + 1 + 1) → Hid (Calls Tryz.prog 30 #[.pointer (some ⟨g, 0, none⟩)] u fun r w' => r = .returned (.agg #[.int .i64 (cmdCl l (K + 1 + 1)), .int .i64 (cmdSq l (K + 1 + 1)), .int .i64 (cmdOp l (K + 1 + 1)), .string (cmdKy l (K + 1 + 1)), .string (cmdVl l (K + 1 + 1)), .string (cmdOl l (K + 1 + 1))]) ∧ Src w' g v l (cmdK l (K + 1 + 1)) ∧ u.grownBy w' (some g)) := fun u h => l1drawCmd_any g u v l (K + 1 + 1) hL (by omega) h
      have hT5 : entT l K TT = if pickV l K 5 = 0 ∧ TT < 1073741824 then TT + 1 else TT := rfl
      have hE6 : entE l K TT = if pickV l (K + 1) 6 = 0 then ⟨entT l K TT, 0, 0, 0, ⟨#[]⟩, ⟨#[]⟩, ⟨#[]⟩⟩ else ⟨entT l K TT, cmdCl l (K + 1 + 1), cmdSq l (K + 1 + 1), cmdOp l (K + 1 + 1), cmdKy l (K + 1 + 1), cmdVl l (K + 1 + 1), cmdOl l (K + 1 + 1)⟩ := rfl
      have hK6 : entKn l K = if pickV l (K + 1) 6 = 0 then K + 1 + 1 else cmdK l (K + 1 + 1) := rfl
      have b5 := pickV_lt l K 5 (by decide)
      have b6 := pickV_lt l (K + 1) 6 (by decide)
      generalize entE l K TT = E at *
      generalize entKn l K = KN at *
      generalize entT l K TT = TN at *
      generalize pickV l K 5 = p5 at *
      generalize pickV l (K + 1) 6 = p6 at *
      generalize cmdCl l (K + 1 + 1) = m1 at *
      generalize cmdSq l (K + 1 + 1) = m2 at *
      generalize cmdOp l (K + 1 + 1) = m3 at *
      generalize cmdKy l (K + 1 + 1) = m4 at *
      generalize cmdVl l (K + 1 + 1) = m5 at *
      generalize cmdOl l (K + 1 + 1) = m6 at *
      generalize cmdK l (K + 1 + 1) = KC at *
      have hjn : (j : Int) < (n : Int) := by omega
      have y1 : True := trivial
      clear ho hs hgr hD hlen
      rcases (show (p5 ≠ 0 ∨ ¬ TT < 1073741824) ∨ (p5 = 0 ∧ TT < 1073741824) by omega) with h5 | ⟨h5, h5'⟩
      · obtain rfl : TN = TT := by rw [hT5, if_neg (by omega)]
        rcases (show p5 ≠ 0 ∨ (p5 = 0 ∧ ¬ TN < 1073741824) by omega) with h5 | ⟨rfl, h5⟩
        · have n5 : ((p5 : Int) == 0) = false := by rw [beq_eq_false_iff_ne]; omega
          clear hT5
          by_cases h6 : p6 = 0
          · subst h6
            have HE : Hid (E = ⟨TN, 0, 0, 0, ⟨#[]⟩, ⟨#[]⟩, ⟨#[]⟩⟩) := (show E = ⟨TN, 0, 0, 0, ⟨#[]⟩, ⟨#[]⟩, ⟨#[]⟩⟩ by rw [hE6, if_pos rfl])
            obtain rfl : KN = K + 1 + 1 := by rw [hK6, if_pos rfl]
            clear hE6 hK6
            go_wp2_with (first
              | (go_at_call 23; clear y1; refine Calls.mono HP5.out ?_; rintro e w1 ⟨rfl, hs1, hg1⟩; have z1 := hg1.size; have HS1 : Hid (Src w1 g v l (K + 1)) := hs1; have HG1 : Hid (w.grownBy w1 (some g)) := grownBy_trans HGR.out hg1; have HO1 : Hid (OwnE w1 w.heap.size (.slice la j lc) L) := HO.out.grown hg1 hg0; clear hs1 hg1)
              | (have hBA := HS1; refine gate_st 87 (.tmp 9) _ rfl ?_; clear hBA; refine wpl_store_last rfl 87 (.tmp 9) _ rfl (w1.heap.size) rfl rfl rfl infoEnt7 rfl rfl (by simp [Value.oneCell']) ?_; obtain ⟨W2, hW2⟩ : ∃ W2, W2 = w1.alloc (.cells #[.int .i64 TN, .int .i64 0, .int .i64 0, .int .i64 0, .string ⟨#[]⟩, .string ⟨#[]⟩, .string ⟨#[]⟩] 87) := ⟨_, rfl⟩; rw [← hW2]; have HS2 : Hid (Src W2 g v l (K + 1)) := (by rw [hW2]; exact HS1.out.alloc _); have HE2 : Hid (Blk W2 w1.heap.size #[.int .i64 TN, .int .i64 0, .int .i64 0, .int .i64 0, .string ⟨#[]⟩, .string ⟨#[]⟩, .string ⟨#[]⟩] 87) := (by rw [hW2]; exact Blk.new _ _ _); have HG2 : Hid (w.grownBy W2 (some g)) := (by rw [hW2]; exact grownBy_trans HG1.out (World.grownBy_alloc _ _ _)); have HO2 : Hid (OwnE W2 w.heap.size (.slice la j lc) L) := (by rw [hW2]; exact HO1.out.below ((Below.refl _ _).alloc (Nat.le_refl _) _)); have hol : Hid (∀ q, (Value.slice la j lc).ownBlock = some q → q < w1.heap.size) := (fun q hq => (HO1.out.2.lt q hq).2); clear hW2)
              | (go_at_call 23; refine Calls.mono (HP6 _ HS2.out).out ?_; rintro e w3 ⟨rfl, hs3, hg3⟩; have z3 := hg3.size; have z2 := HE2.out.lt; have HS3 : Hid (Src w3 g v l (K + 1 + 1)) := hs3; have HE3 : Hid (Blk w3 w1.heap.size #[.int .i64 TN, .int .i64 0, .int .i64 0, .int .i64 0, .string ⟨#[]⟩, .string ⟨#[]⟩, .string ⟨#[]⟩] 87) := HE2.out.grown hg3 (by omega); have HG3 : Hid (w.grownBy w3 (some g)) := grownBy_trans HG2.out hg3; have HO3 : Hid (OwnE w3 w.heap.size (.slice la j lc) L) := HO2.out.grown hg3 hg0; clear hs3 hg3)
              | (have hBA := HE3; refine gate_ld 87 (.tmp 9) rfl ?_; clear hBA; refine wpl_load_blk rfl 87 (.tmp 9) rfl (w1.heap.size) rfl HE3.out Tryz.underlying87 rfl infoEnt7 rfl ?_; have HEA : Hid (EntAt (w3.alloc (.cells #[.int .i64 TN, .int .i64 0, .int .i64 0, .int .i64 0, .string ⟨#[]⟩, .string ⟨#[]⟩, .string ⟨#[]⟩] 87)) w3.heap.size 0 E) := (by rw [HE.out]; exact entAt_at w3 ⟨TN, 0, 0, 0, ⟨#[]⟩, ⟨#[]⟩, ⟨#[]⟩⟩))
              | (at_builtin; refine wpl_appendE rfl (.tmp 33) (.tmp 35) rfl E hfit (OwnE.below HO3.out ((Below.refl _ _).alloc (Nat.le_refl _) _)) rfl w3.heap.size 1 HEA.out rfl (by rw [HLen.out]; omega) (by have hzz := HG3.out.size; simp; omega) ?_; intro v1 w9 ho9 hg9; have HO9 : Hid (OwnE w9 w.heap.size v1 (L ++ [E])) := ho9; have HS9 : Hid (Src w9 g v l (K + 1 + 1)) := srcGrew (HS3.out.alloc _) HS.out.2.2.1 (by have hzz := HG3.out.size; simp; omega) hg9 HO3.out hg0; have HG9 : Hid (w.grownBy w9 (some g)) := growOwn (grownBy_trans HG3.out (World.grownBy_alloc _ _ _)) hg9 HO3.out; clear ho9 hg9))
            go_roundw
            case rel => exact ⟨j + 1, by omega, by go_num, by rw [HD.out], by rw [HD.out]; exact HO9.out, by rw [HD.out]; exact HS9.out, HG9.out⟩
            case measure => simp [intOf]; omega
          · have n6 : ((p6 : Int) != 0) = true := by rw [bne_iff_ne]; omega
            have HE : Hid (E = ⟨TN, m1, m2, m3, m4, m5, m6⟩) := (show E = ⟨TN, m1, m2, m3, m4, m5, m6⟩ by rw [hE6, if_neg h6])
            obtain rfl : KN = KC := by rw [hK6, if_neg h6]
            clear hE6 hK6
            go_wp2_with (first
              | (go_at_call 23; clear y1; refine Calls.mono HP5.out ?_; rintro e w1 ⟨rfl, hs1, hg1⟩; have z1 := hg1.size; have HS1 : Hid (Src w1 g v l (K + 1)) := hs1; have HG1 : Hid (w.grownBy w1 (some g)) := grownBy_trans HGR.out hg1; have HO1 : Hid (OwnE w1 w.heap.size (.slice la j lc) L) := HO.out.grown hg1 hg0; clear hs1 hg1)
              | (have hBA := HS1; refine gate_st 87 (.tmp 9) _ rfl ?_; clear hBA; refine wpl_store_last rfl 87 (.tmp 9) _ rfl (w1.heap.size) rfl rfl rfl infoEnt7 rfl rfl (by simp [Value.oneCell']) ?_; obtain ⟨W2, hW2⟩ : ∃ W2, W2 = w1.alloc (.cells #[.int .i64 TN, .int .i64 0, .int .i64 0, .int .i64 0, .string ⟨#[]⟩, .string ⟨#[]⟩, .string ⟨#[]⟩] 87) := ⟨_, rfl⟩; rw [← hW2]; have HS2 : Hid (Src W2 g v l (K + 1)) := (by rw [hW2]; exact HS1.out.alloc _); have HE2 : Hid (Blk W2 w1.heap.size #[.int .i64 TN, .int .i64 0, .int .i64 0, .int .i64 0, .string ⟨#[]⟩, .string ⟨#[]⟩, .string ⟨#[]⟩] 87) := (by rw [hW2]; exact Blk.new _ _ _); have HG2 : Hid (w.grownBy W2 (some g)) := (by rw [hW2]; exact grownBy_trans HG1.out (World.grownBy_alloc _ _ _)); have HO2 : Hid (OwnE W2 w.heap.size (.slice la j lc) L) := (by rw [hW2]; exact HO1.out.below ((Below.refl _ _).alloc (Nat.le_refl _) _)); have hol : Hid (∀ q, (Value.slice la j lc).ownBlock = some q → q < w1.heap.size) := (fun q hq => (HO1.out.2.lt q hq).2); clear hW2)
              | (go_at_call 23; refine Calls.mono (HP6 _ HS2.out).out ?_; rintro e w3 ⟨rfl, hs3, hg3⟩; have z3 := hg3.size; have z2 := HE2.out.lt; have HS3 : Hid (Src w3 g v l (K + 1 + 1)) := hs3; have HE3 : Hid (Blk w3 w1.heap.size #[.int .i64 TN, .int .i64 0, .int .i64 0, .int .i64 0, .string ⟨#[]⟩, .string ⟨#[]⟩, .string ⟨#[]⟩] 87) := HE2.out.grown hg3 (by omega); have HG3 : Hid (w.grownBy w3 (some g)) := grownBy_trans HG2.out hg3; have HO3 : Hid (OwnE w3 w.heap.size (.slice la j lc) L) := HO2.out.grown hg3 hg0; clear hs3 hg3)
              | (go_at_call 30; refine Calls.mono (HCm _ HS3.out).out ?_; rintro e w4 ⟨rfl, hs4, hg4⟩; have z4 := hg4.size; have z4b := HE3.out.lt; have HS4 : Hid (Src w4 g v l KN) := hs4; have HE4 : Hid (Blk w4 w1.heap.size #[.int .i64 TN, .int .i64 0, .int .i64 0, .int .i64 0, .string ⟨#[]⟩, .string ⟨#[]⟩, .string ⟨#[]⟩] 87) := HE3.out.grown hg4 (by omega); have HG4 : Hid (w.grownBy w4 (some g)) := grownBy_trans HG3.out hg4; have HO4 : Hid (OwnE w4 w.heap.size (.slice la j lc) L) := HO3.out.grown hg4 hg0; have hTh : Hid (w4.there w1.heap.size 1 6) := there_part HE4.out.there 1 6 (by simp); clear hs4 hg4)
              | (have hBA := HE4; refine gate_store 33 (.tmp 32) (.tmp 31) rfl ?_; clear hBA; refine wpList_store_mid rfl 33 (.tmp 32) (.tmp 31) rfl (w1.heap.size) 1 #[.int .i64 m1, .int .i64 m2, .int .i64 m3, .string m4, .string m5, .string m6] rfl rfl hTh.out infoCmd6 (by simp [Value.oneCell']) ?_; obtain ⟨U, hU⟩ : ∃ U, U = w4.setCells w1.heap.size 1 [.int .i64 m1, .int .i64 m2, .int .i64 m3, .string m4, .string m5, .string m6] := ⟨_, rfl⟩; rw [show w4.setCells w1.heap.size 1 (#[.int .i64 m1, .int .i64 m2, .int .i64 m3, .string m4, .string m5, .string m6] : Array Value).toList = U from hU.symm]; have hzU : Hid (U.heap.size = w4.heap.size) := (by rw [hU]; exact size_setC _ _ _); have HEU : Hid (Blk U w1.heap.size #[.int .i64 TN, .int .i64 m1, .int .i64 m2, .int .i64 m3, .string m4, .string m5, .string m6] 87) := (by rw [hU]; exact (((((HE4.out.set 1 _).set 2 _).set 3 _).set 4 _).set 5 _).set 6 _); have HSU : Hid (Src U g v l KN) := (by rw [hU]; exact srcCells HS4.out HE4.out (by omega)); have HGU : Hid (w.grownBy U (some g)) := (by rw [hU]; exact growCells HG4.out (by omega)); have HOU : Hid (OwnE U w.heap.size (.slice la j lc) L) := (by rw [hU]; exact HO4.out.block fun q hq => setC_other (by have := hol.out q hq; omega) _ _ _); clear hU)
              | (have hBA := HEU; refine gate_ld 87 (.tmp 9) rfl ?_; clear hBA; refine wpl_load_blk rfl 87 (.tmp 9) rfl (w1.heap.size) rfl HEU.out Tryz.underlying87 rfl infoEnt7 rfl ?_; have HEA : Hid (EntAt (U.alloc (.cells #[.int .i64 TN, .int .i64 m1, .int .i64 m2, .int .i64 m3, .string m4, .string m5, .string m6] 87)) U.heap.size 0 E) := (by rw [HE.out]; exact entAt_at U ⟨TN, m1, m2, m3, m4, m5, m6⟩))
              | (at_builtin; refine wpl_appendE rfl (.tmp 33) (.tmp 35) rfl E hfit (OwnE.below HOU.out ((Below.refl _ _).alloc (Nat.le_refl _) _)) rfl U.heap.size 1 HEA.out rfl (by rw [HLen.out]; omega) (by have hzz := HGU.out.size; simp; omega) ?_; intro v1 w9 ho9 hg9; have HO9 : Hid (OwnE w9 w.heap.size v1 (L ++ [E])) := ho9; have HS9 : Hid (Src w9 g v l KN) := srcGrew (HSU.out.alloc _) HS.out.2.2.1 (by have hzz := HGU.out.size; simp; omega) hg9 HOU.out hg0; have HG9 : Hid (w.grownBy w9 (some g)) := growOwn (grownBy_trans HGU.out (World.grownBy_alloc _ _ _)) hg9 HOU.out; clear ho9 hg9))
            go_roundw
            case rel => exact ⟨j + 1, by omega, by go_num, by rw [HD.out], by rw [HD.out]; exact HO9.out, by rw [HD.out]; exact HS9.out, HG9.out⟩
            case measure => simp [intOf]; omega
        · skip
          clear hT5
          by_cases h6 : p6 = 0
          · subst h6
            have HE : Hid (E = ⟨TN, 0, 0, 0, ⟨#[]⟩, ⟨#[]⟩, ⟨#[]⟩⟩) := (show E = ⟨TN, 0, 0, 0, ⟨#[]⟩, ⟨#[]⟩, ⟨#[]⟩⟩ by rw [hE6, if_pos rfl])
            obtain rfl : KN = K + 1 + 1 := by rw [hK6, if_pos rfl]
            clear hE6 hK6
            go_wp2_with (first
              | (go_at_call 23; clear y1; refine Calls.mono HP5.out ?_; rintro e w1 ⟨rfl, hs1, hg1⟩; have z1 := hg1.size; have HS1 : Hid (Src w1 g v l (K + 1)) := hs1; have HG1 : Hid (w.grownBy w1 (some g)) := grownBy_trans HGR.out hg1; have HO1 : Hid (OwnE w1 w.heap.size (.slice la j lc) L) := HO.out.grown hg1 hg0; clear hs1 hg1)
              | (have hBA := HS1; refine gate_st 87 (.tmp 9) _ rfl ?_; clear hBA; refine wpl_store_last rfl 87 (.tmp 9) _ rfl (w1.heap.size) rfl rfl rfl infoEnt7 rfl rfl (by simp [Value.oneCell']) ?_; obtain ⟨W2, hW2⟩ : ∃ W2, W2 = w1.alloc (.cells #[.int .i64 TN, .int .i64 0, .int .i64 0, .int .i64 0, .string ⟨#[]⟩, .string ⟨#[]⟩, .string ⟨#[]⟩] 87) := ⟨_, rfl⟩; rw [← hW2]; have HS2 : Hid (Src W2 g v l (K + 1)) := (by rw [hW2]; exact HS1.out.alloc _); have HE2 : Hid (Blk W2 w1.heap.size #[.int .i64 TN, .int .i64 0, .int .i64 0, .int .i64 0, .string ⟨#[]⟩, .string ⟨#[]⟩, .string ⟨#[]⟩] 87) := (by rw [hW2]; exact Blk.new _ _ _); have HG2 : Hid (w.grownBy W2 (some g)) := (by rw [hW2]; exact grownBy_trans HG1.out (World.grownBy_alloc _ _ _)); have HO2 : Hid (OwnE W2 w.heap.size (.slice la j lc) L) := (by rw [hW2]; exact HO1.out.below ((Below.refl _ _).alloc (Nat.le_refl _) _)); have hol : Hid (∀ q, (Value.slice la j lc).ownBlock = some q → q < w1.heap.size) := (fun q hq => (HO1.out.2.lt q hq).2); clear hW2)
              | (go_at_call 23; refine Calls.mono (HP6 _ HS2.out).out ?_; rintro e w3 ⟨rfl, hs3, hg3⟩; have z3 := hg3.size; have z2 := HE2.out.lt; have HS3 : Hid (Src w3 g v l (K + 1 + 1)) := hs3; have HE3 : Hid (Blk w3 w1.heap.size #[.int .i64 TN, .int .i64 0, .int .i64 0, .int .i64 0, .string ⟨#[]⟩, .string ⟨#[]⟩, .string ⟨#[]⟩] 87) := HE2.out.grown hg3 (by omega); have HG3 : Hid (w.grownBy w3 (some g)) := grownBy_trans HG2.out hg3; have HO3 : Hid (OwnE w3 w.heap.size (.slice la j lc) L) := HO2.out.grown hg3 hg0; clear hs3 hg3)
              | (have hBA := HE3; refine gate_ld 87 (.tmp 9) rfl ?_; clear hBA; refine wpl_load_blk rfl 87 (.tmp 9) rfl (w1.heap.size) rfl HE3.out Tryz.underlying87 rfl infoEnt7 rfl ?_; have HEA : Hid (EntAt (w3.alloc (.cells #[.int .i64 TN, .int .i64 0, .int .i64 0, .int .i64 0, .string ⟨#[]⟩, .string ⟨#[]⟩, .string ⟨#[]⟩] 87)) w3.heap.size 0 E) := (by rw [HE.out]; exact entAt_at w3 ⟨TN, 0, 0, 0, ⟨#[]⟩, ⟨#[]⟩, ⟨#[]⟩⟩))
              | (at_builtin; refine wpl_appendE rfl (.tmp 33) (.tmp 35) rfl E hfit (OwnE.below HO3.out ((Below.refl _ _).alloc (Nat.le_refl _) _)) rfl w3.heap.size 1 HEA.out rfl (by rw [HLen.out]; omega) (by have hzz := HG3.out.size; simp; omega) ?_; intro v1 w9 ho9 hg9; have HO9 : Hid (OwnE w9 w.heap.size v1 (L ++ [E])) := ho9; have HS9 : Hid (Src w9 g v l (K + 1 + 1)) := srcGrew (HS3.out.alloc _) HS.out.2.2.1 (by have hzz := HG3.out.size; simp; omega) hg9 HO3.out hg0; have HG9 : Hid (w.grownBy w9 (some g)) := growOwn (grownBy_trans HG3.out (World.grownBy_alloc _ _ _)) hg9 HO3.out; clear ho9 hg9))
            go_roundw
            case rel => exact ⟨j + 1, by omega, by go_num, by rw [HD.out], by rw [HD.out]; exact HO9.out, by rw [HD.out]; exact HS9.out, HG9.out⟩
            case measure => simp [intOf]; omega
          · have n6 : ((p6 : Int) != 0) = true := by rw [bne_iff_ne]; omega
            have HE : Hid (E = ⟨TN, m1, m2, m3, m4, m5, m6⟩) := (show E = ⟨TN, m1, m2, m3, m4, m5, m6⟩ by rw [hE6, if_neg h6])
            obtain rfl : KN = KC := by rw [hK6, if_neg h6]
            clear hE6 hK6
            go_wp2_with (first
              | (go_at_call 23; clear y1; refine Calls.mono HP5.out ?_; rintro e w1 ⟨rfl, hs1, hg1⟩; have z1 := hg1.size; have HS1 : Hid (Src w1 g v l (K + 1)) := hs1; have HG1 : Hid (w.grownBy w1 (some g)) := grownBy_trans HGR.out hg1; have HO1 : Hid (OwnE w1 w.heap.size (.slice la j lc) L) := HO.out.grown hg1 hg0; clear hs1 hg1)
              | (have hBA := HS1; refine gate_st 87 (.tmp 9) _ rfl ?_; clear hBA; refine wpl_store_last rfl 87 (.tmp 9) _ rfl (w1.heap.size) rfl rfl rfl infoEnt7 rfl rfl (by simp [Value.oneCell']) ?_; obtain ⟨W2, hW2⟩ : ∃ W2, W2 = w1.alloc (.cells #[.int .i64 TN, .int .i64 0, .int .i64 0, .int .i64 0, .string ⟨#[]⟩, .string ⟨#[]⟩, .string ⟨#[]⟩] 87) := ⟨_, rfl⟩; rw [← hW2]; have HS2 : Hid (Src W2 g v l (K + 1)) := (by rw [hW2]; exact HS1.out.alloc _); have HE2 : Hid (Blk W2 w1.heap.size #[.int .i64 TN, .int .i64 0, .int .i64 0, .int .i64 0, .string ⟨#[]⟩, .string ⟨#[]⟩, .string ⟨#[]⟩] 87) := (by rw [hW2]; exact Blk.new _ _ _); have HG2 : Hid (w.grownBy W2 (some g)) := (by rw [hW2]; exact grownBy_trans HG1.out (World.grownBy_alloc _ _ _)); have HO2 : Hid (OwnE W2 w.heap.size (.slice la j lc) L) := (by rw [hW2]; exact HO1.out.below ((Below.refl _ _).alloc (Nat.le_refl _) _)); have hol : Hid (∀ q, (Value.slice la j lc).ownBlock = some q → q < w1.heap.size) := (fun q hq => (HO1.out.2.lt q hq).2); clear hW2)
              | (go_at_call 23; refine Calls.mono (HP6 _ HS2.out).out ?_; rintro e w3 ⟨rfl, hs3, hg3⟩; have z3 := hg3.size; have z2 := HE2.out.lt; have HS3 : Hid (Src w3 g v l (K + 1 + 1)) := hs3; have HE3 : Hid (Blk w3 w1.heap.size #[.int .i64 TN, .int .i64 0, .int .i64 0, .int .i64 0, .string ⟨#[]⟩, .string ⟨#[]⟩, .string ⟨#[]⟩] 87) := HE2.out.grown hg3 (by omega); have HG3 : Hid (w.grownBy w3 (some g)) := grownBy_trans HG2.out hg3; have HO3 : Hid (OwnE w3 w.heap.size (.slice la j lc) L) := HO2.out.grown hg3 hg0; clear hs3 hg3)
              | (go_at_call 30; refine Calls.mono (HCm _ HS3.out).out ?_; rintro e w4 ⟨rfl, hs4, hg4⟩; have z4 := hg4.size; have z4b := HE3.out.lt; have HS4 : Hid (Src w4 g v l KN) := hs4; have HE4 : Hid (Blk w4 w1.heap.size #[.int .i64 TN, .int .i64 0, .int .i64 0, .int .i64 0, .string ⟨#[]⟩, .string ⟨#[]⟩, .string ⟨#[]⟩] 87) := HE3.out.grown hg4 (by omega); have HG4 : Hid (w.grownBy w4 (some g)) := grownBy_trans HG3.out hg4; have HO4 : Hid (OwnE w4 w.heap.size (.slice la j lc) L) := HO3.out.grown hg4 hg0; have hTh : Hid (w4.there w1.heap.size 1 6) := there_part HE4.out.there 1 6 (by simp); clear hs4 hg4)
              | (have hBA := HE4; refine gate_store 33 (.tmp 32) (.tmp 31) rfl ?_; clear hBA; refine wpList_store_mid rfl 33 (.tmp 32) (.tmp 31) rfl (w1.heap.size) 1 #[.int .i64 m1, .int .i64 m2, .int .i64 m3, .string m4, .string m5, .string m6] rfl rfl hTh.out infoCmd6 (by simp [Value.oneCell']) ?_; obtain ⟨U, hU⟩ : ∃ U, U = w4.setCells w1.heap.size 1 [.int .i64 m1, .int .i64 m2, .int .i64 m3, .string m4, .string m5, .string m6] := ⟨_, rfl⟩; rw [show w4.setCells w1.heap.size 1 (#[.int .i64 m1, .int .i64 m2, .int .i64 m3, .string m4, .string m5, .string m6] : Array Value).toList = U from hU.symm]; have hzU : Hid (U.heap.size = w4.heap.size) := (by rw [hU]; exact size_setC _ _ _); have HEU : Hid (Blk U w1.heap.size #[.int .i64 TN, .int .i64 m1, .int .i64 m2, .int .i64 m3, .string m4, .string m5, .string m6] 87) := (by rw [hU]; exact (((((HE4.out.set 1 _).set 2 _).set 3 _).set 4 _).set 5 _).set 6 _); have HSU : Hid (Src U g v l KN) := (by rw [hU]; exact srcCells HS4.out HE4.out (by omega)); have HGU : Hid (w.grownBy U (some g)) := (by rw [hU]; exact growCells HG4.out (by omega)); have HOU : Hid (OwnE U w.heap.size (.slice la j lc) L) := (by rw [hU]; exact HO4.out.block fun q hq => setC_other (by have := hol.out q hq; omega) _ _ _); clear hU)
              | (have hBA := HEU; refine gate_ld 87 (.tmp 9) rfl ?_; clear hBA; refine wpl_load_blk rfl 87 (.tmp 9) rfl (w1.heap.size) rfl HEU.out Tryz.underlying87 rfl infoEnt7 rfl ?_; have HEA : Hid (EntAt (U.alloc (.cells #[.int .i64 TN, .int .i64 m1, .int .i64 m2, .int .i64 m3, .string m4, .string m5, .string m6] 87)) U.heap.size 0 E) := (by rw [HE.out]; exact entAt_at U ⟨TN, m1, m2, m3, m4, m5, m6⟩))
              | (at_builtin; refine wpl_appendE rfl (.tmp 33) (.tmp 35) rfl E hfit (OwnE.below HOU.out ((Below.refl _ _).alloc (Nat.le_refl _) _)) rfl U.heap.size 1 HEA.out rfl (by rw [HLen.out]; omega) (by have hzz := HGU.out.size; simp; omega) ?_; intro v1 w9 ho9 hg9; have HO9 : Hid (OwnE w9 w.heap.size v1 (L ++ [E])) := ho9; have HS9 : Hid (Src w9 g v l KN) := srcGrew (HSU.out.alloc _) HS.out.2.2.1 (by have hzz := HGU.out.size; simp; omega) hg9 HOU.out hg0; have HG9 : Hid (w.grownBy w9 (some g)) := growOwn (grownBy_trans HGU.out (World.grownBy_alloc _ _ _)) hg9 HOU.out; clear ho9 hg9))
            go_roundw
            case rel => exact ⟨j + 1, by omega, by go_num, by rw [HD.out], by rw [HD.out]; exact HO9.out, by rw [HD.out]; exact HS9.out, HG9.out⟩
            case measure => simp [intOf]; omega
      · subst h5
        obtain rfl : TN = TT + 1 := by rw [hT5, if_pos ⟨rfl, h5'⟩]
        skip
        clear hT5
        by_cases h6 : p6 = 0
        · subst h6
          have HE : Hid (E = ⟨(TT + 1), 0, 0, 0, ⟨#[]⟩, ⟨#[]⟩, ⟨#[]⟩⟩) := (show E = ⟨(TT + 1), 0, 0, 0, ⟨#[]⟩, ⟨#[]⟩, ⟨#[]⟩⟩ by rw [hE6, if_pos rfl])
          obtain rfl : KN = K + 1 + 1 := by rw [hK6, if_pos rfl]
          clear hE6 hK6
          go_wp2_with (first
            | (go_at_call 23; clear y1; refine Calls.mono HP5.out ?_; rintro e w1 ⟨rfl, hs1, hg1⟩; have z1 := hg1.size; have HS1 : Hid (Src w1 g v l (K + 1)) := hs1; have HG1 : Hid (w.grownBy w1 (some g)) := grownBy_trans HGR.out hg1; have HO1 : Hid (OwnE w1 w.heap.size (.slice la j lc) L) := HO.out.grown hg1 hg0; clear hs1 hg1)
            | (have hBA := HS1; refine gate_st 87 (.tmp 9) _ rfl ?_; clear hBA; refine wpl_store_last rfl 87 (.tmp 9) _ rfl (w1.heap.size) rfl rfl rfl infoEnt7 rfl rfl (by simp [Value.oneCell']) ?_; obtain ⟨W2, hW2⟩ : ∃ W2, W2 = w1.alloc (.cells #[.int .i64 (TT + 1), .int .i64 0, .int .i64 0, .int .i64 0, .string ⟨#[]⟩, .string ⟨#[]⟩, .string ⟨#[]⟩] 87) := ⟨_, rfl⟩; rw [← hW2]; have HS2 : Hid (Src W2 g v l (K + 1)) := (by rw [hW2]; exact HS1.out.alloc _); have HE2 : Hid (Blk W2 w1.heap.size #[.int .i64 (TT + 1), .int .i64 0, .int .i64 0, .int .i64 0, .string ⟨#[]⟩, .string ⟨#[]⟩, .string ⟨#[]⟩] 87) := (by rw [hW2]; exact Blk.new _ _ _); have HG2 : Hid (w.grownBy W2 (some g)) := (by rw [hW2]; exact grownBy_trans HG1.out (World.grownBy_alloc _ _ _)); have HO2 : Hid (OwnE W2 w.heap.size (.slice la j lc) L) := (by rw [hW2]; exact HO1.out.below ((Below.refl _ _).alloc (Nat.le_refl _) _)); have hol : Hid (∀ q, (Value.slice la j lc).ownBlock = some q → q < w1.heap.size) := (fun q hq => (HO1.out.2.lt q hq).2); clear hW2)
            | (go_at_call 23; refine Calls.mono (HP6 _ HS2.out).out ?_; rintro e w3 ⟨rfl, hs3, hg3⟩; have z3 := hg3.size; have z2 := HE2.out.lt; have HS3 : Hid (Src w3 g v l (K + 1 + 1)) := hs3; have HE3 : Hid (Blk w3 w1.heap.size #[.int .i64 (TT + 1), .int .i64 0, .int .i64 0, .int .i64 0, .string ⟨#[]⟩, .string ⟨#[]⟩, .string ⟨#[]⟩] 87) := HE2.out.grown hg3 (by omega); have HG3 : Hid (w.grownBy w3 (some g)) := grownBy_trans HG2.out hg3; have HO3 : Hid (OwnE w3 w.heap.size (.slice la j lc) L) := HO2.out.grown hg3 hg0; clear hs3 hg3)
            | (have hBA := HE3; refine gate_ld 87 (.tmp 9) rfl ?_; clear hBA; refine wpl_load_blk rfl 87 (.tmp 9) rfl (w1.heap.size) rfl HE3.out Tryz.underlying87 rfl infoEnt7 rfl ?_; have HEA : Hid (EntAt (w3.alloc (.cells #[.int .i64 (TT + 1), .int .i64 0, .int .i64 0, .int .i64 0, .string ⟨#[]⟩, .string ⟨#[]⟩, .string ⟨#[]⟩] 87)) w3.heap.size 0 E) := (by rw [HE.out]; exact entAt_at w3 ⟨(TT + 1), 0, 0, 0, ⟨#[]⟩, ⟨#[]⟩, ⟨#[]⟩⟩))
            | (at_builtin; refine wpl_appendE rfl (.tmp 33) (.tmp 35) rfl E hfit (OwnE.below HO3.out ((Below.refl _ _).alloc (Nat.le_refl _) _)) rfl w3.heap.size 1 HEA.out rfl (by rw [HLen.out]; omega) (by have hzz := HG3.out.size; simp; omega) ?_; intro v1 w9 ho9 hg9; have HO9 : Hid (OwnE w9 w.heap.size v1 (L ++ [E])) := ho9; have HS9 : Hid (Src w9 g v l (K + 1 + 1)) := srcGrew (HS3.out.alloc _) HS.out.2.2.1 (by have hzz := HG3.out.size; simp; omega) hg9 HO3.out hg0; have HG9 : Hid (w.grownBy w9 (some g)) := growOwn (grownBy_trans HG3.out (World.grownBy_alloc _ _ _)) hg9 HO3.out; clear ho9 hg9))
          go_roundw
          case rel => exact ⟨j + 1, by omega, by go_num, by rw [HD.out], by rw [HD.out]; exact HO9.out, by rw [HD.out]; exact HS9.out, HG9.out⟩
          case measure => simp [intOf]; omega
        · have n6 : ((p6 : Int) != 0) = true := by rw [bne_iff_ne]; omega
          have HE : Hid (E = ⟨(TT + 1), m1, m2, m3, m4, m5, m6⟩) := (show E = ⟨(TT + 1), m1, m2, m3, m4, m5, m6⟩ by rw [hE6, if_neg h6])
          obtain rfl : KN = KC := by rw [hK6, if_neg h6]
          clear hE6 hK6
          go_wp2_with (first
            | (go_at_call 23; clear y1; refine Calls.mono HP5.out ?_; rintro e w1 ⟨rfl, hs1, hg1⟩; have z1 := hg1.size; have HS1 : Hid (Src w1 g v l (K + 1)) := hs1; have HG1 : Hid (w.grownBy w1 (some g)) := grownBy_trans HGR.out hg1; have HO1 : Hid (OwnE w1 w.heap.size (.slice la j lc) L) := HO.out.grown hg1 hg0; clear hs1 hg1)
            | (have hBA := HS1; refine gate_st 87 (.tmp 9) _ rfl ?_; clear hBA; refine wpl_store_last rfl 87 (.tmp 9) _ rfl (w1.heap.size) rfl rfl rfl infoEnt7 rfl rfl (by simp [Value.oneCell']) ?_; obtain ⟨W2, hW2⟩ : ∃ W2, W2 = w1.alloc (.cells #[.int .i64 (TT + 1), .int .i64 0, .int .i64 0, .int .i64 0, .string ⟨#[]⟩, .string ⟨#[]⟩, .string ⟨#[]⟩] 87) := ⟨_, rfl⟩; rw [← hW2]; have HS2 : Hid (Src W2 g v l (K + 1)) := (by rw [hW2]; exact HS1.out.alloc _); have HE2 : Hid (Blk W2 w1.heap.size #[.int .i64 (TT + 1), .int .i64 0, .int .i64 0, .int .i64 0, .string ⟨#[]⟩, .string ⟨#[]⟩, .string ⟨#[]⟩] 87) := (by rw [hW2]; exact Blk.new _ _ _); have HG2 : Hid (w.grownBy W2 (some g)) := (by rw [hW2]; exact grownBy_trans HG1.out (World.grownBy_alloc _ _ _)); have HO2 : Hid (OwnE W2 w.heap.size (.slice la j lc) L) := (by rw [hW2]; exact HO1.out.below ((Below.refl _ _).alloc (Nat.le_refl _) _)); have hol : Hid (∀ q, (Value.slice la j lc).ownBlock = some q → q < w1.heap.size) := (fun q hq => (HO1.out.2.lt q hq).2); clear hW2)
            | (go_at_call 23; refine Calls.mono (HP6 _ HS2.out).out ?_; rintro e w3 ⟨rfl, hs3, hg3⟩; have z3 := hg3.size; have z2 := HE2.out.lt; have HS3 : Hid (Src w3 g v l (K + 1 + 1)) := hs3; have HE3 : Hid (Blk w3 w1.heap.size #[.int .i64 (TT + 1), .int .i64 0, .int .i64 0, .int .i64 0, .string ⟨#[]⟩, .string ⟨#[]⟩, .string ⟨#[]⟩] 87) := HE2.out.grown hg3 (by omega); have HG3 : Hid (w.grownBy w3 (some g)) := grownBy_trans HG2.out hg3; have HO3 : Hid (OwnE w3 w.heap.size (.slice la j lc) L) := HO2.out.grown hg3 hg0; clear hs3 hg3)
            | (go_at_call 30; refine Calls.mono (HCm _ HS3.out).out ?_; rintro e w4 ⟨rfl, hs4, hg4⟩; have z4 := hg4.size; have z4b := HE3.out.lt; have HS4 : Hid (Src w4 g v l KN) := hs4; have HE4 : Hid (Blk w4 w1.heap.size #[.int .i64 (TT + 1), .int .i64 0, .int .i64 0, .int .i64 0, .string ⟨#[]⟩, .string ⟨#[]⟩, .string ⟨#[]⟩] 87) := HE3.out.grown hg4 (by omega); have HG4 : Hid (w.grownBy w4 (some g)) := grownBy_trans HG3.out hg4; have HO4 : Hid (OwnE w4 w.heap.size (.slice la j lc) L) := HO3.out.grown hg4 hg0; have hTh : Hid (w4.there w1.heap.size 1 6) := there_part HE4.out.there 1 6 (by simp); clear hs4 hg4)
            | (have hBA := HE4; refine gate_store 33 (.tmp 32) (.tmp 31) rfl ?_; clear hBA; refine wpList_store_mid rfl 33 (.tmp 32) (.tmp 31) rfl (w1.heap.size) 1 #[.int .i64 m1, .int .i64 m2, .int .i64 m3, .string m4, .string m5, .string m6] rfl rfl hTh.out infoCmd6 (by simp [Value.oneCell']) ?_; obtain ⟨U, hU⟩ : ∃ U, U = w4.setCells w1.heap.size 1 [.int .i64 m1, .int .i64 m2, .int .i64 m3, .string m4, .string m5, .string m6] := ⟨_, rfl⟩; rw [show w4.setCells w1.heap.size 1 (#[.int .i64 m1, .int .i64 m2, .int .i64 m3, .string m4, .string m5, .string m6] : Array Value).toList = U from hU.symm]; have hzU : Hid (U.heap.size = w4.heap.size) := (by rw [hU]; exact size_setC _ _ _); have HEU : Hid (Blk U w1.heap.size #[.int .i64 (TT + 1), .int .i64 m1, .int .i64 m2, .int .i64 m3, .string m4, .string m5, .string m6] 87) := (by rw [hU]; exact (((((HE4.out.set 1 _).set 2 _).set 3 _).set 4 _).set 5 _).set 6 _); have HSU : Hid (Src U g v l KN) := (by rw [hU]; exact srcCells HS4.out HE4.out (by omega)); have HGU : Hid (w.grownBy U (some g)) := (by rw [hU]; exact growCells HG4.out (by omega)); have HOU : Hid (OwnE U w.heap.size (.slice la j lc) L) := (by rw [hU]; exact HO4.out.block fun q hq => setC_other (by have := hol.out q hq; omega) _ _ _); clear hU)
            | (have hBA := HEU; refine gate_ld 87 (.tmp 9) rfl ?_; clear hBA; refine wpl_load_blk rfl 87 (.tmp 9) rfl (w1.heap.size) rfl HEU.out Tryz.underlying87 rfl infoEnt7 rfl ?_; have HEA : Hid (EntAt (U.alloc (.cells #[.int .i64 (TT + 1), .int .i64 m1, .int .i64 m2, .int .i64 m3, .string m4, .string m5, .string m6] 87)) U.heap.size 0 E) := (by rw [HE.out]; exact entAt_at U ⟨(TT + 1), m1, m2, m3, m4, m5, m6⟩))
            | (at_builtin; refine wpl_appendE rfl (.tmp 33) (.tmp 35) rfl E hfit (OwnE.below HOU.out ((Below.refl _ _).alloc (Nat.le_refl _) _)) rfl U.heap.size 1 HEA.out rfl (by rw [HLen.out]; omega) (by have hzz := HGU.out.size; simp; omega) ?_; intro v1 w9 ho9 hg9; have HO9 : Hid (OwnE w9 w.heap.size v1 (L ++ [E])) := ho9; have HS9 : Hid (Src w9 g v l KN) := srcGrew (HSU.out.alloc _) HS.out.2.2.1 (by have hzz := HGU.out.size; simp; omega) hg9 HOU.out hg0; have HG9 : Hid (w.grownBy w9 (some g)) := growOwn (grownBy_trans HGU.out (World.grownBy_alloc _ _ _)) hg9 HOU.out; clear ho9 hg9))
          go_roundw
          case rel => exact ⟨j + 1, by omega, by go_num, by rw [HD.out], by rw [HD.out]; exact HO9.out, by rw [HD.out]; exact HS9.out, HG9.out⟩
          case measure => simp [intOf]; omega
    · obtain rfl : j = n := by omega
      go_wp2
      go_ret
      exact ⟨_, rfl, ho, hs, hgr⟩
end Go.Proofs.YtafmjckpbcijoaaGreatDoor

/-
  A region that draws its order, by an invariant: each operation is looked at once, whatever order is drawn.
-/
namespace Go.Proofs.YtafmjckpbcijoaaGreatDoor
open Go.RowKit
set_option linter.unusedVariables false

theorem count_set : ∀ (l : List Bool) (i : Nat), l[i]? = some false → (l.set i true).count false + 1 = l.count false
  | [], i, h => by simp at h
  | b :: l, 0, h => by
    simp at h
    subst h
    simp
  | b :: l, i + 1, h => by
    have := count_set l i (by simpa using h)
    simp only [List.set_cons_succ, List.count_cons]
    omega

theorem ready_mem {md : Region.Mode} {ops : Array Oper} {L : Array Bool} {i : Nat} (hs : L.size = ops.size) (h : i ∈ Region.ready md ops L) : i < ops.size ∧ L[i]? = some false := by
  have h1 := List.mem_filter.1 h
  have hi : i < ops.size := List.mem_range.1 h1.1
  refine ⟨hi, ?_⟩
  have h2 := h1.2
  simp only [Bool.and_eq_true] at h2
  have h3 := h2.1
  rw [Array.getElem?_eq_getElem (by omega)]
  simp [Array.getD, show i < L.size by omega] at h3
  simp [h3]

/-- which operations must have been done ahead of operation i -/
def needs (md : Region.Mode) (ops : Array Oper) (i : Nat) : List Nat := ((ops[i]?).map fun o => (o.after.toList.filter (Region.binds md)).map (·.on)).getD []
theorem ready_needs {md : Region.Mode} {ops : Array Oper} {L : Array Bool} {i j : Nat} (h : i ∈ Region.ready md ops L) (hj : j ∈ needs md ops i) : L.getD j false = true := by
  have h1 := List.mem_filter.1 h
  have hi : i < ops.size := List.mem_range.1 h1.1
  have h2 := h1.2
  simp only [Bool.and_eq_true] at h2
  have h3 := h2.2
  unfold needs at hj
  rw [Array.getElem?_eq_getElem hi] at h3 hj
  simp only [Option.map_some, Option.getD_some] at h3 hj
  obtain ⟨e, he, rfl⟩ := List.mem_map.1 hj
  obtain ⟨he1, he2⟩ := List.mem_filter.1 he
  have h4 := (Array.all_eq_true_iff_forall_mem.1 h3) e (by simpa using he1)
  simpa [he2] using h4

theorem wpAny_inv {P : Program} {ops : Array Oper} {Q : Exit → Act → World → Prop} {md : Region.Mode} (J : Array Bool → Act → World → Prop)
    (hstep : ∀ L a w i, L.size = ops.size → i ∈ Region.ready md ops L → J L a w → wpOp P ops Q i (J (L.setIfInBounds i true)) a w)
    (hend : ∀ L a w, L.size = ops.size → Region.ready md ops L = [] → J L a w → Q .normal a w) :
    ∀ (fuel : Nat) (L : Array Bool) (a : Act) (w : World), L.size = ops.size → L.toList.count false ≤ fuel → J L a w → wpAny P md ops Q fuel L a w
  | 0, L, a, w, hs, hc, hJ => by
    have hr : Region.ready md ops L = [] := by
      cases h : Region.ready md ops L with
      | nil => rfl
      | cons x xs =>
        obtain ⟨h1, h2⟩ := ready_mem (md := md) hs (show x ∈ Region.ready md ops L by rw [h]; simp)
        have : false ∈ L.toList := List.mem_iff_getElem?.2 ⟨x, by simpa using h2⟩
        have := List.count_pos_iff.2 this
        omega
    exact ⟨hr, hend L a w hs hr hJ⟩
  | fuel + 1, L, a, w, hs, hc, hJ => by
    refine ⟨fun h => hend L a w hs h hJ, fun i hi => ?_⟩
    obtain ⟨h1, h2⟩ := ready_mem hs hi
    refine wpOp_mono (fun a' w' hJ' => wpAny_inv J hstep hend fuel _ a' w' (by simpa using hs) ?_ hJ') (hstep L a w i hs hi hJ)
    have := count_set L.toList i (by simpa using h2)
    simp only [Array.toList_setIfInBounds]
    omega

theorem wp_region_inv {P : Program} {id : Nat} {ops : Array Oper} {Q : Exit → Act → World → Prop} {a : Act} {w : World} (hm : P.follows .mixedOrders = true) (J : Array Bool → Act → World → Prop)
    (h0 : J (Array.replicate ops.size false) a w.drew)
    (hstep : ∀ L a w i, L.size = ops.size → i ∈ Region.ready .any ops L → J L a w → wpOp P ops Q i (J (L.setIfInBounds i true)) a w)
    (hend : ∀ L a w, L.size = ops.size → Region.ready .any ops L = [] → J L a w → Q .normal a w) : (Code.region id ops true).wp P Q a w :=
  wp_region_any hm (wpAny_inv J hstep hend ops.size _ a _ (by simp) (by simp) h0)

theorem wp_named {P : Program} {c : Code} {Q : Exit → Act → World → Prop} {a : Act} {w : World} (h : ∀ a0, a0 = a → c.wp P Q a0 w) : c.wp P Q a w := h a rfl

theorem wpOp_plain {P : Program} {ops : Array Oper} {Q : Exit → Act → World → Prop} {i : Nat} {K : Act → World → Prop} {a : Act} {w : World} {o : Oper} (hi : ops[i]? = some o) (hg : o.guard = none) (h : o.wp P a w K Q) : wpOp P ops Q i K a w := by
  unfold wpOp
  rw [hi]
  simp only [Region.wanted, hg, if_true]
  exact .inl h

theorem getD_set (L : Array Bool) (i j : Nat) (hi : i < L.size) : (L.setIfInBounds i true).getD j false = (decide (j = i) || L.getD j false) := by
  simp only [Array.getD_eq_getD_getElem?, Array.getElem?_setIfInBounds]
  by_cases h : i = j
  · subst h; simp [hi]
  · have h' : ¬ j = i := fun e => h e.symm
    simp [h, h']

theorem keepBit {L : Array Bool} {i j : Nat} (h : (L.setIfInBounds i true).getD j false = true) (hi : i < L.size) (hne : j ≠ i) : L.getD j false = true := by
  rw [getD_set L i j hi] at h
  simpa [hne] using h
theorem setBit {L : Array Bool} {i j : Nat} (h : L.getD j false = true) (hi : i < L.size) : (L.setIfInBounds i true).getD j false = true := by
  rw [getD_set L i j hi, h]; simp
theorem setSelf {L : Array Bool} {i : Nat} (hi : i < L.size) : (L.setIfInBounds i true).getD i false = true := by
  rw [getD_set L i i hi]; simp
theorem readyBit {md : Region.Mode} {ops : Array Oper} {L : Array Bool} {i : Nat} (hs : L.size = ops.size) (h : i ∈ Region.ready md ops L) (hd : L.getD i false = true) : False := by
  have hn := (ready_mem hs h).2
  rw [Array.getD_eq_getD_getElem?, hn] at hd
  simp at hd
theorem noBit {n j : Nat} (h : (Array.replicate n false).getD j false = true) : False := by
  simp only [Array.getD_eq_getD_getElem?, Array.getElem?_replicate] at h
  split at h <;> simp at h
/-- nothing is left tq be done: all is done, where an operation waits only for ones ahead of it -/
theorem ready_nil {md : Region.Mode} {ops : Array Oper} {L : Array Bool} (hs : L.size = ops.size) (h : Region.ready md ops L = []) (hord : (List.range ops.size).all (fun i => (needs md ops i).all (· < i)) = true) : ∀ j, j < ops.size → L.getD j false = true := by
  intro j
  induction j using Nat.strongRecOn with
  | _ j ih =>
    intro hj
    cases hb : L.getD j false with
    | true => rfl
    | false =>
      exfalso
      have hm : j ∈ Region.ready md ops L := by
        refine List.mem_filter.2 ⟨List.mem_range.2 hj, ?_⟩
        have hjL : j < L.size := by omega
        rw [Array.getElem?_eq_getElem hj]
        simp only [Option.map_some, Option.getD_some, Bool.and_eq_true]
        refine ⟨?_, Array.all_eq_true_iff_forall_mem.2 fun e he => ?_⟩
        · simp only [Array.getD, hjL, dif_pos] at hb ⊢
          simpa using hb
        · cases hbd : Region.binds md e with
          | false => rfl
          | true =>
            have hn : e.on ∈ needs md ops j := by
              unfold needs
              rw [Array.getElem?_eq_getElem hj]
              simp only [Option.map_some, Option.getD_some]
              exact List.mem_map.2 ⟨e, List.mem_filter.2 ⟨by simpa using he, hbd⟩, rfl⟩
            have hl : e.on < j := by
              have h1 := List.all_eq_true.1 hord j (List.mem_range.2 hj)
              simpa using List.all_eq_true.1 h1 e.on hn
            simp [ih e.on hl (by omega)]
      rw [h] at hm
      cases hm

theorem wp_call_go {a : Act} {w : World} {K : Act → World → Prop} {Q : Exit → Act → World → Prop} {o : Oper} {N : FuncId} {ags : Array Operand} {ts : Array TypeId} (ho : o.op = .call ⟨.value (.func N), ags, ts⟩)
    (hN : ∀ args w, (callFunc N args).run Tryz.prog w = .ok (.enter N args) w) (args : Array Value) (hA : ags.map a.eval = args)
    (hc : Calls Tryz.prog N args w fun e w' => ∃ v, e = .returned v ∧ K (a.put o.dst v) w') : o.wp Tryz.prog a w K Q := by
  subst hA
  unfold Oper.wp execOp
  simp only [ho, resolve, Act.eval, Deferred.ofValue, invoke]
  go_simp
  exact hc.mono fun e w' ⟨v, hv, hk⟩ => by subst hv; exact hk

theorem wp_value_go {a : Act} {w : World} {K : Act → World → Prop} {Q : Exit → Act → World → Prop} {o : Oper} {v : Value} (he : (execOp a.eval o).run Tryz.prog w = .ok (.value v) w) (h : K (a.put o.dst v) w) : o.wp Tryz.prog a w K Q := by
  unfold Oper.wp
  rw [he]
  exact h

theorem wp_not_go {a : Act} {w : World} {K : Act → World → Prop} {Q : Exit → Act → World → Prop} {o : Oper} (x : Operand) (ho : o.op = .unOp .not 4 x) {b : Bool} (hx : a.eval x = .bool b) (h : K (a.put o.dst (.bool !b)) w) : o.wp Tryz.prog a w K Q := by
  unfold Oper.wp execOp
  simp only [ho, hx]
  go_simp
  exact h

theorem wp_move_go {a : Act} {w : World} {K : Act → World → Prop} {Q : Exit → Act → World → Prop} {o : Oper} (x : Operand) (ho : o.op = .move x ∨ o.op = .assign x) (h : K (a.put o.dst (a.eval x)) w) : o.wp Tryz.prog a w K Q := by
  unfold Oper.wp execOp
  rcases ho with ho | ho <;> simp only [ho, Sem.run_pure] <;> exact h

theorem wp_alloc_go {a : Act} {w : World} {K : Act → World → Prop} {Q : Exit → Act → World → Prop} {o : Oper} (T : TypeId) (Z : Array Value) (ho : o.op = .alloc T)
    (hz : ∀ u : World, (Instr.alloc T true (.tuple #[])).run Tryz.prog u = .ok (.pointer (some ⟨u.heap.size, 0, none⟩)) (u.alloc (.cells Z T)))
    (h : K (a.put o.dst (.pointer (some ⟨w.heap.size, 0, none⟩))) (w.alloc (.cells Z T))) : o.wp Tryz.prog a w K Q := by
  unfold Oper.wp execOp
  simp only [ho, Sem.run_bind, hz, Result.andThen_ok, Sem.run_pure]
  exact h

/-- the frame a0, but for the slots ds, which hold x -/
def frame (a0 : Act) (ds : List Nat) (x : Nat → Value) : Act := { a0 with tmps := (a0.tmps.toList.zipIdx.map fun p => if ds.contains p.2 then x p.2 else p.1).toArray }
theorem frame_get (a0 : Act) (ds : List Nat) (x : Nat → Value) (t : Nat) : (frame a0 ds x).tmps[t]? = a0.tmps[t]?.map fun v => if ds.contains t then x t else v := by
  simp only [frame, List.getElem?_toArray, List.getElem?_map, List.getElem?_zipIdx, Array.getElem?_toList, Option.map_map]
  cases a0.tmps[t]? <;> simp
theorem frame_size (a0 : Act) (ds : List Nat) (x : Nat → Value) : (frame a0 ds x).tmps.size = a0.tmps.size := by simp [frame]
theorem frame_eval (a0 : Act) (ds : List Nat) (x : Nat → Value) (t : Nat) (h : ds.contains t = false) : (frame a0 ds x).eval (.tmp t) = a0.eval (.tmp t) := by
  have := frame_get a0 ds x t
  simp only [Act.eval, Array.getD_eq_getD_getElem?, this, h]
  cases a0.tmps[t]? <;> simp
theorem frame_eval_in (a0 : Act) (ds : List Nat) (x : Nat → Value) (t : Nat) (h : ds.contains t = true) (hlt : t < a0.tmps.size) : (frame a0 ds x).eval (.tmp t) = x t := by
  have := frame_get a0 ds x t
  rw [Array.getElem?_eq_getElem hlt] at this
  simp only [Act.eval, Array.getD_eq_getD_getElem?, this, h]
  simp
def upd (x : Nat → Value) (k : Nat) (v : Value) : Nat → Value := fun t => if t = k then v else x t
theorem upd_same (x : Nat → Value) (k : Nat) (v : Value) : upd x k v k = v := by simp [upd]
theorem upd_ne (x : Nat → Value) (k t : Nat) (v : Value) (h : t ≠ k) : upd x k v t = x t := by simp [upd, h]
theorem act_ext {a b : Act} (h1 : ∀ t : Nat, a.tmps[t]? = b.tmps[t]?) (h2 : a.defers = b.defers) : a = b := by
  obtain ⟨t1, d1⟩ := a
  obtain ⟨t2, d2⟩ := b
  have : t1 = t2 := Array.ext_getElem? h1
  subst this
  subst h2
  rfl
theorem frame_put (a0 : Act) (ds : List Nat) (x : Nat → Value) (k : Nat) (v : Value) (h : ds.contains k = true) : (frame a0 ds x).put (some k) v = frame a0 ds (upd x k v) := by
  refine act_ext (fun t => ?_) rfl
  rw [frame_get]
  show ((frame a0 ds x).tmps.setIfInBounds k v)[t]? = _
  rw [Array.getElem?_setIfInBounds]
  by_cases e : k = t
  · subst e
    rw [frame_size]
    by_cases hl : k < a0.tmps.size
    · rw [if_pos rfl, if_pos hl, Array.getElem?_eq_getElem hl]
      simp only [Option.map_some, h, if_true, upd]
    · rw [if_pos rfl, if_neg hl, Array.getElem?_eq_none (by omega)]
      rfl
  · rw [if_neg e, frame_get]
    have e' : ¬ t = k := fun h => e h.symm
    simp [upd, e']
theorem frame_put_none (a0 : Act) (ds : List Nat) (x : Nat → Value) (v : Value) : (frame a0 ds x).put none v = frame a0 ds x := rfl
theorem frame_self (a0 : Act) (ds : List Nat) : a0 = frame a0 ds (fun t => a0.tmps.getD t undef) := by
  refine act_ext (fun t => ?_) rfl
  rw [frame_get]
  cases h : a0.tmps[t]? with
  | none => rfl
  | some v => simp [Array.getD_eq_getD_getElem?, h]
end Go.Proofs.YtafmjckpbcijoaaGreatDoor

/-
  Draws: what serves all of them.
-/
namespace Go.Proofs.YtafmjckpbcijoaaGreatDoor
open Go.RowKit
set_option linter.unusedVariables false
set_option linter.unusedSimpArgs false

def setTE (T : Int) (e : Ent) : Ent := ⟨T, e.cl, e.sq, e.op, e.k, e.v, e.o⟩
def clipE (T : Int) (e : Ent) : Ent := if T < e.t then setTE T e else e
theorem Dr.pick1 {w0 w : World} {g k : Nat} {v : Value} {l : List Int} {F : List (Nat × Array Value × TypeId)} (h : Dr w0 w g v l k F) (n : Nat) (hL : l.length ≤ 1048576) (hk : k ≤ 900000000) (hn : 0 < n) (hN : n ≤ 256) :
    Calls Tryz.prog 23 #[.pointer (some ⟨g, 0, none⟩), .int .i64 n] w fun e w' => e = .returned (.int .i64 (pickV l k n : Nat)) ∧ Dr w0 w' g v l (k + 1) F := by
  have := h.pick n hL hk hn (by omega)
  rwa [show pickK n = 1 by unfold pickK; rw [if_pos hN]] at this

theorem Dr.pickG {w0 w : World} {g k : Nat} {v : Value} {l : List Int} {F : List (Nat × Array Value × TypeId)} (h : Dr w0 w g v l k F) (n : Nat) (hL : l.length ≤ 1048576) (hk : k ≤ 900000000) (hn : 0 < n) (hN : n ≤ 256) :
    Calls Tryz.prog 23 #[.pointer (some ⟨g, 0, none⟩), .int .i64 n] w fun e w' => e = .returned (.int .i64 (pickV l k n : Nat)) ∧ Dr w0 w' g v l (k + 1) F ∧ w.grownBy w' (some g) := by
  have := l1pick_any g w v l k n hL hk hn (by omega) h.src
  rw [show pickK n = 1 by unfold pickK; rw [if_pos hN]] at this
  exact this.mono fun e w' ⟨h1, h2, h3⟩ => ⟨h1, h.call h2 h3, h3⟩
theorem esAt {w : World} {a : Option Addr} {cap : Nat} {l : List Ent} (h : Es w (.slice a l.length cap) l) {k : Nat} (hk : k < l.length) : ∃ b off, a = some ⟨b, off, none⟩ ∧ EntAt w b (off + k * 7) l[k] := by
  obtain ⟨_, _, a', cap', e, hc⟩ := h
  injection e with e1 _ _
  subst e1
  obtain ⟨b, off, rfl, hj⟩ := hc k hk
  exact ⟨b, off, rfl, hj k hk⟩
theorem ownAt {w : World} {B n cap : Nat} {a : Option Addr} {l : List Ent} (h : OwnE w B (.slice a n cap) l) (hn : n = l.length) {k : Nat} (hk : k < l.length) (hm : n ≤ maxLen) : ∃ q, a = some ⟨q, 0, none⟩ ∧ EntAt w q (k * 7) l[k] ∧ ∀ j, w.frozen? ⟨q, j, none⟩ = false := by
  subst hn
  obtain ⟨q, cap', e⟩ := h.shape' (by omega)
  injection e with e1 e2 e3
  subst e1 e3
  obtain ⟨b, off, e, hE⟩ := esAt (h.es hm) hk
  injection e with e
  injection e with f1 f2
  subst f1 f2
  rw [Nat.zero_add] at hE
  exact ⟨_, rfl, hE, fun j => h.2.frozenAt j⟩
theorem farGrew {w w' : World} {u u' v : Value} (hg : Grew w u w' u') (hN : ∀ q, u.ownBlock = some q → v.ownBlock ≠ some q) (hlt : ∀ q, v.ownBlock = some q → q < w.heap.size) : ∀ q, u'.ownBlock = some q → v.ownBlock ≠ some q := fun q h1 h2 => by
  have hq := hlt q h2
  rcases hg.at' with e9 | ⟨k9, e9, hk9⟩
  · exact hN q (by rw [← e9]; exact h1) h2
  · rw [h1] at e9
    injection e9 with e9
    omega
theorem ownE_set {w : World} {B : Nat} {v : Value} {l : List Ent} (h : OwnE w B v l) (q i : Nat) (x : Value) (hq : q < B) : OwnE (w.setCell ⟨q, i, none⟩ x) B v l :=
  h.block fun k hk => Below.heap_setCell _ _ _ _ (fun e => by have := (h.2.lt k hk).1; simp only at e; omega)
theorem entCells_setT (l : List Ent) : ∀ (i : Nat) (hi : i < l.length) (T : Int), entCells (l.set i (setTE T l[i])) = (entCells l).set (i * 7) (.int .i64 T) := by
  induction l with
  | nil => intro i hi; simp at hi
  | cons e l ih =>
    intro i hi T
    cases i with
    | zero => simp [entCells, Ent.cells, setTE]
    | succ i =>
      have hi' : i < l.length := by simpa using hi
      simp only [List.set_cons_succ, List.getElem_cons_succ, entCells]
      rw [ih i hi' T, List.set_append, if_neg (by simp [Ent.cells]; omega)]
      congr 2
      simp [Ent.cells]
      omega
theorem OwnE.setT {w : World} {B q c n : Nat} {l : List Ent} (h : OwnE w B (.slice (some ⟨q, 0, none⟩) n c) l) (hn : n = l.length) (i : Nat) (hi : i < l.length) (T : Int) : OwnE (w.setCell ⟨q, i * 7, none⟩ (.int .i64 T)) B (.slice (some ⟨q, 0, none⟩) n c) (l.set i (setTE T l[i])) := by
  subst hn
  refine ⟨fun e he => ?_, ?_⟩
  · rcases List.mem_or_eq_of_mem_set he with he | he
    · exact h.1 e he
    · subst he; have hf := h.1 _ (List.getElem_mem hi); exact hf
  · rw [List.length_set, entCells_setT l i hi T]
    exact (h.2.stored (i * 7) _).1
end Go.Proofs.YtafmjckpbcijoaaGreatDoor

/-
  spec.l1badCmd.
-/
namespace Go.Proofs.YtafmjckpbcijoaaGreatDoor
open Go.RowKit
set_option linter.unusedVariables false
set_option linter.unusedSimpArgs false

structure CmdV where
  cl : Int
  sq : Int
  op : Int
  ky : ByteArray
  vl : ByteArray
  ol : ByteArray
def longV (n : Nat) (x : Int) : ByteArray := strOfNums (List.replicate n x)
/-- a command with one field spoilt, and where the draws stand -/
def badC (l : List Int) (k : Nat) (c : CmdV) : CmdV × Nat :=
  if pickV l k 9 = 0 then ({ c with op := ((pickV l (k + 1) 9 : Nat) : Int) - 2 }, k + 1 + 1)
  else if pickV l k 9 = 1 then ({ c with cl := ((pickV l (k + 1) 12 : Nat) : Int) - 2 }, k + 1 + 1)
  else if pickV l k 9 = 2 then ({ c with sq := 1073741824 + ((pickV l (k + 1) 3 : Nat) : Int) - 1 }, k + 1 + 1)
  else if pickV l k 9 = 3 then ({ c with sq := ((pickV l (k + 1) 3 : Nat) : Int) - 2 }, k + 1 + 1)
  else if pickV l k 9 = 4 then ({ c with ky := ⟨#[]⟩ }, k + 1)
  else if pickV l k 9 = 5 then ({ c with ky := longV (64 + pickV l (k + 1) 2) 107 }, k + 1 + 1)
  else if pickV l k 9 = 6 then ({ c with vl := longV (64 + pickV l (k + 1) 2) 118 }, k + 1 + 1)
  else if pickV l k 9 = 7 then ({ c with ol := longV (64 + pickV l (k + 1) 2) 111 }, k + 1 + 1)
  else (⟨((pickV l (k + 1) 2 : Nat) : Int), ((pickV l (k + 1 + 1) 2 : Nat) : Int), 0, longV (pickV l (k + 1 + 1 + 1) 2) 107, longV (pickV l (k + 1 + 1 + 1 + 1) 2) 118, longV (pickV l (k + 1 + 1 + 1 + 1 + 1) 2) 111⟩, k + 1 + 1 + 1 + 1 + 1 + 1)
theorem infoCmdB : (Tryz.prog.info? 33).map (·.size) = some 6 := by kernel_rfl
set_option maxHeartbeats 1000000 in
set_option maxRecDepth 100000 in
theorem l1long_zero (x : Int) (w : World) : Calls Tryz.prog 57 #[.int .i64 ((0 : Nat) : Int), .int .u8 x] w fun e w' => e = .returned (.string (longV 0 x)) ∧ Below w.heap.size w w' := by
  have hcv : ∀ u : World, (convert 22 9 (.slice (some ⟨w.heap.size, 0, none⟩) 0 0)).run Tryz.prog u = .ok (.string (strOfNums [])) u := fun u => run_convert_bytes_arg u 22 5 Tryz.underlying22 Tryz.underlying5 w.heap.size 0 0 0 [] rfl (fun i hi => by simp at hi) 9 Tryz.underlying9
  go_enter Tryz.func57, Tryz.ntmps57
  go_wp2
  go_loopw [5, 6] (fun o i wr => o = .slice (some ⟨w.heap.size, 0, none⟩) 0 0 ∧ i = .int .i64 ((0 : Nat) : Int) ∧ wr = w.alloc (.cells #[] 5)) (fun _ i _ => 0)
  case atStart => exact ⟨rfl, rfl, rfl⟩
  case round =>
    obtain ⟨rfl, rfl, rfl⟩ := hrel
    go_wp2
    go_ret
    exact ⟨rfl, (Below.refl _ _).alloc (Nat.le_refl _) _⟩
theorem l1long_gen (n : Nat) (x : Int) (hn : n ≤ 1000) (hc : 0 ≤ x ∧ x ≤ 255) (w : World) : Calls Tryz.prog 57 #[.int .i64 n, .int .u8 x] w fun e w' => e = .returned (.string (longV n x)) ∧ Below w.heap.size w w' := by
  rcases Nat.eq_zero_or_pos n with h | h
  · subst h; exact l1long_zero x w
  · exact l1long_any n x h hn hc w

set_option maxHeartbeats 16000000 in
set_option maxRecDepth 100000 in
theorem l1badCmd_any (g : Nat) (w : World) (v : Value) (l : List Int) (k : Nat) (c : CmdV) (hL : l.length ≤ 1048576) (hk : k ≤ 500000000) (h : Src w g v l k) :
    Calls Tryz.prog 31 #[.pointer (some ⟨g, 0, none⟩), .agg #[.int .i64 c.cl, .int .i64 c.sq, .int .i64 c.op, .string c.ky, .string c.vl, .string c.ol]] w fun r w' => r = .returned (.agg #[.int .i64 (badC l k c).1.cl, .int .i64 (badC l k c).1.sq, .int .i64 (badC l k c).1.op, .string (badC l k c).1.ky, .string (badC l k c).1.vl, .string (badC l k c).1.ol]) ∧ Src w' g v l (badC l k c).2 ∧ w.grownBy w' (some g) := by
  have hg0 : g < w.heap.size := h.lt
  have HD0 : Hid (Dr w ((w.alloc (.cells #[.int .i64 c.cl, .int .i64 c.sq, .int .i64 c.op, .string c.ky, .string c.vl, .string c.ol] 33)).alloc (.cells #[.int .i64 0, .int .i64 0, .int .i64 0, .string ⟨#[]⟩, .string ⟨#[]⟩, .string ⟨#[]⟩] 33)) g v l k [(w.heap.size, #[.int .i64 c.cl, .int .i64 c.sq, .int .i64 c.op, .string c.ky, .string c.vl, .string c.ol], 33), (w.heap.size + 1, #[.int .i64 0, .int .i64 0, .int .i64 0, .string ⟨#[]⟩, .string ⟨#[]⟩, .string ⟨#[]⟩], 33)]) := by
    have hX := ((Dr.start h).new #[.int .i64 c.cl, .int .i64 c.sq, .int .i64 c.op, .string c.ky, .string c.vl, .string c.ol] 33 (noU8_of rfl)).new #[.int .i64 0, .int .i64 0, .int .i64 0, .string ⟨#[]⟩, .string ⟨#[]⟩, .string ⟨#[]⟩] 33 (noU8_of rfl)
    have hY : Dr w ((w.alloc (.cells #[.int .i64 c.cl, .int .i64 c.sq, .int .i64 c.op, .string c.ky, .string c.vl, .string c.ol] 33)).alloc (.cells #[.int .i64 0, .int .i64 0, .int .i64 0, .string ⟨#[]⟩, .string ⟨#[]⟩, .string ⟨#[]⟩] 33)) g v l k [(w.heap.size, #[.int .i64 c.cl, .int .i64 c.sq, .int .i64 c.op, .string c.ky, .string c.vl, .string c.ol], 33), (w.heap.size + 1, #[.int .i64 0, .int .i64 0, .int .i64 0, .string ⟨#[]⟩, .string ⟨#[]⟩, .string ⟨#[]⟩], 33)] := by simpa using hX
    exact hY
  clear h
  have hB : badC l k c = badC l k c := rfl
  conv at hB => rhs; unfold badC
  have HB : Hid (badC l k c = _) := hB
  generalize badC l k c = R at *
  clear hB
  have b9 := pickV_lt l k 9 (by decide)
  obtain ⟨p, hp⟩ : ∃ p, p = pickV l k 9 := ⟨_, rfl⟩
  rw [← hp] at b9 HB
  have Hp : Hid (p = pickV l k 9) := hp
  clear hp
  have A1 : True := trivial
  rcases (show p = 0 ∨ p = 1 ∨ p = 2 ∨ p = 3 ∨ p = 4 ∨ p = 5 ∨ p = 6 ∨ p = 7 ∨ p = 8 by omega) with c0 | c0 | c0 | c0 | c0 | c0 | c0 | c0 | c0
  · subst c0
    rw [if_pos rfl] at HB
    have bq := pickV_lt l (k + 1) 9 (by decide)
    obtain ⟨q, hq⟩ : ∃ q, q = pickV l (k + 1) 9 := ⟨_, rfl⟩
    have Hq : Hid (q = pickV l (k + 1) 9) := hq
    rw [← hq] at bq HB
    clear hq
    go_enter Tryz.func31, Tryz.ntmps31
    go_wp2_with (first
      | (go_at_call 23; clear A1; refine (HD0.out.pick1 9 hL (by omega) (by decide) (by decide)).mono ?_; rintro e w1 ⟨rfl, hd_⟩; rw [← Hp.out]; have HDw1 : Hid (Dr w w1 g v l (k + 1) [(w.heap.size, #[.int .i64 c.cl, .int .i64 c.sq, .int .i64 c.op, .string c.ky, .string c.vl, .string c.ol], 33), (w.heap.size + 1, #[.int .i64 0, .int .i64 0, .int .i64 0, .string ⟨#[]⟩, .string ⟨#[]⟩, .string ⟨#[]⟩], 33)]) := hd_; have cew1 := (hd_.blk 0 rfl).cell; have few1 := (hd_.blk 0 rfl).free; clear hd_)
      | (go_at_call 23; refine (HDw1.out.pick1 9 hL (by omega) (by decide) (by decide)).mono ?_; rintro e w2 ⟨rfl, hd_⟩; rw [← Hq.out]; have HDw2 : Hid (Dr w w2 g v l (k + 1 + 1) [(w.heap.size, #[.int .i64 c.cl, .int .i64 c.sq, .int .i64 c.op, .string c.ky, .string c.vl, .string c.ol], 33), (w.heap.size + 1, #[.int .i64 0, .int .i64 0, .int .i64 0, .string ⟨#[]⟩, .string ⟨#[]⟩, .string ⟨#[]⟩], 33)]) := hd_; have cew2 := (hd_.blk 0 rfl).cell; have few2 := (hd_.blk 0 rfl).free; have HDx : Hid (Dr w (w2.setCell ⟨w.heap.size, 2, none⟩ (.int .i64 ((q : Int) - 2))) g v l (k + 1 + 1) [(w.heap.size, #[.int .i64 c.cl, .int .i64 c.sq, .int .i64 ((q : Int) - 2), .string c.ky, .string c.vl, .string c.ol], 33), (w.heap.size + 1, #[.int .i64 0, .int .i64 0, .int .i64 0, .string ⟨#[]⟩, .string ⟨#[]⟩, .string ⟨#[]⟩], 33)]) := hd_.set 0 rfl 2 (by simp) (.int .i64 ((q : Int) - 2)) rfl; clear hd_)
      | (have hBA := HDx; refine gate_ld 33 (.tmp 3) rfl ?_; clear hBA; refine wpl_load_blk rfl 33 (.tmp 3) rfl (w.heap.size) rfl (HDx.out.blk 0 rfl) Tryz.underlying33 rfl infoCmdB rfl ?_)
      | (have hBA := HDx; refine gate_st 33 (.tmp 4) _ rfl ?_; clear hBA; refine wpl_store_blk rfl 33 (.tmp 4) _ rfl (w.heap.size + 1) rfl rfl (HDx.out.blk 1 rfl) infoCmdB rfl rfl (by simp [Value.oneCell']) ?_))
    have hR := HDx.out.row 1 rfl #[.int .i64 c.cl, .int .i64 c.sq, .int .i64 ((q : Int) - 2), .string c.ky, .string c.vl, .string c.ol] (noU8_of rfl)
    rw [HB.out]
    exact bodyPost_ret (results_blk Tryz.results31 rfl (hR.blk 1 rfl) Tryz.underlying33 rfl infoCmdB rfl) rfl ⟨rfl, hR.src, hR.grown⟩
  · subst c0
    rw [if_neg (by decide), if_pos rfl] at HB
    have bq := pickV_lt l (k + 1) 12 (by decide)
    obtain ⟨q, hq⟩ : ∃ q, q = pickV l (k + 1) 12 := ⟨_, rfl⟩
    have Hq : Hid (q = pickV l (k + 1) 12) := hq
    rw [← hq] at bq HB
    clear hq
    go_enter Tryz.func31, Tryz.ntmps31
    go_wp2_with (first
      | (go_at_call 23; clear A1; refine (HD0.out.pick1 9 hL (by omega) (by decide) (by decide)).mono ?_; rintro e w1 ⟨rfl, hd_⟩; rw [← Hp.out]; have HDw1 : Hid (Dr w w1 g v l (k + 1) [(w.heap.size, #[.int .i64 c.cl, .int .i64 c.sq, .int .i64 c.op, .string c.ky, .string c.vl, .string c.ol], 33), (w.heap.size + 1, #[.int .i64 0, .int .i64 0, .int .i64 0, .string ⟨#[]⟩, .string ⟨#[]⟩, .string ⟨#[]⟩], 33)]) := hd_; have cew1 := (hd_.blk 0 rfl).cell; have few1 := (hd_.blk 0 rfl).free; clear hd_)
      | (go_at_call 23; refine (HDw1.out.pick1 12 hL (by omega) (by decide) (by decide)).mono ?_; rintro e w2 ⟨rfl, hd_⟩; rw [← Hq.out]; have HDw2 : Hid (Dr w w2 g v l (k + 1 + 1) [(w.heap.size, #[.int .i64 c.cl, .int .i64 c.sq, .int .i64 c.op, .string c.ky, .string c.vl, .string c.ol], 33), (w.heap.size + 1, #[.int .i64 0, .int .i64 0, .int .i64 0, .string ⟨#[]⟩, .string ⟨#[]⟩, .string ⟨#[]⟩], 33)]) := hd_; have cew2 := (hd_.blk 0 rfl).cell; have few2 := (hd_.blk 0 rfl).free; have HDx : Hid (Dr w (w2.setCell ⟨w.heap.size, 0, none⟩ (.int .i64 ((q : Int) - 2))) g v l (k + 1 + 1) [(w.heap.size, #[.int .i64 ((q : Int) - 2), .int .i64 c.sq, .int .i64 c.op, .string c.ky, .string c.vl, .string c.ol], 33), (w.heap.size + 1, #[.int .i64 0, .int .i64 0, .int .i64 0, .string ⟨#[]⟩, .string ⟨#[]⟩, .string ⟨#[]⟩], 33)]) := hd_.set 0 rfl 0 (by simp) (.int .i64 ((q : Int) - 2)) rfl; clear hd_)
      | (have hBA := HDx; refine gate_ld 33 (.tmp 3) rfl ?_; clear hBA; refine wpl_load_blk rfl 33 (.tmp 3) rfl (w.heap.size) rfl (HDx.out.blk 0 rfl) Tryz.underlying33 rfl infoCmdB rfl ?_)
      | (have hBA := HDx; refine gate_st 33 (.tmp 4) _ rfl ?_; clear hBA; refine wpl_store_blk rfl 33 (.tmp 4) _ rfl (w.heap.size + 1) rfl rfl (HDx.out.blk 1 rfl) infoCmdB rfl rfl (by simp [Value.oneCell']) ?_))
    have hR := HDx.out.row 1 rfl #[.int .i64 ((q : Int) - 2), .int .i64 c.sq, .int .i64 c.op, .string c.ky, .string c.vl, .string c.ol] (noU8_of rfl)
    rw [HB.out]
    exact bodyPost_ret (results_blk Tryz.results31 rfl (hR.blk 1 rfl) Tryz.underlying33 rfl infoCmdB rfl) rfl ⟨rfl, hR.src, hR.grown⟩
  · subst c0
    rw [if_neg (by decide), if_neg (by decide), if_pos rfl] at HB
    have bq := pickV_lt l (k + 1) 3 (by decide)
    obtain ⟨q, hq⟩ : ∃ q, q = pickV l (k + 1) 3 := ⟨_, rfl⟩
    have Hq : Hid (q = pickV l (k + 1) 3) := hq
    rw [← hq] at bq HB
    clear hq
    go_enter Tryz.func31, Tryz.ntmps31
    go_wp2_with (first
      | (go_at_call 23; clear A1; refine (HD0.out.pick1 9 hL (by omega) (by decide) (by decide)).mono ?_; rintro e w1 ⟨rfl, hd_⟩; rw [← Hp.out]; have HDw1 : Hid (Dr w w1 g v l (k + 1) [(w.heap.size, #[.int .i64 c.cl, .int .i64 c.sq, .int .i64 c.op, .string c.ky, .string c.vl, .string c.ol], 33), (w.heap.size + 1, #[.int .i64 0, .int .i64 0, .int .i64 0, .string ⟨#[]⟩, .string ⟨#[]⟩, .string ⟨#[]⟩], 33)]) := hd_; have cew1 := (hd_.blk 0 rfl).cell; have few1 := (hd_.blk 0 rfl).free; clear hd_)
      | (go_at_call 23; refine (HDw1.out.pick1 3 hL (by omega) (by decide) (by decide)).mono ?_; rintro e w2 ⟨rfl, hd_⟩; rw [← Hq.out]; have HDw2 : Hid (Dr w w2 g v l (k + 1 + 1) [(w.heap.size, #[.int .i64 c.cl, .int .i64 c.sq, .int .i64 c.op, .string c.ky, .string c.vl, .string c.ol], 33), (w.heap.size + 1, #[.int .i64 0, .int .i64 0, .int .i64 0, .string ⟨#[]⟩, .string ⟨#[]⟩, .string ⟨#[]⟩], 33)]) := hd_; have cew2 := (hd_.blk 0 rfl).cell; have few2 := (hd_.blk 0 rfl).free; have HDx : Hid (Dr w (w2.setCell ⟨w.heap.size, 1, none⟩ (.int .i64 (1073741824 + (q : Int) - 1))) g v l (k + 1 + 1) [(w.heap.size, #[.int .i64 c.cl, .int .i64 (1073741824 + (q : Int) - 1), .int .i64 c.op, .string c.ky, .string c.vl, .string c.ol], 33), (w.heap.size + 1, #[.int .i64 0, .int .i64 0, .int .i64 0, .string ⟨#[]⟩, .string ⟨#[]⟩, .string ⟨#[]⟩], 33)]) := hd_.set 0 rfl 1 (by simp) (.int .i64 (1073741824 + (q : Int) - 1)) rfl; clear hd_)
      | (have hBA := HDx; refine gate_ld 33 (.tmp 3) rfl ?_; clear hBA; refine wpl_load_blk rfl 33 (.tmp 3) rfl (w.heap.size) rfl (HDx.out.blk 0 rfl) Tryz.underlying33 rfl infoCmdB rfl ?_)
      | (have hBA := HDx; refine gate_st 33 (.tmp 4) _ rfl ?_; clear hBA; refine wpl_store_blk rfl 33 (.tmp 4) _ rfl (w.heap.size + 1) rfl rfl (HDx.out.blk 1 rfl) infoCmdB rfl rfl (by simp [Value.oneCell']) ?_))
    have hR := HDx.out.row 1 rfl #[.int .i64 c.cl, .int .i64 (1073741824 + (q : Int) - 1), .int .i64 c.op, .string c.ky, .string c.vl, .string c.ol] (noU8_of rfl)
    rw [HB.out]
    exact bodyPost_ret (results_blk Tryz.results31 rfl (hR.blk 1 rfl) Tryz.underlying33 rfl infoCmdB rfl) rfl ⟨rfl, hR.src, hR.grown⟩
  · subst c0
    rw [if_neg (by decide), if_neg (by decide), if_neg (by decide), if_pos rfl] at HB
    have bq := pickV_lt l (k + 1) 3 (by decide)
    obtain ⟨q, hq⟩ : ∃ q, q = pickV l (k + 1) 3 := ⟨_, rfl⟩
    have Hq : Hid (q = pickV l (k + 1) 3) := hq
    rw [← hq] at bq HB
    clear hq
    go_enter Tryz.func31, Tryz.ntmps31
    go_wp2_with (first
      | (go_at_call 23; clear A1; refine (HD0.out.pick1 9 hL (by omega) (by decide) (by decide)).mono ?_; rintro e w1 ⟨rfl, hd_⟩; rw [← Hp.out]; have HDw1 : Hid (Dr w w1 g v l (k + 1) [(w.heap.size, #[.int .i64 c.cl, .int .i64 c.sq, .int .i64 c.op, .string c.ky, .string c.vl, .string c.ol], 33), (w.heap.size + 1, #[.int .i64 0, .int .i64 0, .int .i64 0, .string ⟨#[]⟩, .string ⟨#[]⟩, .string ⟨#[]⟩], 33)]) := hd_; have cew1 := (hd_.blk 0 rfl).cell; have few1 := (hd_.blk 0 rfl).free; clear hd_)
      | (go_at_call 23; refine (HDw1.out.pick1 3 hL (by omega) (by decide) (by decide)).mono ?_; rintro e w2 ⟨rfl, hd_⟩; rw [← Hq.out]; have HDw2 : Hid (Dr w w2 g v l (k + 1 + 1) [(w.heap.size, #[.int .i64 c.cl, .int .i64 c.sq, .int .i64 c.op, .string c.ky, .string c.vl, .string c.ol], 33), (w.heap.size + 1, #[.int .i64 0, .int .i64 0, .int .i64 0, .string ⟨#[]⟩, .string ⟨#[]⟩, .string ⟨#[]⟩], 33)]) := hd_; have cew2 := (hd_.blk 0 rfl).cell; have few2 := (hd_.blk 0 rfl).free; have HDx : Hid (Dr w (w2.setCell ⟨w.heap.size, 1, none⟩ (.int .i64 ((q : Int) - 2))) g v l (k + 1 + 1) [(w.heap.size, #[.int .i64 c.cl, .int .i64 ((q : Int) - 2), .int .i64 c.op, .string c.ky, .string c.vl, .string c.ol], 33), (w.heap.size + 1, #[.int .i64 0, .int .i64 0, .int .i64 0, .string ⟨#[]⟩, .string ⟨#[]⟩, .string ⟨#[]⟩], 33)]) := hd_.set 0 rfl 1 (by simp) (.int .i64 ((q : Int) - 2)) rfl; clear hd_)
      | (have hBA := HDx; refine gate_ld 33 (.tmp 3) rfl ?_; clear hBA; refine wpl_load_blk rfl 33 (.tmp 3) rfl (w.heap.size) rfl (HDx.out.blk 0 rfl) Tryz.underlying33 rfl infoCmdB rfl ?_)
      | (have hBA := HDx; refine gate_st 33 (.tmp 4) _ rfl ?_; clear hBA; refine wpl_store_blk rfl 33 (.tmp 4) _ rfl (w.heap.size + 1) rfl rfl (HDx.out.blk 1 rfl) infoCmdB rfl rfl (by simp [Value.oneCell']) ?_))
    have hR := HDx.out.row 1 rfl #[.int .i64 c.cl, .int .i64 ((q : Int) - 2), .int .i64 c.op, .string c.ky, .string c.vl, .string c.ol] (noU8_of rfl)
    rw [HB.out]
    exact bodyPost_ret (results_blk Tryz.results31 rfl (hR.blk 1 rfl) Tryz.underlying33 rfl infoCmdB rfl) rfl ⟨rfl, hR.src, hR.grown⟩
  · subst c0
    rw [if_neg (by decide), if_neg (by decide), if_neg (by decide), if_neg (by decide), if_pos rfl] at HB
    go_enter Tryz.func31, Tryz.ntmps31
    go_wp2_with (first
      | (go_at_call 23; clear A1; refine (HD0.out.pick1 9 hL (by omega) (by decide) (by decide)).mono ?_; rintro e w1 ⟨rfl, hd_⟩; rw [← Hp.out]; have HDw1 : Hid (Dr w w1 g v l (k + 1) [(w.heap.size, #[.int .i64 c.cl, .int .i64 c.sq, .int .i64 c.op, .string c.ky, .string c.vl, .string c.ol], 33), (w.heap.size + 1, #[.int .i64 0, .int .i64 0, .int .i64 0, .string ⟨#[]⟩, .string ⟨#[]⟩, .string ⟨#[]⟩], 33)]) := hd_; have cew1 := (hd_.blk 0 rfl).cell; have few1 := (hd_.blk 0 rfl).free; have HDx : Hid (Dr w (w1.setCell ⟨w.heap.size, 3, none⟩ (.string ⟨#[]⟩)) g v l (k + 1) [(w.heap.size, #[.int .i64 c.cl, .int .i64 c.sq, .int .i64 c.op, .string ⟨#[]⟩, .string c.vl, .string c.ol], 33), (w.heap.size + 1, #[.int .i64 0, .int .i64 0, .int .i64 0, .string ⟨#[]⟩, .string ⟨#[]⟩, .string ⟨#[]⟩], 33)]) := hd_.set 0 rfl 3 (by simp) (.string ⟨#[]⟩) rfl; clear hd_)
      | (have hBA := HDx; refine gate_ld 33 (.tmp 3) rfl ?_; clear hBA; refine wpl_load_blk rfl 33 (.tmp 3) rfl (w.heap.size) rfl (HDx.out.blk 0 rfl) Tryz.underlying33 rfl infoCmdB rfl ?_)
      | (have hBA := HDx; refine gate_st 33 (.tmp 4) _ rfl ?_; clear hBA; refine wpl_store_blk rfl 33 (.tmp 4) _ rfl (w.heap.size + 1) rfl rfl (HDx.out.blk 1 rfl) infoCmdB rfl rfl (by simp [Value.oneCell']) ?_))
    have hR := HDx.out.row 1 rfl #[.int .i64 c.cl, .int .i64 c.sq, .int .i64 c.op, .string ⟨#[]⟩, .string c.vl, .string c.ol] (noU8_of rfl)
    rw [HB.out]
    exact bodyPost_ret (results_blk Tryz.results31 rfl (hR.blk 1 rfl) Tryz.underlying33 rfl infoCmdB rfl) rfl ⟨rfl, hR.src, hR.grown⟩
  · subst c0
    rw [if_neg (by decide), if_neg (by decide), if_neg (by decide), if_neg (by decide), if_neg (by decide), if_pos rfl] at HB
    have bq := pickV_lt l (k + 1) 2 (by decide)
    obtain ⟨q, hq⟩ : ∃ q, q = pickV l (k + 1) 2 := ⟨_, rfl⟩
    have Hq : Hid (q = pickV l (k + 1) 2) := hq
    rw [← hq] at bq HB
    clear hq
    have HLg : Hid (∀ u : World, Calls Tryz.prog 57 #[.int .i64 (64 + (q : Int)), .int .u8 107] u fun e w' => e = .returned (.string (longV (64 + q) 107)) ∧ Below u.heap.size u w') := fun u => l1long_gen (64 + q) 107 (by omega) (by decide) u
    generalize longV (64 + q) 107 = LG at *
    go_enter Tryz.func31, Tryz.ntmps31
    go_wp2_with (first
      | (go_at_call 23; clear A1; refine (HD0.out.pick1 9 hL (by omega) (by decide) (by decide)).mono ?_; rintro e w1 ⟨rfl, hd_⟩; rw [← Hp.out]; have HDw1 : Hid (Dr w w1 g v l (k + 1) [(w.heap.size, #[.int .i64 c.cl, .int .i64 c.sq, .int .i64 c.op, .string c.ky, .string c.vl, .string c.ol], 33), (w.heap.size + 1, #[.int .i64 0, .int .i64 0, .int .i64 0, .string ⟨#[]⟩, .string ⟨#[]⟩, .string ⟨#[]⟩], 33)]) := hd_; have cew1 := (hd_.blk 0 rfl).cell; have few1 := (hd_.blk 0 rfl).free; clear hd_)
      | (go_at_call 23; refine (HDw1.out.pick1 2 hL (by omega) (by decide) (by decide)).mono ?_; rintro e w2 ⟨rfl, hd_⟩; rw [← Hq.out]; have HDw2 : Hid (Dr w w2 g v l (k + 1 + 1) [(w.heap.size, #[.int .i64 c.cl, .int .i64 c.sq, .int .i64 c.op, .string c.ky, .string c.vl, .string c.ol], 33), (w.heap.size + 1, #[.int .i64 0, .int .i64 0, .int .i64 0, .string ⟨#[]⟩, .string ⟨#[]⟩, .string ⟨#[]⟩], 33)]) := hd_; have cew2 := (hd_.blk 0 rfl).cell; have few2 := (hd_.blk 0 rfl).free; clear hd_)
      | (go_at_call 57; refine (HLg.out _).mono ?_; rintro e w3 ⟨rfl, hb3⟩; have HD3 : Hid (Dr w w3 g v l (k + 1 + 1) [(w.heap.size, #[.int .i64 c.cl, .int .i64 c.sq, .int .i64 c.op, .string c.ky, .string c.vl, .string c.ol], 33), (w.heap.size + 1, #[.int .i64 0, .int .i64 0, .int .i64 0, .string ⟨#[]⟩, .string ⟨#[]⟩, .string ⟨#[]⟩], 33)]) := HDw2.out.below hb3; have ce3 := (HD3.out.blk 0 rfl).cell; have fe3 := (HD3.out.blk 0 rfl).free; have HDx : Hid (Dr w (w3.setCell ⟨w.heap.size, 3, none⟩ (.string LG)) g v l (k + 1 + 1) [(w.heap.size, #[.int .i64 c.cl, .int .i64 c.sq, .int .i64 c.op, .string LG, .string c.vl, .string c.ol], 33), (w.heap.size + 1, #[.int .i64 0, .int .i64 0, .int .i64 0, .string ⟨#[]⟩, .string ⟨#[]⟩, .string ⟨#[]⟩], 33)]) := HD3.out.set 0 rfl 3 (by simp) (.string LG) rfl; clear hb3)
      | (have hBA := HDx; refine gate_ld 33 (.tmp 3) rfl ?_; clear hBA; refine wpl_load_blk rfl 33 (.tmp 3) rfl (w.heap.size) rfl (HDx.out.blk 0 rfl) Tryz.underlying33 rfl infoCmdB rfl ?_)
      | (have hBA := HDx; refine gate_st 33 (.tmp 4) _ rfl ?_; clear hBA; refine wpl_store_blk rfl 33 (.tmp 4) _ rfl (w.heap.size + 1) rfl rfl (HDx.out.blk 1 rfl) infoCmdB rfl rfl (by simp [Value.oneCell']) ?_))
    have hR := HDx.out.row 1 rfl #[.int .i64 c.cl, .int .i64 c.sq, .int .i64 c.op, .string LG, .string c.vl, .string c.ol] (noU8_of rfl)
    rw [HB.out]
    exact bodyPost_ret (results_blk Tryz.results31 rfl (hR.blk 1 rfl) Tryz.underlying33 rfl infoCmdB rfl) rfl ⟨rfl, hR.src, hR.grown⟩
  · subst c0
    rw [if_neg (by decide), if_neg (by decide), if_neg (by decide), if_neg (by decide), if_neg (by decide), if_neg (by decide), if_pos rfl] at HB
    have bq := pickV_lt l (k + 1) 2 (by decide)
    obtain ⟨q, hq⟩ : ∃ q, q = pickV l (k + 1) 2 := ⟨_, rfl⟩
    have Hq : Hid (q = pickV l (k + 1) 2) := hq
    rw [← hq] at bq HB
    clear hq
    have HLg : Hid (∀ u : World, Calls Tryz.prog 57 #[.int .i64 (64 + (q : Int)), .int .u8 118] u fun e w' => e = .returned (.string (longV (64 + q) 118)) ∧ Below u.heap.size u w') := fun u => l1long_gen (64 + q) 118 (by omega) (by decide) u
    generalize longV (64 + q) 118 = LG at *
    go_enter Tryz.func31, Tryz.ntmps31
    go_wp2_with (first
      | (go_at_call 23; clear A1; refine (HD0.out.pick1 9 hL (by omega) (by decide) (by decide)).mono ?_; rintro e w1 ⟨rfl, hd_⟩; rw [← Hp.out]; have HDw1 : Hid (Dr w w1 g v l (k + 1) [(w.heap.size, #[.int .i64 c.cl, .int .i64 c.sq, .int .i64 c.op, .string c.ky, .string c.vl, .string c.ol], 33), (w.heap.size + 1, #[.int .i64 0, .int .i64 0, .int .i64 0, .string ⟨#[]⟩, .string ⟨#[]⟩, .string ⟨#[]⟩], 33)]) := hd_; have cew1 := (hd_.blk 0 rfl).cell; have few1 := (hd_.blk 0 rfl).free; clear hd_)
      | (go_at_call 23; refine (HDw1.out.pick1 2 hL (by omega) (by decide) (by decide)).mono ?_; rintro e w2 ⟨rfl, hd_⟩; rw [← Hq.out]; have HDw2 : Hid (Dr w w2 g v l (k + 1 + 1) [(w.heap.size, #[.int .i64 c.cl, .int .i64 c.sq, .int .i64 c.op, .string c.ky, .string c.vl, .string c.ol], 33), (w.heap.size + 1, #[.int .i64 0, .int .i64 0, .int .i64 0, .string ⟨#[]⟩, .string ⟨#[]⟩, .string ⟨#[]⟩], 33)]) := hd_; have cew2 := (hd_.blk 0 rfl).cell; have few2 := (hd_.blk 0 rfl).free; clear hd_)
      | (go_at_call 57; refine (HLg.out _).mono ?_; rintro e w3 ⟨rfl, hb3⟩; have HD3 : Hid (Dr w w3 g v l (k + 1 + 1) [(w.heap.size, #[.int .i64 c.cl, .int .i64 c.sq, .int .i64 c.op, .string c.ky, .string c.vl, .string c.ol], 33), (w.heap.size + 1, #[.int .i64 0, .int .i64 0, .int .i64 0, .string ⟨#[]⟩, .string ⟨#[]⟩, .string ⟨#[]⟩], 33)]) := HDw2.out.below hb3; have ce3 := (HD3.out.blk 0 rfl).cell; have fe3 := (HD3.out.blk 0 rfl).free; have HDx : Hid (Dr w (w3.setCell ⟨w.heap.size, 4, none⟩ (.string LG)) g v l (k + 1 + 1) [(w.heap.size, #[.int .i64 c.cl, .int .i64 c.sq, .int .i64 c.op, .string c.ky, .string LG, .string c.ol], 33), (w.heap.size + 1, #[.int .i64 0, .int .i64 0, .int .i64 0, .string ⟨#[]⟩, .string ⟨#[]⟩, .string ⟨#[]⟩], 33)]) := HD3.out.set 0 rfl 4 (by simp) (.string LG) rfl; clear hb3)
      | (have hBA := HDx; refine gate_ld 33 (.tmp 3) rfl ?_; clear hBA; refine wpl_load_blk rfl 33 (.tmp 3) rfl (w.heap.size) rfl (HDx.out.blk 0 rfl) Tryz.underlying33 rfl infoCmdB rfl ?_)
      | (have hBA := HDx; refine gate_st 33 (.tmp 4) _ rfl ?_; clear hBA; refine wpl_store_blk rfl 33 (.tmp 4) _ rfl (w.heap.size + 1) rfl rfl (HDx.out.blk 1 rfl) infoCmdB rfl rfl (by simp [Value.oneCell']) ?_))
    have hR := HDx.out.row 1 rfl #[.int .i64 c.cl, .int .i64 c.sq, .int .i64 c.op, .string c.ky, .string LG, .string c.ol] (noU8_of rfl)
    rw [HB.out]
    exact bodyPost_ret (results_blk Tryz.results31 rfl (hR.blk 1 rfl) Tryz.underlying33 rfl infoCmdB rfl) rfl ⟨rfl, hR.src, hR.grown⟩
  · subst c0
    rw [if_neg (by decide), if_neg (by decide), if_neg (by decide), if_neg (by decide), if_neg (by decide), if_neg (by decide), if_neg (by decide), if_pos rfl] at HB
    have bq := pickV_lt l (k + 1) 2 (by decide)
    obtain ⟨q, hq⟩ : ∃ q, q = pickV l (k + 1) 2 := ⟨_, rfl⟩
    have Hq : Hid (q = pickV l (k + 1) 2) := hq
    rw [← hq] at bq HB
    clear hq
    have HLg : Hid (∀ u : World, Calls Tryz.prog 57 #[.int .i64 (64 + (q : Int)), .int .u8 111] u fun e w' => e = .returned (.string (longV (64 + q) 111)) ∧ Below u.heap.size u w') := fun u => l1long_gen (64 + q) 111 (by omega) (by decide) u
    generalize longV (64 + q) 111 = LG at *
    go_enter Tryz.func31, Tryz.ntmps31
    go_wp2_with (first
      | (go_at_call 23; clear A1; refine (HD0.out.pick1 9 hL (by omega) (by decide) (by decide)).mono ?_; rintro e w1 ⟨rfl, hd_⟩; rw [← Hp.out]; have HDw1 : Hid (Dr w w1 g v l (k + 1) [(w.heap.size, #[.int .i64 c.cl, .int .i64 c.sq, .int .i64 c.op, .string c.ky, .string c.vl, .string c.ol], 33), (w.heap.size + 1, #[.int .i64 0, .int .i64 0, .int .i64 0, .string ⟨#[]⟩, .string ⟨#[]⟩, .string ⟨#[]⟩], 33)]) := hd_; have cew1 := (hd_.blk 0 rfl).cell; have few1 := (hd_.blk 0 rfl).free; clear hd_)
      | (go_at_call 23; refine (HDw1.out.pick1 2 hL (by omega) (by decide) (by decide)).mono ?_; rintro e w2 ⟨rfl, hd_⟩; rw [← Hq.out]; have HDw2 : Hid (Dr w w2 g v l (k + 1 + 1) [(w.heap.size, #[.int .i64 c.cl, .int .i64 c.sq, .int .i64 c.op, .string c.ky, .string c.vl, .string c.ol], 33), (w.heap.size + 1, #[.int .i64 0, .int .i64 0, .int .i64 0, .string ⟨#[]⟩, .string ⟨#[]⟩, .string ⟨#[]⟩], 33)]) := hd_; have cew2 := (hd_.blk 0 rfl).cell; have few2 := (hd_.blk 0 rfl).free; clear hd_)
      | (go_at_call 57; refine (HLg.out _).mono ?_; rintro e w3 ⟨rfl, hb3⟩; have HD3 : Hid (Dr w w3 g v l (k + 1 + 1) [(w.heap.size, #[.int .i64 c.cl, .int .i64 c.sq, .int .i64 c.op, .string c.ky, .string c.vl, .string c.ol], 33), (w.heap.size + 1, #[.int .i64 0, .int .i64 0, .int .i64 0, .string ⟨#[]⟩, .string ⟨#[]⟩, .string ⟨#[]⟩], 33)]) := HDw2.out.below hb3; have ce3 := (HD3.out.blk 0 rfl).cell; have fe3 := (HD3.out.blk 0 rfl).free; have HDx : Hid (Dr w (w3.setCell ⟨w.heap.size, 5, none⟩ (.string LG)) g v l (k + 1 + 1) [(w.heap.size, #[.int .i64 c.cl, .int .i64 c.sq, .int .i64 c.op, .string c.ky, .string c.vl, .string LG], 33), (w.heap.size + 1, #[.int .i64 0, .int .i64 0, .int .i64 0, .string ⟨#[]⟩, .string ⟨#[]⟩, .string ⟨#[]⟩], 33)]) := HD3.out.set 0 rfl 5 (by simp) (.string LG) rfl; clear hb3)
      | (have hBA := HDx; refine gate_ld 33 (.tmp 3) rfl ?_; clear hBA; refine wpl_load_blk rfl 33 (.tmp 3) rfl (w.heap.size) rfl (HDx.out.blk 0 rfl) Tryz.underlying33 rfl infoCmdB rfl ?_)
      | (have hBA := HDx; refine gate_st 33 (.tmp 4) _ rfl ?_; clear hBA; refine wpl_store_blk rfl 33 (.tmp 4) _ rfl (w.heap.size + 1) rfl rfl (HDx.out.blk 1 rfl) infoCmdB rfl rfl (by simp [Value.oneCell']) ?_))
    have hR := HDx.out.row 1 rfl #[.int .i64 c.cl, .int .i64 c.sq, .int .i64 c.op, .string c.ky, .string c.vl, .string LG] (noU8_of rfl)
    rw [HB.out]
    exact bodyPost_ret (results_blk Tryz.results31 rfl (hR.blk 1 rfl) Tryz.underlying33 rfl infoCmdB rfl) rfl ⟨rfl, hR.src, hR.grown⟩
  · subst c0
    rw [if_neg (by decide), if_neg (by decide), if_neg (by decide), if_neg (by decide), if_neg (by decide), if_neg (by decide), if_neg (by decide), if_neg (by decide)] at HB
    have bqa := pickV_lt l (k + 1) 2 (by decide)
    obtain ⟨qa, hqa⟩ : ∃ qa, qa = pickV l (k + 1) 2 := ⟨_, rfl⟩
    have Hqa : Hid (qa = pickV l (k + 1) 2) := hqa
    rw [← hqa] at bqa HB
    clear hqa
    have Aqa : True := trivial
    have bqb := pickV_lt l (k + 1 + 1) 2 (by decide)
    obtain ⟨qb, hqb⟩ : ∃ qb, qb = pickV l (k + 1 + 1) 2 := ⟨_, rfl⟩
    have Hqb : Hid (qb = pickV l (k + 1 + 1) 2) := hqb
    rw [← hqb] at bqb HB
    clear hqb
    have Aqb : True := trivial
    have bqc := pickV_lt l (k + 1 + 1 + 1) 2 (by decide)
    obtain ⟨qc, hqc⟩ : ∃ qc, qc = pickV l (k + 1 + 1 + 1) 2 := ⟨_, rfl⟩
    have Hqc : Hid (qc = pickV l (k + 1 + 1 + 1) 2) := hqc
    rw [← hqc] at bqc HB
    clear hqc
    have Aqc : True := trivial
    have bqd := pickV_lt l (k + 1 + 1 + 1 + 1) 2 (by decide)
    obtain ⟨qd, hqd⟩ : ∃ qd, qd = pickV l (k + 1 + 1 + 1 + 1) 2 := ⟨_, rfl⟩
    have Hqd : Hid (qd = pickV l (k + 1 + 1 + 1 + 1) 2) := hqd
    rw [← hqd] at bqd HB
    clear hqd
    have Aqd : True := trivial
    have bqe := pickV_lt l (k + 1 + 1 + 1 + 1 + 1) 2 (by decide)
    obtain ⟨qe, hqe⟩ : ∃ qe, qe = pickV l (k + 1 + 1 + 1 + 1 + 1) 2 := ⟨_, rfl⟩
    have Hqe : Hid (qe = pickV l (k + 1 + 1 + 1 + 1 + 1) 2) := hqe
    rw [← hqe] at bqe HB
    clear hqe
    have Aqe : True := trivial
    have HLqc : Hid (∀ u : World, Calls Tryz.prog 57 #[.int .i64 (qc : Int), .int .u8 107] u fun e w' => e = .returned (.string (longV qc 107)) ∧ Below u.heap.size u w') := fun u => l1long_gen qc 107 (by omega) (by decide) u
    generalize longV qc 107 = LC at *
    have HLqd : Hid (∀ u : World, Calls Tryz.prog 57 #[.int .i64 (qd : Int), .int .u8 118] u fun e w' => e = .returned (.string (longV qd 118)) ∧ Below u.heap.size u w') := fun u => l1long_gen qd 118 (by omega) (by decide) u
    generalize longV qd 118 = LD at *
    have HLqe : Hid (∀ u : World, Calls Tryz.prog 57 #[.int .i64 (qe : Int), .int .u8 111] u fun e w' => e = .returned (.string (longV qe 111)) ∧ Below u.heap.size u w') := fun u => l1long_gen qe 111 (by omega) (by decide) u
    generalize longV qe 111 = LE at *
    go_enter Tryz.func31, Tryz.ntmps31
    go_wp2_with (first
      | (go_at_call 23; clear A1; refine (HD0.out.pick1 9 hL (by omega) (by decide) (by decide)).mono ?_; rintro e w1 ⟨rfl, hd_⟩; rw [← Hp.out]; have HDw1 : Hid (Dr w w1 g v l (k + 1) [(w.heap.size, #[.int .i64 c.cl, .int .i64 c.sq, .int .i64 c.op, .string c.ky, .string c.vl, .string c.ol], 33), (w.heap.size + 1, #[.int .i64 0, .int .i64 0, .int .i64 0, .string ⟨#[]⟩, .string ⟨#[]⟩, .string ⟨#[]⟩], 33)]) := hd_; have cew1 := (hd_.blk 0 rfl).cell; have few1 := (hd_.blk 0 rfl).free; clear hd_)
      | (go_at_call 23; clear Aqa; refine (HDw1.out.pick1 2 hL (by omega) (by decide) (by decide)).mono ?_; rintro e w2 ⟨rfl, hd_⟩; rw [← Hqa.out]; have HDw2 : Hid (Dr w w2 g v l (k + 1 + 1) [(w.heap.size, #[.int .i64 c.cl, .int .i64 c.sq, .int .i64 c.op, .string c.ky, .string c.vl, .string c.ol], 33), (w.heap.size + 1, #[.int .i64 0, .int .i64 0, .int .i64 0, .string ⟨#[]⟩, .string ⟨#[]⟩, .string ⟨#[]⟩], 33)]) := hd_; have cew2 := (hd_.blk 0 rfl).cell; have few2 := (hd_.blk 0 rfl).free; clear hd_)
      | (go_at_call 23; clear Aqb; refine (HDw2.out.pick1 2 hL (by omega) (by decide) (by decide)).mono ?_; rintro e w3 ⟨rfl, hd_⟩; rw [← Hqb.out]; have HDw3 : Hid (Dr w w3 g v l (k + 1 + 1 + 1) [(w.heap.size, #[.int .i64 c.cl, .int .i64 c.sq, .int .i64 c.op, .string c.ky, .string c.vl, .string c.ol], 33), (w.heap.size + 1, #[.int .i64 0, .int .i64 0, .int .i64 0, .string ⟨#[]⟩, .string ⟨#[]⟩, .string ⟨#[]⟩], 33)]) := hd_; have cew3 := (hd_.blk 0 rfl).cell; have few3 := (hd_.blk 0 rfl).free; clear hd_)
      | (go_at_call 23; clear Aqc; refine (HDw3.out.pick1 2 hL (by omega) (by decide) (by decide)).mono ?_; rintro e w4 ⟨rfl, hd_⟩; rw [← Hqc.out]; have HDw4 : Hid (Dr w w4 g v l (k + 1 + 1 + 1 + 1) [(w.heap.size, #[.int .i64 c.cl, .int .i64 c.sq, .int .i64 c.op, .string c.ky, .string c.vl, .string c.ol], 33), (w.heap.size + 1, #[.int .i64 0, .int .i64 0, .int .i64 0, .string ⟨#[]⟩, .string ⟨#[]⟩, .string ⟨#[]⟩], 33)]) := hd_; have cew4 := (hd_.blk 0 rfl).cell; have few4 := (hd_.blk 0 rfl).free; clear hd_)
      | (go_at_call 57; refine (HLqc.out _).mono ?_; rintro e w5 ⟨rfl, hb_⟩; have HDw5 : Hid (Dr w w5 g v l (k + 1 + 1 + 1 + 1) [(w.heap.size, #[.int .i64 c.cl, .int .i64 c.sq, .int .i64 c.op, .string c.ky, .string c.vl, .string c.ol], 33), (w.heap.size + 1, #[.int .i64 0, .int .i64 0, .int .i64 0, .string ⟨#[]⟩, .string ⟨#[]⟩, .string ⟨#[]⟩], 33)]) := HDw4.out.below hb_; clear hb_ HLqc)
      | (go_at_call 23; clear Aqd; refine (HDw5.out.pick1 2 hL (by omega) (by decide) (by decide)).mono ?_; rintro e w6 ⟨rfl, hd_⟩; rw [← Hqd.out]; have HDw6 : Hid (Dr w w6 g v l (k + 1 + 1 + 1 + 1 + 1) [(w.heap.size, #[.int .i64 c.cl, .int .i64 c.sq, .int .i64 c.op, .string c.ky, .string c.vl, .string c.ol], 33), (w.heap.size + 1, #[.int .i64 0, .int .i64 0, .int .i64 0, .string ⟨#[]⟩, .string ⟨#[]⟩, .string ⟨#[]⟩], 33)]) := hd_; have cew6 := (hd_.blk 0 rfl).cell; have few6 := (hd_.blk 0 rfl).free; clear hd_)
      | (go_at_call 57; refine (HLqd.out _).mono ?_; rintro e w7 ⟨rfl, hb_⟩; have HDw7 : Hid (Dr w w7 g v l (k + 1 + 1 + 1 + 1 + 1) [(w.heap.size, #[.int .i64 c.cl, .int .i64 c.sq, .int .i64 c.op, .string c.ky, .string c.vl, .string c.ol], 33), (w.heap.size + 1, #[.int .i64 0, .int .i64 0, .int .i64 0, .string ⟨#[]⟩, .string ⟨#[]⟩, .string ⟨#[]⟩], 33)]) := HDw6.out.below hb_; clear hb_ HLqd)
      | (go_at_call 23; clear Aqe; refine (HDw7.out.pick1 2 hL (by omega) (by decide) (by decide)).mono ?_; rintro e w8 ⟨rfl, hd_⟩; rw [← Hqe.out]; have HDw8 : Hid (Dr w w8 g v l (k + 1 + 1 + 1 + 1 + 1 + 1) [(w.heap.size, #[.int .i64 c.cl, .int .i64 c.sq, .int .i64 c.op, .string c.ky, .string c.vl, .string c.ol], 33), (w.heap.size + 1, #[.int .i64 0, .int .i64 0, .int .i64 0, .string ⟨#[]⟩, .string ⟨#[]⟩, .string ⟨#[]⟩], 33)]) := hd_; have cew8 := (hd_.blk 0 rfl).cell; have few8 := (hd_.blk 0 rfl).free; clear hd_)
      | (go_at_call 57; refine (HLqe.out _).mono ?_; rintro e w9 ⟨rfl, hb_⟩; have HDw9 : Hid (Dr w w9 g v l (k + 1 + 1 + 1 + 1 + 1 + 1) [(w.heap.size, #[.int .i64 c.cl, .int .i64 c.sq, .int .i64 c.op, .string c.ky, .string c.vl, .string c.ol], 33), (w.heap.size + 1, #[.int .i64 0, .int .i64 0, .int .i64 0, .string ⟨#[]⟩, .string ⟨#[]⟩, .string ⟨#[]⟩], 33)]) := HDw8.out.below hb_; clear hb_ HLqe)
      | (have hBA := HDw9; refine gate_st 33 (.tmp 3) _ rfl ?_; clear hBA; refine wpl_store_blk rfl 33 (.tmp 3) _ rfl (w.heap.size) rfl rfl (HDw9.out.blk 0 rfl) infoCmdB rfl rfl (by simp [Value.oneCell']) ?_; have HDx : Hid (Dr w (w9.setRow w.heap.size #[.int .i64 (qa : Int), .int .i64 (qb : Int), .int .i64 0, .string LC, .string LD, .string LE]) g v l (k + 1 + 1 + 1 + 1 + 1 + 1) [(w.heap.size, #[.int .i64 (qa : Int), .int .i64 (qb : Int), .int .i64 0, .string LC, .string LD, .string LE], 33), (w.heap.size + 1, #[.int .i64 0, .int .i64 0, .int .i64 0, .string ⟨#[]⟩, .string ⟨#[]⟩, .string ⟨#[]⟩], 33)]) := HDw9.out.row 0 rfl #[.int .i64 (qa : Int), .int .i64 (qb : Int), .int .i64 0, .string LC, .string LD, .string LE] (noU8_of rfl))
      | (have hBA := HDx; refine gate_ld 33 (.tmp 3) rfl ?_; clear hBA; refine wpl_load_blk rfl 33 (.tmp 3) rfl (w.heap.size) rfl (HDx.out.blk 0 rfl) Tryz.underlying33 rfl infoCmdB rfl ?_)
      | (have hBA := HDx; refine gate_st 33 (.tmp 4) _ rfl ?_; clear hBA; refine wpl_store_blk rfl 33 (.tmp 4) _ rfl (w.heap.size + 1) rfl rfl (HDx.out.blk 1 rfl) infoCmdB rfl rfl (by simp [Value.oneCell']) ?_))
    have hR := HDx.out.row 1 rfl #[.int .i64 (qa : Int), .int .i64 (qb : Int), .int .i64 0, .string LC, .string LD, .string LE] (noU8_of rfl)
    rw [HB.out]
    exact bodyPost_ret (results_blk Tryz.results31 rfl (hR.blk 1 rfl) Tryz.underlying33 rfl infoCmdB rfl) rfl ⟨rfl, hR.src, hR.grown⟩
end Go.Proofs.YtafmjckpbcijoaaGreatDoor

/-
  Cells set in a row of one's own.
-/
namespace Go.Proofs.YtafmjckpbcijoaaGreatDoor
open Go.RowKit
set_option linter.unusedVariables false
set_option linter.unusedSimpArgs false

def setL (xs : List Value) : Nat → List Value → List Value
  | _, [] => xs
  | o, v :: vs => setL (xs.set o v) (o + 1) vs
theorem setL_app (a : List Value) : ∀ (vs xs : List Value) (o : Nat), setL (a ++ xs) (a.length + o) vs = a ++ setL xs o vs
  | [], _, _ => rfl
  | v :: vs, xs, o => by
    rw [setL, setL, List.set_append, if_neg (by omega), show a.length + o - a.length = o by omega]
    exact setL_app a vs (xs.set o v) (o + 1)
theorem ownsRow_cells {base e size g n cap : Nat} : ∀ (vs : List Value) (w : World) (xs : List Value) (o : Nat), w.ownsRow base e size (.slice (some ⟨g, 0, none⟩) n cap) n xs → (w.setCells g o vs).ownsRow base e size (.slice (some ⟨g, 0, none⟩) n cap) n (setL xs o vs)
  | [], _, _, _, h => h
  | v :: vs, w, xs, o, h => ownsRow_cells vs (w.setCell ⟨g, o, none⟩ v) (xs.set o v) (o + 1) (h.stored o v).1
end Go.Proofs.YtafmjckpbcijoaaGreatDoor

/-
  A command set in a row of entries of one's own.
-/
namespace Go.Proofs.YtafmjckpbcijoaaGreatDoor
open Go.RowKit
set_option linter.unusedVariables false
set_option linter.unusedSimpArgs false

def setCE (c : CmdV) (e : Ent) : Ent := ⟨e.t, c.cl, c.sq, c.op, c.ky, c.vl, c.ol⟩
def Ent.cmd (e : Ent) : CmdV := ⟨e.cl, e.sq, e.op, e.k, e.v, e.o⟩
def CmdV.cells (c : CmdV) : List Value := [.int .i64 c.cl, .int .i64 c.sq, .int .i64 c.op, .string c.ky, .string c.vl, .string c.ol]
theorem entCells_setC (c : CmdV) : ∀ (l : List Ent) (i : Nat) (hi : i < l.length), entCells (l.set i (setCE c l[i])) = setL (entCells l) (i * 7 + 1) c.cells
  | [], i, hi => by simp at hi
  | e :: l, 0, hi => by simp [entCells, Ent.cells, setCE, CmdV.cells, setL]
  | e :: l, i + 1, hi => by
    have hi' : i < l.length := by simpa using hi
    have h7 : e.cells.length = 7 := rfl
    simp only [List.set_cons_succ, List.getElem_cons_succ, entCells]
    rw [entCells_setC c l i hi', show (i + 1) * 7 + 1 = e.cells.length + (i * 7 + 1) by rw [h7]; omega, setL_app e.cells c.cells (entCells l) (i * 7 + 1)]
theorem OwnE.setC {w : World} {B q c n : Nat} {l : List Ent} (h : OwnE w B (.slice (some ⟨q, 0, none⟩) n c) l) (hn : n = l.length) (i : Nat) (hi : i < l.length) (x : CmdV) (hx : x.ky.size ≤ maxLen ∧ x.vl.size ≤ maxLen ∧ x.ol.size ≤ maxLen) : OwnE (w.setCells q (i * 7 + 1) x.cells) B (.slice (some ⟨q, 0, none⟩) n c) (l.set i (setCE x l[i])) := by
  subst hn
  refine ⟨fun e he => ?_, ?_⟩
  · rcases List.mem_or_eq_of_mem_set he with he | he
    · exact h.1 e he
    · subst he; exact hx
  · rw [List.length_set, entCells_setC x l i hi]
    exact ownsRow_cells _ _ _ _ h.2
/-- what is written in the row itself: a row grown -/
theorem grewCell {w : World} {q i n c : Nat} (x : Value) : Grew w (.slice (some ⟨q, 0, none⟩) n c) (w.setCell ⟨q, i, none⟩ x) (.slice (some ⟨q, 0, none⟩) n c) :=
  ⟨⟨rfl, rfl, rfl, by simp, fun k _ hk => Below.heap_setCell _ _ _ _ (fun e => hk (by rw [e]; rfl))⟩, .inl rfl⟩
theorem grewCells {n c q : Nat} : ∀ (vs : List Value) (w : World) (i : Nat), Grew w (.slice (some ⟨q, 0, none⟩) n c) (w.setCells q i vs) (.slice (some ⟨q, 0, none⟩) n c)
  | [], w, i => Grew.refl _ _
  | v :: vs, w, i => (grewCell v).trans (grewCells vs _ (i + 1))
/-- a draw's state and its blocks, over something that leaves these blocks -/
theorem Dr.reF {w0 w w' : World} {g k k' : Nat} {v : Value} {l : List Int} {F : List (Nat × Array Value × TypeId)} (h : Dr w0 w g v l k F) (h' : Dr w0 w' g v l k' []) (hF : ∀ x ∈ F, w'.heap[x.1]? = w.heap[x.1]?) : Dr w0 w' g v l k' F :=
  ⟨h'.grown, h'.src, h'.gl, h'.bs0, fun i x e => ⟨(h.blks i x e).1, ((h.blks i x e).2.1).keep (hF x (List.mem_of_getElem? e)), (h.blks i x e).2.2⟩, h.dis⟩
end Go.Proofs.YtafmjckpbcijoaaGreatDoor

/-
  A call that spoils what it is given: what it leaves.
-/
namespace Go.Proofs.YtafmjckpbcijoaaGreatDoor
open Go.RowKit
set_option linter.unusedVariables false
set_option linter.unusedSimpArgs false

def entAtD (L : List Ent) (i : Nat) : Ent := L[i]?.getD ⟨0, 0, 0, 0, ⟨#[]⟩, ⟨#[]⟩, ⟨#[]⟩⟩
theorem entAtD_get {L : List Ent} {i : Nat} (h : i < L.length) : entAtD L i = L[i] := by
  unfold entAtD
  rw [List.getElem?_eq_getElem h]
  rfl
/-- what a spoilt state's call leaves -/
def BadAt (w0 w w' : World) (g : Nat) (v : Value) (l : List Int) (u : Value) (L : List Ent) (K : Nat) : Prop :=
  OwnE w' w0.heap.size u L ∧ Dr w0 w' g v l K [] ∧ ∀ b, b < w.heap.size → b ≠ g → u.ownBlock ≠ some b → w'.heap[b]? = w.heap[b]?
theorem badAt_quiet {w0 w w' : World} {g k K : Nat} {v u : Value} {l : List Int} {L : List Ent} (h : Dr w0 w g v l k []) (hO : OwnE w w0.heap.size u L) (hs : Src w' g v l K) (hg : w.grownBy w' (some g)) : BadAt w0 w w' g v l u L K :=
  ⟨hO.grown hg h.gl, h.call hs hg, fun b hb hne _ => hg.block b hb (fun e => hne (by injection e))⟩
theorem Dr.rebase {w0 w W : World} {g k k' : Nat} {v : Value} {l : List Int} {F : List (Nat × Array Value × TypeId)} (h : Dr w0 w g v l k []) (h' : Dr w W g v l k' F) : Dr w0 W g v l k' F :=
  ⟨grownBy_trans h.grown h'.grown, h'.src, h.gl, h.bs0, fun i x e => ⟨Nat.le_trans h.size (h'.blks i x e).1, (h'.blks i x e).2⟩, h'.dis⟩
theorem setCellsOther {g k : Nat} (h : k ≠ g) : ∀ (vs : List Value) (o : Nat) (w : World), (w.setCells g o vs).heap[k]? = w.heap[k]?
  | [], _, _ => rfl
  | v :: vs, o, w => (setCellsOther h vs (o + 1) _).trans (Below.heap_setCell w ⟨g, o, none⟩ v k h)
theorem six_cells (u : World) (q o : Nat) (c : CmdV) : ((((((u.setCell ⟨q, o, none⟩ (.int .i64 c.cl)).setCell ⟨q, o + 1, none⟩ (.int .i64 c.sq)).setCell ⟨q, o + 2, none⟩ (.int .i64 c.op)).setCell ⟨q, o + 3, none⟩ (.string c.ky)).setCell ⟨q, o + 4, none⟩ (.string c.vl)).setCell ⟨q, o + 5, none⟩ (.string c.ol)) = u.setCells q o c.cells := rfl
theorem longV_size (n : Nat) (x : Int) : (longV n x).size = n := by
  unfold longV
  rw [strOfNums_size, List.length_replicate]
theorem badC_fits (l : List Int) (k : Nat) (c : CmdV) (h : c.ky.size ≤ maxLen ∧ c.vl.size ≤ maxLen ∧ c.ol.size ≤ maxLen) : (badC l k c).1.ky.size ≤ maxLen ∧ (badC l k c).1.vl.size ≤ maxLen ∧ (badC l k c).1.ol.size ≤ maxLen := by
  obtain ⟨h1, h2, h3⟩ := h
  have hp : ∀ j, pickV l j 2 ≤ 2 := fun j => Nat.le_of_lt (pickV_lt l j 2 (by decide))
  have hq : ∀ j x, (longV (64 + pickV l j 2) x).size ≤ maxLen := fun j x => by rw [longV_size]; have := hp j; unfold maxLen; omega
  have hr : ∀ j x, (longV (pickV l j 2) x).size ≤ maxLen := fun j x => by rw [longV_size]; have := hp j; unfold maxLen; omega
  have h0 : (⟨#[]⟩ : ByteArray).size ≤ maxLen := Nat.zero_le _
  unfold badC
  split
  · exact ⟨h1, h2, h3⟩
  split
  · exact ⟨h1, h2, h3⟩
  split
  · exact ⟨h1, h2, h3⟩
  split
  · exact ⟨h1, h2, h3⟩
  split
  · exact ⟨h0, h2, h3⟩
  split
  · exact ⟨hq _ _, h2, h3⟩
  split
  · exact ⟨h1, hq _ _, h3⟩
  split
  · exact ⟨h1, h2, hq _ _⟩
  · exact ⟨hr _ _, hr _ _, hr _ _⟩
theorem Dr.reBad {w0 w w' : World} {g k K : Nat} {v u : Value} {l : List Int} {L L' : List Ent} {B : Nat} {F : List (Nat × Array Value × TypeId)} (h : Dr w0 w g v l k F) (hO : OwnE w B u L) (hb : BadAt w0 w w' g v l u L' K) (hT : ∀ x ∈ F, 87 ≠ x.2.2) : Dr w0 w' g v l K F :=
  h.reF hb.2.1 (fun x hx => by
    obtain ⟨i, hi⟩ := List.getElem?_of_mem hx
    have hbk := (h.blks i x hi).2.1
    exact hb.2.2 x.1 hbk.lt (by have h1 := (h.blks i x hi).1; have h2 := h.gl; omega) (ownsRow.neBlk hO.2 hbk (hT x hx)))
theorem OwnE.bad {w0 w w' : World} {g K : Nat} {v u u' : Value} {l : List Int} {L' L2 : List Ent} {B : Nat} (hN : OwnE w B u' L2) (hb : BadAt w0 w w' g v l u L' K) (hg : g < B) (hap : ∀ q, u.ownBlock = some q → u'.ownBlock ≠ some q) : OwnE w' B u' L2 :=
  hN.block fun q hq => hb.2.2 q (hN.2.lt q hq).2 (by have := (hN.2.lt q hq).1; omega) (fun e => hap q e hq)
end Go.Proofs.YtafmjckpbcijoaaGreatDoor
