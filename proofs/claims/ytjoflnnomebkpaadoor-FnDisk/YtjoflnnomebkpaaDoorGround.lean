import Derived.Test.YtjoflnnomebkpaaDoorRows
import Derived.WalkKit
import Derived.WalkSpells
import Derived.RowKit3
import Derived.Below
import Derived.Deep.Light
import Derived.Deep.QuietTactic
import Derived.BigQuiet
import Derived.Laws.OwnMore
import Derived.Laws.BitsAllLaws
import Derived.OwnWalk
import Derived.Lib.AppendStr
import Derived.Maps.AppendAt
import Derived.Lib.SliceRun
import Derived.Deep.RegionHeld3
import Derived.Deep.AppendLies
import Derived.Deep.MidRow
import Derived.Deep.WholeRow
import Derived.Laws.StructEq
import Derived.Deep.DeepCutAuto
import Derived.Deep.RegionWith
/-
  Small things that every walk wants.
-/
namespace Go.Proofs.YtjoflnnomebkpaaDoor
open Go.RowKit
set_option linter.unusedVariables false

theorem bcell {W w1 : World} (hb : Below W.heap.size W w1) : (∀ b o, b < W.heap.size → w1.cell? ⟨b, o, none⟩ = W.cell? ⟨b, o, none⟩) ∧ (∀ b o, b < W.heap.size → w1.frozen? ⟨b, o, none⟩ = W.frozen? ⟨b, o, none⟩) :=
  ⟨fun b o h => hb.cell (p := ⟨b, o, none⟩) h, fun b o h => hb.frozen (p := ⟨b, o, none⟩) h⟩

theorem ret_int {k : IntKind} {a b : Int} (h : a = b) : Ending.returned (.int k a) = .returned (.int k b) := by rw [h]

theorem ifc {α : Type} {p q : Prop} [Decidable p] [Decidable q] {a b c d : α} (h : p ↔ q) (h1 : a = c) (h2 : b = d) : (if p then a else b) = if q then c else d := by
  subst h1 h2
  by_cases hp : p
  · rw [if_pos hp, if_pos (h.1 hp)]
  · rw [if_neg hp, if_neg (fun hq => hp (h.2 hq))]
end Go.Proofs.YtjoflnnomebkpaaDoor

/-
  Byte slices: what a slice value holds; laws.toByteS, laws.eqByteS.
-/
namespace Go.Proofs.YtjoflnnomebkpaaDoor
open Go.RowKit
set_option linter.unusedVariables false

/-- the slice value v holds, in the world w, the bytes l -/
def Bs (w : World) (v : Value) (l : List Int) : Prop :=
  l.length ≤ maxLen ∧ (∀ x ∈ l, 0 ≤ x ∧ x ≤ 255) ∧
  ∃ a cap, v = .slice a l.length cap ∧ ∀ i, i < l.length → ∃ b off, a = some ⟨b, off, none⟩ ∧ ∀ j, j < l.length → w.cell? ⟨b, off + j, none⟩ = some (.int .u8 (l[j]?.getD 0))

theorem byte_at {l : List Int} (h : ∀ x ∈ l, 0 ≤ x ∧ x ≤ 255) (k : Nat) : 0 ≤ l[k]?.getD 0 ∧ l[k]?.getD 0 ≤ 255 := by
  rcases Nat.lt_or_ge k l.length with hk | hk
  · rw [List.getElem?_eq_getElem hk]; exact h _ (List.getElem_mem hk)
  · rw [List.getElem?_eq_none hk]; simp

theorem cell_lt {w : World} {b o : Nat} {v : Value} (h : w.cell? ⟨b, o, none⟩ = some v) : b < w.heap.size := by
  rcases Nat.lt_or_ge b w.heap.size with h' | h'
  · exact h'
  · rw [World.cell?, Array.getElem?_eq_none h'] at h; simp at h

theorem Bs.below {w w' : World} {v : Value} {l : List Int} (h : Bs w v l) (hb : Below w.heap.size w w') : Bs w' v l := by
  obtain ⟨hl, h8, a, cap, rfl, hc⟩ := h
  refine ⟨hl, h8, a, cap, rfl, fun i hi => ?_⟩
  obtain ⟨b, off, rfl, hj⟩ := hc i hi
  exact ⟨b, off, rfl, fun j hj' => by rw [hb.cell (cell_lt (hj j hj'))]; exact hj j hj'⟩


set_option maxHeartbeats 1000000 in
/-- two slices of the same bytes -/
theorem eqByteS_same (v u : Value) (l : List Int) (w : World) (hv : Bs w v l) (hu : Bs w u l) :
    Calls Tryd.prog 25 #[v, u] w fun e w' => e = .returned (.bool true) ∧ Below w.heap.size w w' := by
  obtain ⟨hl, h8, a, cap, rfl, hc⟩ := hv
  obtain ⟨_, _, a', cap', rfl, hc'⟩ := hu
  unfold maxLen at hl
  go_enter Tryd.func25, Tryd.ntmps25
  go_wp2
  go_loopw [5] (fun i wr => ∃ k : Nat, k ≤ l.length ∧ i = .int .i64 k ∧ ∃ n, wr = w.drewN n) (fun i _ => l.length - (intOf i).toNat)
  case atStart => exact ⟨0, Nat.zero_le _, rfl, 0, rfl⟩
  case round =>
    obtain ⟨k, hk, rfl, n, rfl⟩ := hrel
    by_cases hlt : k < l.length
    · obtain ⟨b, off, rfl, hcell⟩ := hc k hlt
      obtain ⟨b', off', rfl, hcell'⟩ := hc' k hlt
      have hck := hcell k hlt
      have hck' := hcell' k hlt
      clear hcell hcell' hc hc'
      go_wp2
      go_quiet (fail)
      go_wp2
      go_roundw
      case rel => exact ⟨k + 1, by omega, by go_num, _, rfl⟩
      case measure => simp [intOf]; omega
    · have e : k = l.length := by omega
      subst e
      go_wp2
      go_ret
      exact ⟨rfl, rfl, rfl, rfl, Nat.le_refl _, fun _ _ => rfl⟩
end Go.Proofs.YtjoflnnomebkpaaDoor

/-
  Byte slices that the call itself owns; append to them.
-/
namespace Go.Proofs.YtjoflnnomebkpaaDoor
open Go.RowKit
set_option linter.unusedVariables false

theorem infoU8 : (Tryd.prog.info? 5).map (fun i => (i.zero, i.size, i.bytes)) = some (some (.int .u8 0), 1, 1) := by kernel_rfl

/-- the slice value v, in memory from block B on that is the call's own, holds the bytes l -/
def Own (w : World) (B : Nat) (v : Value) (l : List Int) : Prop :=
  (∀ x ∈ l, 0 ≤ x ∧ x ≤ 255) ∧ w.ownsRow B 5 1 v l.length (l.map (Value.int .u8))

theorem Own.nil (w : World) (B : Nat) : Own w B (.slice none 0 0) [] := ⟨by simp, by simpa using World.ownsRow_nil w B 5 1⟩

theorem Own.shape {w : World} {B : Nat} {v : Value} {l : List Int} (h : Own w B v l) : ∃ a cap, v = .slice a l.length cap := by
  rcases h.2.2 with ⟨rfl, h0⟩ | ⟨g, cap, cur, rfl, _⟩
  · exact ⟨none, 0, by rw [h0]⟩
  · exact ⟨_, _, rfl⟩

theorem Own.shape' {w : World} {B : Nat} {v : Value} {l : List Int} (h : Own w B v l) (hl : 0 < l.length) : ∃ g cap, v = .slice (some ⟨g, 0, none⟩) l.length cap := by
  rcases h.2.2 with ⟨rfl, h0⟩ | ⟨g, cap, cur, rfl, _⟩
  · omega
  · exact ⟨_, _, rfl⟩

theorem Own.le {w : World} {B B' : Nat} {v : Value} {l : List Int} (h : Own w B v l) (hb : B' ≤ B) : Own w B' v l := by
  refine ⟨h.1, h.2.1, ?_⟩
  rcases h.2.2 with h | ⟨g, cap, cur, hv, hg, r⟩
  · exact .inl h
  · exact .inr ⟨g, cap, cur, hv, Nat.le_trans hb hg, r⟩

theorem heap_lt {w : World} {g : Nat} {o : Obj} (h : w.heap[g]? = some o) : g < w.heap.size := by
  rcases Nat.lt_or_ge g w.heap.size with h' | h'
  · exact h'
  · rw [Array.getElem?_eq_none h'] at h; cases h

theorem Own.below {w w' : World} {B : Nat} {v : Value} {l : List Int} (h : Own w B v l) (hb : Below w.heap.size w w') : Own w' B v l := by
  refine ⟨h.1, h.2.1, ?_⟩
  rcases h.2.2 with h | ⟨g, cap, cur, hv, hg, hh, r⟩
  · exact .inl h
  · exact .inr ⟨g, cap, cur, hv, hg, (hb.block g (heap_lt hh)).trans hh, r⟩

theorem Own.block {w w' : World} {B : Nat} {v : Value} {l : List Int} (h : Own w B v l) (hb : ∀ k, v.ownBlock = some k → w'.heap[k]? = w.heap[k]?) : Own w' B v l := by
  refine ⟨h.1, h.2.1, ?_⟩
  rcases h.2.2 with h | ⟨g, cap, cur, hv, hg, hh, r⟩
  · exact .inl h
  · subst hv
    exact .inr ⟨g, cap, cur, rfl, hg, (hb g rfl).trans hh, r⟩

theorem cell_add (b o j : Nat) : (⟨b, o, none⟩ : Addr).add j = ⟨b, o + j, none⟩ := by
  unfold Addr.add
  split
  · next h => subst h; rfl
  · rfl

theorem Own.bs {w : World} {B : Nat} {v : Value} {l : List Int} (h : Own w B v l) (hl : l.length ≤ maxLen) : Bs w v l := by
  obtain ⟨a, cap, rfl⟩ := h.shape
  refine ⟨hl, h.1, a, cap, rfl, fun i hi => ?_⟩
  obtain ⟨g, cap', e⟩ := h.shape' (by omega)
  simp only [Value.slice.injEq] at e
  obtain ⟨rfl, _, rfl⟩ := e
  refine ⟨g, 0, rfl, fun j hj => ?_⟩
  have := h.2.cellAt j (by omega)
  rw [Nat.zero_add, this]
  simp [hj]

theorem Own.lit (w : World) (l : List Int) (cs : Array Value) (hc : cs.toList = l.map (Value.int .u8)) (h8 : ∀ x ∈ l, 0 ≤ x ∧ x ≤ 255) (hl : l.length ≤ maxLen) :
    Own (w.alloc (.cells cs 5)) w.heap.size (.slice (some ⟨w.heap.size, 0, none⟩) l.length l.length) l := by
  have hs : cs.size = l.length := by rw [← Array.length_toList, hc, List.length_map]
  refine ⟨h8, by simp, .inr ⟨w.heap.size, l.length, cs, rfl, Nat.le_refl _, ?_, Nat.le_refl _, hl, by omega, ?_⟩⟩
  · show (w.heap.push _)[_]? = _
    simp
  · rw [hc, List.take_of_length_le (by simp)]

/-- w' is w but for v's own row and new blocks; the new value v' lies in v's row or in a new block -/
structure Grew (w : World) (v : Value) (w' : World) (v' : Value) : Prop where
  g : w.grownBy w' v.ownBlock
  at' : v'.ownBlock = v.ownBlock ∨ ∃ k, v'.ownBlock = some k ∧ w.heap.size ≤ k

theorem Grew.refl (w : World) (v : Value) : Grew w v w v := ⟨⟨rfl, rfl, rfl, Nat.le_refl _, fun _ _ _ => rfl⟩, .inl rfl⟩
theorem Grew.trans {w w1 w2 : World} {v v1 v2 : Value} (h : Grew w v w1 v1) (k : Grew w1 v1 w2 v2) : Grew w v w2 v2 := by
  have hs := h.g.size
  refine ⟨⟨k.g.os.trans h.g.os, k.g.tape.trans h.g.tape, k.g.output.trans h.g.output, Nat.le_trans h.g.size k.g.size, fun i hi hne => ?_⟩, ?_⟩
  · refine (k.g.block i (by omega) ?_).trans (h.g.block i hi hne)
    rcases h.at' with e | ⟨j, e, hj⟩
    · rw [e]; exact hne
    · rw [e]; intro he; injection he with he; omega
  · rcases k.at' with e | ⟨j, e, hj⟩
    · rw [e]; exact h.at'
    · exact .inr ⟨j, e, by omega⟩
theorem Grew.alloc {w w' : World} {v v' : Value} (h : Grew w v w' v') (o : Obj) : Grew w v (w'.alloc o) v' :=
  h.trans ⟨World.grownBy_alloc _ _ _, .inl rfl⟩
theorem Grew.below {B : Nat} {w w' : World} {v v' : Value} {l : List Int} (h : Grew w v w' v') (hown : Own w B v l) (hB : B ≤ w.heap.size) : Below B w w' :=
  (Below.refl _ _).grown h.g hB (fun k hk => (hown.2.lt k hk).1)
/-- a block that is not v's own stays -/
theorem Grew.block {w w' : World} {v v' : Value} (h : Grew w v w' v') {k : Nat} (hk : k < w.heap.size) (hne : v.ownBlock ≠ some k) : w'.heap[k]? = w.heap[k]? := h.g.block k hk (fun e => hne e.symm)
theorem Grew.far {w w' : World} {v v' : Value} (h : Grew w v w' v') {k : Nat} (hk : k < w.heap.size) (hne : v.ownBlock ≠ some k) : v'.ownBlock ≠ some k := by
  rcases h.at' with e | ⟨j, e, hj⟩
  · rw [e]; exact hne
  · rw [e]; intro he; injection he with he; omega
theorem Grew.cell {w w' : World} {v v' : Value} (h : Grew w v w' v') {k o : Nat} (hk : k < w.heap.size) (hne : v.ownBlock ≠ some k) : w'.cell? ⟨k, o, none⟩ = w.cell? ⟨k, o, none⟩ := World.cell?_of_block (w := w) (h.block hk hne)
theorem Grew.of_below {w w' : World} {v : Value} (h : Below w.heap.size w w') : Grew w v w' v := ⟨⟨h.os, h.tape, h.output, h.size, fun k hk _ => h.block k hk⟩, .inl rfl⟩

set_option maxRecDepth 100000 in
theorem wpl_append {w : World} {ops : Array Oper} {rest : List Oper} {o : Oper} {a : Act} {Q : Exit → Act → World → Prop} (hgd : o.guard = none) (s x : Operand)
    (ho : o.op = .call { callee := .builtin .append, args := #[s, x], argTypes := #[22, 22] })
    {B : Nat} {v u : Value} {l l2 : List Int} (hown : Own w B v l) (hs : a.eval s = v) (hu : Bs w u l2) (hx : a.eval x = u) (hne : 0 < l2.length) (hlen : l.length + l2.length ≤ 1073741824) (hB : B ≤ w.heap.size)
    (h : ∀ v' w', Own w' B v' (l ++ l2) → Grew w v w' v' → wpList Tryd.prog ops Q rest (a.put o.dst v') w') : wpList Tryd.prog ops Q (o :: rest) a w := by
  obtain ⟨i0, hi, hz0, hz1, hz2⟩ := info_parts infoU8
  obtain ⟨_, h8, au, cu, rfl, hc⟩ := hu
  obtain ⟨b, off, rfl, hcell⟩ := hc 0 hne
  refine wpList_append_own_at w hgd s x 22 ho B 5 i0 (.int .u8 0) 1 1 Tryd.underlying22 hi hz0 hz1 hz2 rfl (by decide) v l.length _ hs hown.2 ⟨b, off, none⟩ l2.length cu (l2.map (Value.int .u8)) hx (by simp) ?_ ?_ (by unfold maxLen; omega) (by omega) hB ?_
  · intro j u hj
    rw [cell_add]
    rw [List.getElem?_map] at hj
    cases hk : l2[j]? with
    | none => rw [hk] at hj; cases hj
    | some y =>
      rw [hk] at hj
      have hjl : j < l2.length := by
        rcases Nat.lt_or_ge j l2.length with h' | h'
        · exact h'
        · rw [List.getElem?_eq_none h'] at hk; cases hk
      rw [hcell j hjl, hk]
      exact hj
  · intro u hu
    simp only [List.mem_map] at hu
    obtain ⟨y, _, rfl⟩ := hu
    rfl
  · intro v' w' h2 h3 _ h5
    refine h v' w' ⟨fun y hy => ?_, by simpa using h2⟩ ⟨h3, h5.imp id fun e => ⟨_, e, Nat.le_refl _⟩⟩
    rcases List.mem_append.1 hy with hy | hy
    · exact hown.1 y hy
    · exact h8 y hy

/-- the bytes of a string -/
def strL (s : ByteArray) : List Int := s.data.toList.map fun c => (c.toNat : Int)
theorem strL_len (s : ByteArray) : (strL s).length = s.size := by simp [strL]
theorem strL_byte (s : ByteArray) : ∀ x ∈ strL s, 0 ≤ x ∧ x ≤ 255 := by
  intro x hx
  simp only [strL, List.mem_map] at hx
  obtain ⟨c, _, rfl⟩ := hx
  have := c.toNat_lt
  omega

set_option maxRecDepth 100000 in
theorem wpl_append_str {w : World} {ops : Array Oper} {rest : List Oper} {o : Oper} {a : Act} {Q : Exit → Act → World → Prop} (hgd : o.guard = none) (sl x : Operand)
    (ho : o.op = .call { callee := .builtin .append, args := #[sl, x], argTypes := #[22, 9] })
    {B : Nat} {v : Value} {l : List Int} {t : ByteArray} (hown : Own w B v l) (hpos : 0 < l.length) (hs : a.eval sl = v) (hx : a.eval x = .string t) (hlen : l.length + t.size ≤ 1073741824) (hB : B ≤ w.heap.size)
    (h : ∀ v' w', Own w' B v' (l ++ strL t) → Grew w v w' v' → wpList Tryd.prog ops Q rest (a.put o.dst v') w') : wpList Tryd.prog ops Q (o :: rest) a w := by
  obtain ⟨i0, hi, hz0, hz1, hz2⟩ := info_parts infoU8
  refine wpList_plain hgd fun K hK => ?_
  obtain ⟨v', w', hr, h2, h3, h4⟩ := Lib.run_append_own_string (P := Tryd.prog) w B 22 9 o.type 5 i0 Tryd.underlying22 Tryd.underlying9 hi hz0 hz1 hz2 v l.length _ hown.2 t (by unfold maxLen; omega) (by omega) hB
  have hat : v'.ownBlock = v.ownBlock ∨ ∃ k, v'.ownBlock = some k ∧ w.heap.size ≤ k := by
    rcases hown.2.2 with ⟨_, h0⟩ | ⟨g, cap, cur, rfl, hbg, hg, hnc, hcm, hcs, htake⟩
    · omega
    · have hcs' : cur.size = cap := by simpa using hcs
      by_cases hroom : l.length + t.size ≤ cap
      · have hr2 := Lib.run_append_room_string (P := Tryd.prog) w 22 9 o.type 5 i0 Tryd.underlying22 Tryd.underlying9 hi hz1 g l.length cap cur hg t hroom (by omega)
        rw [hr2] at hr
        injection hr with e1 e2
        rw [← e1]
        exact .inl rfl
      · have holds := hown.2.cells (g := g) rfl
        have hr2 := Lib.run_append_grow_string (P := Tryd.prog) w 22 9 o.type 5 i0 (.int .u8 0) Tryd.underlying22 Tryd.underlying9 hi hz0 ⟨g, 0, none⟩ l.length cap (l.map (Value.int .u8)) (by rw [hz1]; simp) holds t (by omega) (by omega) (by rw [hz2]; exact growslice_fits (by omega) (by omega))
        rw [hr2] at hr
        injection hr with e1 e2
        rw [← e1]
        exact .inr ⟨_, rfl, Nat.le_refl _⟩
  unfold Oper.wp execOp
  simp only [ho, resolve, invoke, builtin, Sem.run_bind, Sem.run_pure, Result.andThen_ok, List.map_toArray, List.map_cons, List.map_nil, hs, hx, hr]
  refine hK _ _ (h v' w' ⟨fun y hy => ?_, ?_⟩ ⟨h3, hat⟩)
  · rcases List.mem_append.1 hy with hy | hy
    · exact hown.1 y hy
    · exact strL_byte t y hy
  · have e : (l ++ strL t).map (Value.int .u8) = l.map (Value.int .u8) ++ Lib.strCells t := by
      rw [List.map_append]
      congr 1
      simp [strL, Lib.strCells]
    rw [e, List.length_append, strL_len]
    exact h2
end Go.Proofs.YtjoflnnomebkpaaDoor

/-
  Calls that turn one span of blocks alone.
-/
namespace Go.Proofs.YtjoflnnomebkpaaDoor
open Go.RowKit
set_option linter.unusedVariables false

theorem grown_set (w : World) (g j : Nat) (x : Value) (row : Option Nat) (hr : row = some g) : w.grownBy (w.setCell ⟨g, j, none⟩ x) row :=
  ⟨rfl, rfl, rfl, by simp [World.setCell], fun k _ hk => Below.heap_setCell _ _ _ _ (fun e => hk (by rw [hr, e]))⟩
theorem grown_trans {w w1 w2 : World} {row : Option Nat} (h : w.grownBy w1 row) (k : w1.grownBy w2 row) : w.grownBy w2 row :=
  ⟨k.os.trans h.os, k.tape.trans h.tape, k.output.trans h.output, Nat.le_trans h.size k.size, fun i hi hne => (k.block i (Nat.lt_of_lt_of_le hi h.size) hne).trans (h.block i hi hne)⟩
/-- of the blocks that were there, only those of the span [lo, hi) have turned -/
structure Turned (lo hi : Nat) (w w' : World) : Prop where
  os : w'.os = w.os
  tape : w'.tape = w.tape
  output : w'.output = w.output
  size : w.heap.size ≤ w'.heap.size
  block : ∀ k, k < w.heap.size → (k < lo ∨ hi ≤ k) → w'.heap[k]? = w.heap[k]?
theorem Turned.grown {w w' : World} {q lo hi : Nat} (h : w.grownBy w' (some q)) (h1 : lo ≤ q) (h2 : q < hi) : Turned lo hi w w' :=
  ⟨h.os, h.tape, h.output, h.size, fun k hk hn => h.block k hk (fun e => by injection e with e; omega)⟩
theorem Turned.rows {w w' : World} {row : Option Nat} {lo hi : Nat} (h : w.grownBy w' row) (h1 : ∀ k, row = some k → lo ≤ k ∧ k < hi) : Turned lo hi w w' :=
  ⟨h.os, h.tape, h.output, h.size, fun k hk hn => h.block k hk (fun e => by have := h1 k e.symm; omega)⟩
theorem Turned.of_below {w w' : World} (lo hi : Nat) (h : Below w.heap.size w w') : Turned lo hi w w' := ⟨h.os, h.tape, h.output, h.size, fun k hk _ => h.block k hk⟩
theorem Turned.trans {w w1 w2 : World} {lo hi : Nat} (h : Turned lo hi w w1) (k : Turned lo hi w1 w2) : Turned lo hi w w2 :=
  ⟨k.os.trans h.os, k.tape.trans h.tape, k.output.trans h.output, Nat.le_trans h.size k.size, fun i hi' hn => (k.block i (Nat.lt_of_lt_of_le hi' h.size) hn).trans (h.block i hi' hn)⟩
theorem Turned.wide {w w' : World} {lo hi lo' hi' : Nat} (h : Turned lo hi w w') (h1 : lo' ≤ lo) (h2 : hi ≤ hi') : Turned lo' hi' w w' :=
  ⟨h.os, h.tape, h.output, h.size, fun k hk hn => h.block k hk (by omega)⟩
theorem Turned.cell {w w' : World} {lo hi : Nat} (h : Turned lo hi w w') {b o : Nat} (hb : b < w.heap.size) (hn : b < lo ∨ hi ≤ b) : w'.cell? ⟨b, o, none⟩ = w.cell? ⟨b, o, none⟩ :=
  World.cell?_of_block (w := w) (h.block b hb hn)
theorem Turned.below {w w' : World} {lo hi B : Nat} (h : Turned lo hi w w') (hB : B ≤ lo) (hs : B ≤ w.heap.size) : Below B w w' :=
  ⟨h.os, h.tape, h.output, h.size, fun k hk => h.block k (by omega) (by omega)⟩
end Go.Proofs.YtjoflnnomebkpaaDoor

/-
  laws.markByteS, laws.heldByteS.
-/
namespace Go.Proofs.YtjoflnnomebkpaaDoor
open Go.RowKit
set_option linter.unusedVariables false

/-- the marks that markByteS writes -/
def marksL (k n : Nat) : List Int := (List.range n).map fun i => (((k + i) % 256 : Nat) : Int)
theorem marksL_len (k n : Nat) : (marksL k n).length = n := by simp [marksL]
theorem marksL_byte (k n : Nat) : ∀ x ∈ marksL k n, 0 ≤ x ∧ x ≤ 255 := by
  intro x hx
  simp only [marksL, List.mem_map] at hx
  obtain ⟨i, _, rfl⟩ := hx
  omega
theorem marksL_get (k n j : Nat) (h : j < n) : (marksL k n)[j]?.getD 0 = (((k + j) % 256 : Nat) : Int) := by
  simp [marksL, h]
theorem marks_step (k : Nat) (l : List Int) (j : Nat) (h : j < l.length) : (marksL k j ++ l.drop j).set j (((k + j) % 256 : Nat) : Int) = marksL k (j + 1) ++ l.drop (j + 1) := by
  have e : marksL k (j + 1) = marksL k j ++ [(((k + j) % 256 : Nat) : Int)] := by simp [marksL, List.range_succ]
  rw [e, List.set_append_right _ _ (by rw [marksL_len]; exact Nat.le_refl _), marksL_len, Nat.sub_self, List.drop_eq_getElem_cons h, List.set_cons_zero]
  simp

theorem Own.store {w : World} {B g cap : Nat} {l : List Int} (h : Own w B (.slice (some ⟨g, 0, none⟩) l.length cap) l) (j : Nat) (x : Int) (h8 : 0 ≤ x ∧ x ≤ 255) :
    Own (w.setCell ⟨g, j, none⟩ (.int .u8 x)) B (.slice (some ⟨g, 0, none⟩) l.length cap) (l.set j x) := by
  refine ⟨fun y hy => ?_, ?_⟩
  · rcases List.mem_or_eq_of_mem_set hy with hy | rfl
    · exact h.1 y hy
    · exact h8
  · have := (h.2.stored j (.int .u8 x)).1
    simpa [List.map_set] using this

set_option maxHeartbeats 1000000 in
set_option maxRecDepth 100000 in
theorem markByteS_any (v : Value) (l : List Int) (k0 : Nat) (w : World) (B : Nat) (hv : Own w B v l) (hl : l.length ≤ 20000000) (hk0 : k0 ≤ 20000000) :
    Calls Tryd.prog 28 #[v, .int .i64 k0] w fun e w' => e = .returned (.int .i64 ((k0 + l.length : Nat) : Int)) ∧ Own w' B v (marksL k0 l.length) ∧ w.grownBy w' v.ownBlock := by
  obtain ⟨a, cap, rfl⟩ := hv.shape
  have hV : Hid (Own w B (.slice a l.length cap) l) := hv
  clear hv
  go_enter Tryd.func28, Tryd.ntmps28
  go_wp2
  go_loopw [1, 5] (fun c i wr => ∃ j : Nat, j ≤ l.length ∧ i = .int .i64 j ∧ c = .int .i64 ((k0 + j : Nat) : Int) ∧ Own wr B (.slice a l.length cap) (marksL k0 j ++ l.drop j) ∧ w.grownBy wr (Value.slice a l.length cap).ownBlock) (fun _ i _ => l.length - (intOf i).toNat)
  case atStart => exact ⟨0, Nat.zero_le _, rfl, by simp, by simpa [marksL] using hV.out, ⟨rfl, rfl, rfl, Nat.le_refl _, fun _ _ _ => rfl⟩⟩
  case round =>
    obtain ⟨j, hj, rfl, rfl, ho, hg⟩ := hrel
    have hlen : (marksL k0 j ++ l.drop j).length = l.length := by simp [marksL_len]; omega
    by_cases hlt : j < l.length
    · obtain ⟨g, cap', e⟩ := hV.out.shape' (by omega)
      simp only [Value.slice.injEq] at e
      obtain ⟨rfl, _, rfl⟩ := e
      have ho' : Own wr B (.slice (some ⟨g, 0, none⟩) (marksL k0 j ++ l.drop j).length cap) (marksL k0 j ++ l.drop j) := by rw [hlen]; exact ho
      have hst := ho'.store j (((k0 + j) % 256 : Nat) : Int) (by omega)
      rw [marks_step k0 l j hlt, hlen] at hst
      have HS : Hid (Own (wr.setCell ⟨g, j, none⟩ (.int .u8 (((k0 + j) % 256 : Nat) : Int))) B (.slice (some ⟨g, 0, none⟩) l.length cap) (marksL k0 (j + 1) ++ l.drop (j + 1))) := hst
      have hf := ho'.2.frozenAt j
      have hcell := ho'.2.cellAt j (by omega)
      obtain ⟨y, hy⟩ : ∃ y, wr.cell? ⟨g, j, none⟩ = some y := by
        rw [hcell]
        exact ⟨_, List.getElem?_eq_getElem (by rw [List.length_map]; omega)⟩
      have HG : Hid (w.grownBy wr (some g)) := hg
      clear hst hcell ho' ho hg hlen
      go_wp2
      go_roundw
      case rel => exact ⟨j + 1, by omega, by go_num, by go_num, by simpa using HS.out, grown_trans HG.out (grown_set _ _ _ _ _ rfl)⟩
      case measure => simp [intOf]; omega
    · have e : j = l.length := by omega
      subst e
      rw [List.drop_length, List.append_nil] at ho
      go_wp2
      go_ret
      exact ⟨rfl, ho, hg⟩

set_option maxHeartbeats 1000000 in
theorem heldByteS_any (v : Value) (k0 n : Nat) (w : World) (hv : Bs w v (marksL k0 n)) (hn : n ≤ 20000000) (hk0 : k0 ≤ 20000000) :
    Calls Tryd.prog 29 #[v, .int .i64 k0] w fun e w' => e = .returned (.int .i64 ((k0 + n : Nat) : Int)) ∧ w' = w := by
  obtain ⟨hl, h8, a, cap, rfl, hc⟩ := hv
  rw [marksL_len] at hc ⊢
  go_enter Tryd.func29, Tryd.ntmps29
  go_wp2
  go_loop [1, 5] (fun c i => ∃ j : Nat, j ≤ n ∧ i = .int .i64 j ∧ c = .int .i64 ((k0 + j : Nat) : Int)) (fun _ i => n - (intOf i).toNat)
  case atStart => exact ⟨0, Nat.zero_le _, rfl, by simp⟩
  case round =>
    obtain ⟨j, hj, rfl, rfl⟩ := hrel
    by_cases hlt : j < n
    · obtain ⟨b, off, rfl, hcell⟩ := hc j hlt
      have hcj := hcell j hlt
      rw [marksL_get k0 n j hlt] at hcj
      clear hcell hc
      go_wp2
      go_round
      case rel => exact ⟨j + 1, by omega, by go_num, by go_num⟩
      case measure => simp [intOf]; omega
    · have e : j = n := by omega
      subst e
      go_wp2
      go_ret
      exact ⟨rfl, rfl⟩

/-- a slice of the call's own stays where only rows from B1 on were written -/
theorem Own.far {w w' : World} {B B1 : Nat} {v : Value} {l : List Int} (h : Own w B v l) (hb : Below B1 w w') (hlt : ∀ k, v.ownBlock = some k → k < B1) : Own w' B v l := by
  refine ⟨h.1, h.2.1, ?_⟩
  rcases h.2.2 with h | ⟨g, cap, cur, hv, hg, hh, r⟩
  · exact .inl h
  · exact .inr ⟨g, cap, cur, hv, hg, (hb.block g (hlt g (by rw [hv]; rfl))).trans hh, r⟩
theorem Own.marked {w w' : World} {B : Nat} {v : Value} {l : List Int} (h : Own w B v l) (hg : w.grownBy w' v.ownBlock) (hB : B ≤ w.heap.size) : Below B w w' :=
  (Below.refl _ _).grown hg hB (fun k hk => (h.2.lt k hk).1)
end Go.Proofs.YtjoflnnomebkpaaDoor

/-
  Bytes that the call lays itself: one, none.
-/
namespace Go.Proofs.YtjoflnnomebkpaaDoor
open Go.RowKit
set_option linter.unusedVariables false

theorem Bs.one (w : World) (x : Int) (h : 0 ≤ x ∧ x ≤ 255) : Bs (w.alloc (.cells #[.int .u8 x] 5)) (.slice (some ⟨w.heap.size, 0, none⟩) 1 1) [x] := by
  have := (Own.lit w [x] #[.int .u8 x] rfl (by simpa using h) (by simp [maxLen])).bs (by simp [maxLen])
  simpa using this

theorem Own.lit0 (w : World) : Own (w.alloc (.cells #[] 5)) w.heap.size (.slice (some ⟨w.heap.size, 0, none⟩) 0 0) [] := Own.lit w [] #[] rfl (by simp) (by simp)

theorem Own.ne {w : World} {B : Nat} {v : Value} {l : List Int} (h : Own w B v l) {k : Nat} (hk : w.heap.size ≤ k) : v.ownBlock ≠ some k := by
  intro e
  have := (h.2.lt k e).2
  omega

end Go.Proofs.YtjoflnnomebkpaaDoor

/-
  laws.toByteS: a copy that the call owns; slices.Clone of bytes; spec.l1copy.
-/
namespace Go.Proofs.YtjoflnnomebkpaaDoor
open Go.RowKit
set_option linter.unusedVariables false

theorem infoByte : (Tryd.prog.info? 5).map (fun i => (i.zero, i.size, i.bytes)) = some (some (.int .u8 0), 1, 1) := by kernel_rfl

theorem copy_step (l : List Int) (k : Nat) (h : k < l.length) : (l.take k ++ List.replicate (l.length - k) 0).set k (l[k]?.getD 0) = l.take (k + 1) ++ List.replicate (l.length - (k + 1)) 0 := by
  have hk : (l.take k).length = k := by rw [List.length_take]; omega
  have e : l.length - k = (l.length - (k + 1)) + 1 := by omega
  rw [List.set_append_right _ _ (by omega), hk, Nat.sub_self, e, List.replicate_succ, List.set_cons_zero]
  rw [List.getElem?_eq_getElem h, Option.getD_some, show l.take (k + 1) = l.take k ++ [l[k]] by rw [List.take_succ_eq_append_getElem h], List.append_assoc]
  rfl

theorem take_byte {l : List Int} (h8 : ∀ x ∈ l, 0 ≤ x ∧ x ≤ 255) (k n : Nat) : ∀ x ∈ l.take k ++ List.replicate n 0, 0 ≤ x ∧ x ≤ 255 := by
  intro x hx
  rcases List.mem_append.1 hx with h | h
  · exact h8 x (List.mem_of_mem_take h)
  · have := List.eq_of_mem_replicate h; omega

set_option maxHeartbeats 1000000 in
set_option maxRecDepth 100000 in
theorem toByteS_own (v : Value) (l : List Int) (w : World) (hv : Bs w v l) (hl' : l.length ≤ 1048576) :
    Calls Tryd.prog 69 #[v] w fun e w' => ∃ q, e = .returned (.slice (some ⟨q, 0, none⟩) l.length l.length) ∧ w.heap.size ≤ q ∧ q < w'.heap.size ∧ Own w' w.heap.size (.slice (some ⟨q, 0, none⟩) l.length l.length) l ∧ Below w.heap.size w w' := by
  obtain ⟨hl, h8, a, cap, rfl, hc⟩ := hv
  obtain ⟨i0, hi, hz0, hz1, hz2⟩ := info_parts infoByte
  have hmk : ∀ u : World, (Instr.makeSlice 22 (.int .i64 (l.length : Int)) (.int .i64 (l.length : Int))).run Tryd.prog u =
      .ok (.slice (some ⟨u.heap.size, 0, none⟩) l.length l.length) (u.alloc (.cells (madeCells #[.int .u8 0] l.length) 5)) := fun u => by
    have h := run_make (P := Tryd.prog) u 22 5 i0 (.int .u8 0) Tryd.underlying22 hi hz0 .i64 .i64 (l.length : Int) (l.length : Int) (by omega) (Int.le_refl _) (by rw [hz2]; omega) (by omega)
    simpa [hz1, Value.cells] using h
  have H0 : Hid (Own (w.alloc (.cells (madeCells #[.int .u8 0] l.length) 5)) w.heap.size (.slice (some ⟨w.heap.size, 0, none⟩) l.length l.length) (l.take 0 ++ List.replicate (l.length - 0) 0)) := by
    have h := Own.lit w (List.replicate l.length 0) (madeCells #[.int .u8 0] l.length) (by rw [toList_madeCells_one]; simp) (by intro x hx; have := List.eq_of_mem_replicate hx; omega) (by simpa using hl)
    show Own _ _ _ _
    simpa using h
  go_enter Tryd.func69, Tryd.ntmps69
  go_wp2
  go_loopw [4] (fun i wr => ∃ k : Nat, k ≤ l.length ∧ i = .int .i64 k ∧ Own wr w.heap.size (.slice (some ⟨w.heap.size, 0, none⟩) l.length l.length) (l.take k ++ List.replicate (l.length - k) 0) ∧ Below w.heap.size w wr ∧ w.heap.size < wr.heap.size) (fun i _ => l.length - (intOf i).toNat)
  case atStart => exact ⟨0, Nat.zero_le _, rfl, H0.out, (Below.refl _ _).alloc (Nat.le_refl _) _, by simp⟩
  case round =>
    obtain ⟨k, hk, rfl, ho, hb, hz⟩ := hrel
    by_cases hlt : k < l.length
    · obtain ⟨b, off, rfl, hcell⟩ := hc k hlt
      have hlen : (l.take k ++ List.replicate (l.length - k) 0).length = l.length := by simp; omega
      have hck : wr.cell? ⟨b, off + k, none⟩ = some (.int .u8 (l[k]?.getD 0)) := by rw [hb.cell (cell_lt (hcell k hlt))]; exact hcell k hlt
      have ho' : Own wr w.heap.size (.slice (some ⟨w.heap.size, 0, none⟩) (l.take k ++ List.replicate (l.length - k) 0).length l.length) (l.take k ++ List.replicate (l.length - k) 0) := by rw [hlen]; exact ho
      have hst := ho'.store k (l[k]?.getD 0) (byte_at h8 k)
      rw [copy_step l k hlt, hlen] at hst
      have HS : Hid (Own (wr.setCell ⟨w.heap.size, k, none⟩ (.int .u8 (l[k]?.getD 0))) w.heap.size (.slice (some ⟨w.heap.size, 0, none⟩) l.length l.length) (l.take (k + 1) ++ List.replicate (l.length - (k + 1)) 0)) := hst
      have hf := ho'.2.frozenAt k
      have hcell' := ho'.2.cellAt k (by omega)
      obtain ⟨y, hy⟩ : ∃ y, wr.cell? ⟨w.heap.size, k, none⟩ = some y := by
        rw [hcell']
        exact ⟨_, List.getElem?_eq_getElem (by rw [List.length_map]; omega)⟩
      have HB : Hid (Below w.heap.size w (wr.setCell ⟨w.heap.size, k, none⟩ (.int .u8 (l[k]?.getD 0)))) := hb.setCell (Nat.le_refl _) _
      clear hcell hcell' ho ho' hst hb hlen h8 hc
      generalize l[k]?.getD 0 = cc at hck HS HB
      go_wp2
      go_roundw
      case rel => exact ⟨k + 1, by omega, by go_num, HS.out, HB.out, by simpa [World.setCell] using hz⟩
      case measure => simp [intOf]; omega
    · have e : k = l.length := by omega
      subst e
      simp only [List.take_length, Nat.sub_self, List.replicate_zero, List.append_nil] at ho
      go_wp2
      go_ret
      exact ⟨_, rfl, Nat.le_refl _, hz, ho, hb⟩

end Go.Proofs.YtjoflnnomebkpaaDoor

/-
  slices.Clone of bytes; spec.l1copy.
-/
namespace Go.Proofs.YtjoflnnomebkpaaDoor
open Go.RowKit
set_option linter.unusedVariables false

set_option maxRecDepth 100000 in
/-- append of nothing, or of bytes that lie somewhere -/
theorem wpl_append_at {w : World} {ops : Array Oper} {rest : List Oper} {o : Oper} {a : Act} {Q : Exit → Act → World → Prop} (hgd : o.guard = none) (s x : Operand)
    (ho : o.op = .call { callee := .builtin .append, args := #[s, x], argTypes := #[22, 22] })
    {B : Nat} {v : Value} {l l2 : List Int} {b off cu : Nat} (hown : Own w B v l) (hs : a.eval s = v) (hu : Bs w (.slice (some ⟨b, off, none⟩) l2.length cu) l2) (hx : a.eval x = .slice (some ⟨b, off, none⟩) l2.length cu) (hlen : l.length + l2.length ≤ 1073741824) (hB : B ≤ w.heap.size)
    (h : ∀ v' w', Own w' B v' (l ++ l2) → Grew w v w' v' → wpList Tryd.prog ops Q rest (a.put o.dst v') w') : wpList Tryd.prog ops Q (o :: rest) a w := by
  obtain ⟨i0, hi, hz0, hz1, hz2⟩ := info_parts infoU8
  obtain ⟨_, h8, au, cu', e, hc⟩ := hu
  refine wpList_append_own_at w hgd s x 22 ho B 5 i0 (.int .u8 0) 1 1 Tryd.underlying22 hi hz0 hz1 hz2 rfl (by decide) v l.length _ hs hown.2 ⟨b, off, none⟩ l2.length cu (l2.map (Value.int .u8)) hx (by simp) ?_ ?_ (by unfold maxLen; omega) (by omega) hB ?_
  · intro j u hj
    rw [cell_add]
    rw [List.getElem?_map] at hj
    cases hk : l2[j]? with
    | none => rw [hk] at hj; cases hj
    | some y =>
      rw [hk] at hj
      have hjl : j < l2.length := by
        rcases Nat.lt_or_ge j l2.length with h' | h'
        · exact h'
        · rw [List.getElem?_eq_none h'] at hk; cases hk
      obtain ⟨b', off', e', hcell⟩ := hc j hjl
      injection e with e1 e2 e3
      rw [← e1] at e'
      injection e' with e'
      injection e' with f1 f2 f3
      subst f1 f2
      rw [hcell j hjl, hk]
      exact hj
  · intro u hu
    simp only [List.mem_map] at hu
    obtain ⟨y, _, rfl⟩ := hu
    rfl
  · intro v' w' h2 h3 _ h5
    refine h v' w' ⟨fun y hy => ?_, by simpa using h2⟩ ⟨h3, h5.imp id fun e => ⟨_, e, Nat.le_refl _⟩⟩
    rcases List.mem_append.1 hy with hy | hy
    · exact hown.1 y hy
    · exact h8 y hy

set_option maxHeartbeats 1000000 in
set_option maxRecDepth 100000 in
theorem clone_any (b off cap : Nat) (l : List Int) (w : World) (hv : Bs w (.slice (some ⟨b, off, none⟩) l.length cap) l) (hl : l.length ≤ 1048576) :
    Calls Tryd.prog 85 #[.slice (some ⟨b, off, none⟩) l.length cap] w fun e w' => ∃ a' cap', e = .returned (.slice a' l.length cap') ∧ Own w' w.heap.size (.slice a' l.length cap') l ∧ Below w.heap.size w w' := by
  have h0 := Own.lit0 w
  have hv' : Hid (Bs (w.alloc (.cells #[] 5)) (.slice (some ⟨b, off, none⟩) l.length cap) l) := hv.below ((Below.refl _ _).alloc (Nat.le_refl _) _)
  have hnil : ∀ u : World, (binOp .eql 22 (.slice (some ⟨b, off, none⟩) l.length cap) (.slice none 0 0)).run Tryd.prog u = .ok (.bool false) u := fun u => by
    rw [Lib.run_eql_slice_nil u 22 5 (some ⟨b, off, none⟩) l.length cap 0 0 Tryd.underlying22]; rfl
  go_enter Tryd.func85, Tryd.ntmps85
  go_wp2_with (at_builtin; refine wpl_append_at rfl (.tmp 5) (.tmp 6) rfl h0 rfl hv'.out rfl (by simp; omega) (by simp) ?_; intro v3 w3 ho3 hg3; have hB3 := hg3.below h0 (by simp))
  go_ret
  rw [List.nil_append] at ho3
  obtain ⟨a', cap', rfl⟩ := ho3.shape
  exact ⟨_, _, rfl, ho3, ((Below.refl _ _).alloc (Nat.le_refl _) _).trans hB3⟩

theorem Own.setLow {w : World} {B : Nat} {v : Value} {l : List Int} (h : Own w B v l) {b i : Nat} (hb : b < B) (x : Value) : Own (w.setCell ⟨b, i, none⟩ x) B v l := by
  refine ⟨h.1, h.2.1, ?_⟩
  rcases h.2.2 with h | ⟨g, cap, cur, hv, hg, hh, r⟩
  · exact .inl h
  · exact .inr ⟨g, cap, cur, hv, hg, (Below.heap_setCell _ _ _ _ (fun e => by simp only at e; omega)).trans hh, r⟩

set_option maxHeartbeats 1000000 in
set_option maxRecDepth 100000 in
theorem l1copy_any (a : Option Addr) (cap : Nat) (l : List Int) (w : World) (hv : Bs w (.slice a l.length cap) l) (hl : l.length ≤ 1048576) :
    Calls Tryd.prog 72 #[.slice a l.length cap] w fun e w' => ∃ a' cap', e = .returned (.slice a' l.length cap') ∧ Own w' w.heap.size (.slice a' l.length cap') l ∧ Below w.heap.size w w' := by
  have h0 := Own.lit0 w
  obtain ⟨hm, h8, a', cap', e, hc⟩ := hv
  injection e with e1 e2 e3
  subst e1 e3
  clear e2
  have h0' : Hid (Own (w.alloc (.cells #[] 5)) w.heap.size (.slice (some ⟨w.heap.size, 0, none⟩) 0 0) (l.take 0)) := h0
  clear h0
  go_enter Tryd.func72, Tryd.ntmps72
  go_wp2
  go_loopw [3, 4] (fun o i wr => ∃ k : Nat, k ≤ l.length ∧ i = .int .i64 k ∧ Own wr w.heap.size o (l.take k) ∧ Below w.heap.size w wr) (fun _ i _ => l.length - (intOf i).toNat)
  case atStart => exact ⟨0, Nat.zero_le _, rfl, h0'.out, (Below.refl _ _).alloc (Nat.le_refl _) _⟩
  case round =>
    obtain ⟨k, hk, rfl, ho, hb⟩ := hrel
    by_cases hlt : k < l.length
    · obtain ⟨b, off, rfl, hcell⟩ := hc k hlt
      have hck : wr.cell? ⟨b, off + k, none⟩ = some (.int .u8 (l[k]?.getD 0)) := by rw [hb.cell (cell_lt (hcell k hlt))]; exact hcell k hlt
      have h8k := byte_at h8 k
      have hlk : (l.take k).length = k := by rw [List.length_take]; omega
      have e1 : l.take (k + 1) = l.take k ++ [l[k]?.getD 0] := by rw [List.take_succ_eq_append_getElem hlt, List.getElem?_eq_getElem hlt]; rfl
      have HT : Hid (l.take (k + 1) = l.take k ++ [l[k]?.getD 0]) := e1
      have hz := hb.size
      clear hcell h8 hc e1
      generalize l[k]?.getD 0 = z at hck h8k HT
      obtain ⟨z0, z1⟩ := h8k
      go_wp2_with (at_builtin; refine wpl_append rfl (.tmp 12) (.tmp 17) rfl (ho.below ((Below.refl _ _).alloc (Nat.le_refl _) _)) rfl (Bs.one _ z ⟨z0, z1⟩) rfl (by simp) (by simp; omega) (by simp; omega) ?_; intro v2 w2 ho2 hg2)
      go_roundw
      case rel => exact ⟨k + 1, by omega, by go_num, by rw [HT.out]; exact ho2, hb.trans (((Below.refl _ _).alloc (by omega) _).trans (hg2.below (ho.below ((Below.refl _ _).alloc (Nat.le_refl _) _)) (by simp; omega)))⟩
      case measure => simp [intOf]; omega
    · have e : l.take k = l := List.take_of_length_le (by omega)
      rw [e] at ho
      obtain ⟨a', cap', rfl⟩ := ho.shape
      go_wp2
      go_ret
      exact ⟨_, _, rfl, ho, hb⟩

end Go.Proofs.YtjoflnnomebkpaaDoor

/-
  impl.within.
-/
namespace Go.Proofs.YtjoflnnomebkpaaDoor
open Go.RowKit
set_option linter.unusedVariables false

/-- in a range, as a Bool that the walk leaves whole -/
def inB (n lo hi : Int) : Bool := decide (lo ≤ n) && decide (n ≤ hi)
theorem inB_iff (n lo hi : Int) : inB n lo hi = true ↔ lo ≤ n ∧ n ≤ hi := by simp [inB]
theorem inB_not (n lo hi : Int) : inB n lo hi = false ↔ (n < lo ∨ hi < n) := by
  by_cases h1 : lo ≤ n <;> by_cases h2 : n ≤ hi <;> simp [inB, h1, h2] <;> omega

set_option maxHeartbeats 400000 in
theorem within_any (n lo hi : Int) (w : World) :
    Calls Tryd.prog 84 #[.int .i64 n, .int .i64 lo, .int .i64 hi] w fun e w' => e = .returned (.bool (inB n lo hi)) ∧ w' = w := by
  by_cases h1 : lo ≤ n
  · by_cases h2 : n ≤ hi
    · have hb : inB n lo hi = true := by simp [inB, h1, h2]
      rw [hb]
      go_enter Tryd.func84, Tryd.ntmps84
      go_wp2
      go_ret
      exact ⟨rfl, rfl⟩
    · have hb : inB n lo hi = false := by simp [inB, h1]; omega
      rw [hb]
      go_enter Tryd.func84, Tryd.ntmps84
      go_wp2
      go_ret
      exact ⟨by simp, rfl⟩
  · have hb : inB n lo hi = false := by simp [inB]; omega
    rw [hb]
    go_enter Tryd.func84, Tryd.ntmps84
    go_wp2
    go_ret
    exact ⟨rfl, rfl⟩

end Go.Proofs.YtjoflnnomebkpaaDoor

/-
  spec.l1in.
-/
namespace Go.Proofs.YtjoflnnomebkpaaDoor
open Go.RowKit
set_option linter.unusedVariables false

theorem l1in_any (n lo hi : Int) (w : World) :
    Calls Tryd.prog 80 #[.int .i64 n, .int .i64 lo, .int .i64 hi] w fun e w' => e = .returned (.bool (inB n lo hi)) ∧ w' = w := by
  by_cases h1 : lo ≤ n
  · by_cases h2 : n ≤ hi
    · have hb : inB n lo hi = true := by simp [inB, h1, h2]
      rw [hb]
      go_enter Tryd.func80, Tryd.ntmps80
      go_wp2
      go_ret
      exact ⟨rfl, rfl⟩
    · have hb : inB n lo hi = false := by simp [inB, h1]; omega
      rw [hb]
      go_enter Tryd.func80, Tryd.ntmps80
      go_wp2
      go_ret
      exact ⟨by simp, rfl⟩
  · have hb : inB n lo hi = false := by simp [inB]; omega
    rw [hb]
    go_enter Tryd.func80, Tryd.ntmps80
    go_wp2
    go_ret
    exact ⟨rfl, rfl⟩

end Go.Proofs.YtjoflnnomebkpaaDoor

/-
  slices.Clone of bytes; impl.diskFits, impl.cutDisk; spec.l2diskOk, spec.l1copy, spec.l2diskCopy.
-/
namespace Go.Proofs.YtjoflnnomebkpaaDoor
open Go.RowKit
set_option linter.unusedVariables false

/-- a disk is well-formed -/
def diskB (c y : Int) (n : Nat) : Bool := inB c 0 1048576 && decide ((n : Int) ≤ c) && inB y 0 n
theorem diskB_le {c y : Int} {n : Nat} (h : diskB c y n = true) : n ≤ 1048576 ∧ 0 ≤ y ∧ y ≤ n ∧ 0 ≤ c ∧ c ≤ 1048576 ∧ (n : Int) ≤ c := by
  simp only [diskB, Bool.and_eq_true, inB_iff, decide_eq_true_eq] at h
  omega

set_option maxHeartbeats 1000000 in
set_option maxRecDepth 100000 in
theorem diskFits_any (c y : Int) (a : Option Addr) (n cap : Nat) (hn : n ≤ 1048576) (w : World) :
    Calls Tryd.prog 49 #[.agg #[.int .i64 c, .int .i64 y, .slice a n cap]] w fun e w' => e = .returned (.bool (diskB c y n)) ∧ Below w.heap.size w w' := by
  cases h1 : inB c 0 1048576
  · have hd : diskB c y n = false := by simp [diskB, h1]
    rw [hd]
    go_enter Tryd.func49, Tryd.ntmps49
    go_wp2_with (go_at_call 84; refine (within_any _ _ _ _).mono ?_; rintro e w1 ⟨rfl, rfl⟩; rw [h1])
    go_ret
    exact ⟨rfl, (Below.refl _ _).alloc (Nat.le_refl _) _⟩
  · by_cases h2 : (n : Int) ≤ c
    · have hd : diskB c y n = inB y 0 n := by simp [diskB, h1, h2]
      rw [hd]
      have g1 : True := trivial
      go_enter Tryd.func49, Tryd.ntmps49
      go_wp2_with (first
        | (go_at_call 84; clear g1; refine (within_any c 0 1048576 _).mono ?_; rintro e w1 ⟨rfl, rfl⟩; rw [h1])
        | (go_at_call 84; refine (within_any y 0 n _).mono ?_; rintro e w1 ⟨rfl, rfl⟩))
      go_ret
      exact ⟨rfl, (Below.refl _ _).alloc (Nat.le_refl _) _⟩
    · have hd : diskB c y n = false := by simp [diskB, h1, h2]
      rw [hd]
      go_enter Tryd.func49, Tryd.ntmps49
      go_wp2_with (go_at_call 84; refine (within_any _ _ _ _).mono ?_; rintro e w1 ⟨rfl, rfl⟩; rw [h1])
      go_ret
      exact ⟨rfl, (Below.refl _ _).alloc (Nat.le_refl _) _⟩

set_option maxHeartbeats 1000000 in
set_option maxRecDepth 100000 in
theorem l2diskOk_any (c y : Int) (a : Option Addr) (n cap : Nat) (hn : n ≤ 1048576) (w : World) :
    Calls Tryd.prog 45 #[.agg #[.int .i64 c, .int .i64 y, .slice a n cap]] w fun e w' => e = .returned (.bool (diskB c y n)) ∧ Below w.heap.size w w' := by
  cases h1 : inB c 0 1048576
  · have hd : diskB c y n = false := by simp [diskB, h1]
    rw [hd]
    go_enter Tryd.func45, Tryd.ntmps45
    go_wp2_with (go_at_call 80; refine (l1in_any _ _ _ _).mono ?_; rintro e w1 ⟨rfl, rfl⟩; rw [h1])
    go_ret
    exact ⟨rfl, (Below.refl _ _).alloc (Nat.le_refl _) _⟩
  · by_cases h2 : (n : Int) ≤ c
    · have hd : diskB c y n = inB y 0 n := by simp [diskB, h1, h2]
      rw [hd]
      have g1 : True := trivial
      go_enter Tryd.func45, Tryd.ntmps45
      go_wp2_with (first
        | (go_at_call 80; clear g1; refine (l1in_any c 0 1048576 _).mono ?_; rintro e w1 ⟨rfl, rfl⟩; rw [h1])
        | (go_at_call 80; refine (l1in_any y 0 n _).mono ?_; rintro e w1 ⟨rfl, rfl⟩))
      go_ret
      exact ⟨rfl, (Below.refl _ _).alloc (Nat.le_refl _) _⟩
    · have hd : diskB c y n = false := by simp [diskB, h1, h2]
      rw [hd]
      go_enter Tryd.func45, Tryd.ntmps45
      go_wp2_with (go_at_call 80; refine (l1in_any _ _ _ _).mono ?_; rintro e w1 ⟨rfl, rfl⟩; rw [h1])
      go_ret
      exact ⟨rfl, (Below.refl _ _).alloc (Nat.le_refl _) _⟩

theorem Bs.take {w : World} {a : Option Addr} {cap : Nat} {l : List Int} (h : Bs w (.slice a l.length cap) l) (n : Nat) (hn : n ≤ l.length) : Bs w (.slice a n cap) (l.take n) := by
  obtain ⟨hl, h8, a', cap', e, hc⟩ := h
  injection e with e1 e2 e3
  subst e1 e3
  have hlen : (l.take n).length = n := by rw [List.length_take]; omega
  refine ⟨by omega, fun x hx => h8 x (List.mem_of_mem_take hx), _, _, by rw [hlen], fun i hi => ?_⟩
  rw [hlen] at hi
  obtain ⟨b, off, rfl, hj⟩ := hc i (by omega)
  refine ⟨b, off, rfl, fun j hj' => ?_⟩
  rw [hlen] at hj'
  rw [hj j (by omega)]
  simp [hj']

set_option maxHeartbeats 1000000 in
set_option maxRecDepth 100000 in
theorem cutDisk_any (c y : Int) (b off cap : Nat) (l : List Int) (n : Nat) (w : World) (hv : Bs w (.slice (some ⟨b, off, none⟩) l.length cap) l) (hc : l.length ≤ cap) (hn : n ≤ l.length) (hl : l.length ≤ 1048576) :
    Calls Tryd.prog 50 #[.agg #[.int .i64 c, .int .i64 y, .slice (some ⟨b, off, none⟩) l.length cap], .int .i64 n] w fun e w' =>
      ∃ a' cap', e = .returned (.agg #[.int .i64 c, .int .i64 y, .slice a' n cap']) ∧ Own w' w.heap.size (.slice a' n cap') (l.take n) ∧ Below w.heap.size w w' := by
  have hlen : (l.take n).length = n := by rw [List.length_take]; omega
  have HT : Hid (∀ w', Below w.heap.size w w' → Calls Tryd.prog 85 #[.slice (some ⟨b, off, none⟩) n cap] w' fun e w'' => ∃ a' cap', e = .returned (.slice a' n cap') ∧ Own w'' w'.heap.size (.slice a' n cap') (l.take n) ∧ Below w'.heap.size w' w'') := fun w' hb => by
    have h := hv.take n hn
    have h2 := clone_any b off cap (l.take n) w' (by rw [hlen]; exact h.below hb) (by rw [hlen]; omega)
    rw [hlen] at h2
    exact h2
  have hb0 : Hid (Below w.heap.size w ((w.alloc (.cells #[.int .i64 c, .int .i64 y, .slice (some ⟨b, off, none⟩) l.length cap] 24)).alloc (.cells #[.int .i64 0, .int .i64 0, .slice none 0 0] 24))) := ((Below.refl _ _).alloc (Nat.le_refl _) _).alloc (by simp) _
  go_enter Tryd.func50, Tryd.ntmps50
  go_wp2_with (go_at_call 85; refine (HT.out _ hb0.out).mono ?_; rintro e w1 ⟨a1, cap1, rfl, ho1, hb1⟩; obtain ⟨hcc, hff⟩ := bcell hb1; have hz1 := hb1.size; simp at hz1; have k2 : w1.cell? ⟨w.heap.size, 2, none⟩ = some (.slice (some ⟨b, off, none⟩) l.length cap) := (hcc _ 2 (by simp; omega)).trans (by simp); have k2' := World.cell?_setCell_same w1 ⟨w.heap.size, 2, none⟩ (.slice a1 n cap1) k2; have r0 : w1.cell? ⟨w.heap.size + 1, 0, none⟩ = some (.int .i64 0) := (hcc _ 0 (by simp)).trans (by simp); have r1 : w1.cell? ⟨w.heap.size + 1, 1, none⟩ = some (.int .i64 0) := (hcc _ 1 (by simp)).trans (by simp); have r2 : w1.cell? ⟨w.heap.size + 1, 2, none⟩ = some (.slice none 0 0) := (hcc _ 2 (by simp)).trans (by simp))
  refine bodyPost_ret (v := .agg #[.int .i64 c, .int .i64 y, .slice a1 n cap1]) (by simp [results, Tryd.results50, go_sem, r0, r1, r2]) rfl ⟨_, _, rfl, ?_, ?_⟩
  · exact ((((ho1.setLow (by simp; omega) _).setLow (by simp) _).setLow (by simp) _).setLow (by simp) _).le (by simp; omega)
  · exact ((((hb0.out.trans (hb1.mono (by simp; omega))).setCell (Nat.le_refl _) _).setCell (Nat.le_succ _) _).setCell (Nat.le_succ _) _).setCell (Nat.le_succ _) _

/-! ### the specification's -/
/-- a disk that a call answers: new memory -/
def DiskAt (w w' : World) (e : Ending) (C Y : Int) (L : List Int) : Prop :=
  ∃ a' cap', e = .returned (.agg #[.int .i64 C, .int .i64 Y, .slice a' L.length cap']) ∧ Own w' w.heap.size (.slice a' L.length cap') L ∧ Below w.heap.size w w'

end Go.Proofs.YtjoflnnomebkpaaDoor

/-
  spec.l2diskCopy.
-/
namespace Go.Proofs.YtjoflnnomebkpaaDoor
open Go.RowKit
set_option linter.unusedVariables false

set_option maxHeartbeats 2000000 in
set_option maxRecDepth 100000 in
theorem l2diskCopy_any (c y : Int) (a : Option Addr) (cap : Nat) (l : List Int) (w : World) (hv : Bs w (.slice a l.length cap) l) (hl : l.length ≤ 1048576) :
    Calls Tryd.prog 46 #[.agg #[.int .i64 c, .int .i64 y, .slice a l.length cap]] w fun e w' =>
      ∃ a' cap', e = .returned (.agg #[.int .i64 c, .int .i64 y, .slice a' l.length cap']) ∧ Own w' w.heap.size (.slice a' l.length cap') l ∧ Below w.heap.size w w' := by
  have HT : Hid (∀ w', Below w.heap.size w w' → Calls Tryd.prog 72 #[.slice a l.length cap] w' fun e w'' => ∃ a' cap', e = .returned (.slice a' l.length cap') ∧ Own w'' w'.heap.size (.slice a' l.length cap') l ∧ Below w'.heap.size w' w'') := fun w' hb => l1copy_any a cap l w' (hv.below hb) hl
  have hb0 : Hid (Below w.heap.size w ((w.alloc (.cells #[.int .i64 c, .int .i64 y, .slice a l.length cap] 24)).alloc (.cells #[.int .i64 0, .int .i64 0, .slice none 0 0] 24))) := ((Below.refl _ _).alloc (Nat.le_refl _) _).alloc (by simp) _
  go_enter Tryd.func46, Tryd.ntmps46
  go_wp2
  go_region_held3 (fun w' => w'.cell? ⟨w.heap.size, 0, none⟩ = some (.int .i64 c) ∧ w'.cell? ⟨w.heap.size, 1, none⟩ = some (.int .i64 y) ∧ w'.cell? ⟨w.heap.size, 2, none⟩ = some (.slice a l.length cap)) (simp [*, go_sem])
    (first
      | (go_at_call 72; refine (HT.out _ (by first | exact hb0.out | exact hb0.out.drew | exact hb0.out.drew.drew | exact hb0.out.drew.drew.drew | exact hb0.out.drew.drew.drew.drew)).mono ?_; rintro e w1 ⟨a1, cap1, rfl, ho1, hb1⟩; obtain ⟨hcc, hff⟩ := bcell hb1; have hz1 := hb1.size; simp at hz1; have r0 : w1.cell? ⟨w.heap.size + 1, 0, none⟩ = some (.int .i64 0) := (hcc _ 0 (by simp)).trans (by simp); have r1 : w1.cell? ⟨w.heap.size + 1, 1, none⟩ = some (.int .i64 0) := (hcc _ 1 (by simp)).trans (by simp); have r2 : w1.cell? ⟨w.heap.size + 1, 2, none⟩ = some (.slice none 0 0) := (hcc _ 2 (by simp)).trans (by simp); have q0 : w1.cell? ⟨w.heap.size, 0, none⟩ = some (.int .i64 c) := (hcc _ 0 (by simp; omega)).trans (by simp); have q1 : w1.cell? ⟨w.heap.size, 1, none⟩ = some (.int .i64 y) := (hcc _ 1 (by simp; omega)).trans (by simp); have q2 : w1.cell? ⟨w.heap.size, 2, none⟩ = some (.slice a l.length cap) := (hcc _ 2 (by simp; omega)).trans (by simp)))
  all_goals go_wp2
  all_goals refine bodyPost_ret (v := .agg #[.int .i64 c, .int .i64 y, .slice a1 l.length cap1]) (by simp [results, Tryd.results46, go_sem, r0, r1, r2]) rfl ⟨_, _, rfl, ?_, ?_⟩
  · exact (((ho1.setLow (by simp) _).setLow (by simp) _).setLow (by simp) _).le (by simp; omega)
  · exact (((Below.trans (by first | exact hb0.out | exact hb0.out.drew | exact hb0.out.drew.drew | exact hb0.out.drew.drew.drew | exact hb0.out.drew.drew.drew.drew) (hb1.mono (by simp; omega))).setCell (Nat.le_succ _) _).setCell (Nat.le_succ _) _).setCell (Nat.le_succ _) _

end Go.Proofs.YtjoflnnomebkpaaDoor

/-
  The shortest form of a number, as a list of bytes.
-/
namespace Go.Proofs.YtjoflnnomebkpaaDoor
open Go.RowKit
set_option linter.unusedVariables false

/-- with so many steps at the most -/
def numA : Nat → Nat → List Int
  | 0, n => [(n : Int)]
  | f + 1, n => if n < 128 then [(n : Int)] else ((n % 128 + 128 : Nat) : Int) :: numA f (n / 128)
def numL (n : Nat) : List Int := numA n n

theorem numA_enough (f : Nat) : ∀ g n : Nat, n ≤ f → n ≤ g → numA f n = numA g n := by
  induction f with
  | zero =>
    intro g n hf hg
    have e : n = 0 := by omega
    subst e
    cases g with
    | zero => rfl
    | succ g => simp [numA]
  | succ f ih =>
    intro g n hf hg
    cases g with
    | zero =>
      have e : n = 0 := by omega
      subst e
      simp [numA]
    | succ g =>
      by_cases h : n < 128
      · simp [numA, h]
      · simp only [numA, if_neg h]
        rw [ih g (n / 128) (by omega) (by omega)]

theorem numL_small {n : Nat} (h : n < 128) : numL n = [(n : Int)] := by
  unfold numL
  cases n with
  | zero => rfl
  | succ n => simp [numA, h]
theorem numL_big {n : Nat} (h : ¬ n < 128) : numL n = ((n % 128 + 128 : Nat) : Int) :: numL (n / 128) := by
  unfold numL
  cases n with
  | zero => omega
  | succ n =>
    rw [numA, if_neg h, numA_enough n ((n + 1) / 128) ((n + 1) / 128) (by omega) (by omega)]
theorem numL_byte (n : Nat) : ∀ x ∈ numL n, 0 ≤ x ∧ x ≤ 255 := by
  induction n using Nat.strongRecOn with
  | ind n ih =>
    by_cases h : n < 128
    · rw [numL_small h]; intro x hx; simp at hx; subst hx; omega
    · rw [numL_big h]
      intro x hx
      rcases List.mem_cons.1 hx with rfl | hx
      · omega
      · exact ih (n / 128) (by omega) x hx
theorem numL_pos (n : Nat) : 0 < (numL n).length := by
  by_cases h : n < 128
  · rw [numL_small h]; simp
  · rw [numL_big h]; simp
theorem numL_len (k : Nat) : ∀ n : Nat, n < 128 ^ (k + 1) → (numL n).length ≤ k + 1 := by
  induction k with
  | zero => intro n h; rw [numL_small (by simpa using h)]; simp
  | succ k ih =>
    intro n h
    by_cases hn : n < 128
    · rw [numL_small hn]; simp
    · rw [numL_big hn, List.length_cons]
      have : n / 128 < 128 ^ (k + 1) := by
        rw [Nat.div_lt_iff_lt_mul (by decide)]
        rw [Nat.pow_succ] at h
        exact h
      have := ih _ this
      omega
theorem numL_len9 (n : Nat) (h : n < 9223372036854775808) : (numL n).length ≤ 9 := numL_len 8 n (by simpa using h)

/-- what 'byte(n) | 128' is -/
theorem or_128 (m : Nat) : bits .or .u8 ((m : Int) % 256) 128 = ((m % 128 + 128 : Nat) : Int) := by
  have e : (m : Int) % 256 = ((m % 256 : Nat) : Int) := by omega
  rw [e]
  have := u8_or_nat (m % 256) 128 (by omega) (by decide)
  refine this.trans ?_
  congr 1
  have h7 : m % 256 = m % 128 + 128 * (m / 128 % 2) := by omega
  have hj := nat_join 7 128 (m % 128) (by decide) (by omega)
  rcases (by omega : m / 128 % 2 = 0 ∨ m / 128 % 2 = 1) with h | h
  · rw [h7, h, Nat.or_comm]
    simpa [Nat.add_comm] using hj
  · have e2 : m % 256 = 128 ||| (m % 128) := by rw [hj]; omega
    rw [e2, Nat.or_comm, ← Nat.or_assoc, Nat.or_self, hj, Nat.add_comm]
end Go.Proofs.YtjoflnnomebkpaaDoor

/-
  impl.putNumber, impl.putNumbers, impl.putText, impl.putWord.
-/
namespace Go.Proofs.YtjoflnnomebkpaaDoor
open Go.RowKit
set_option linter.unusedVariables false

set_option maxHeartbeats 1000000 in
set_option maxRecDepth 100000 in
theorem putNumber_any (v : Value) (l : List Int) (n : Nat) (w : World) (B : Nat) (hv : Own w B v l) (hB : B ≤ w.heap.size) (hl : l.length ≤ 1000000000) (hn : n < 9223372036854775808) :
    Calls Tryd.prog 160 #[v, .int .i64 n] w fun e w' => ∃ v', e = .returned v' ∧ Own w' B v' (l ++ numL n) ∧ Grew w v w' v' := by
  go_enter Tryd.func160, Tryd.ntmps160
  go_wp2
  go_loopw [0, 1] (fun o i wr => ∃ (m : Nat) (l' : List Int), i = .int .i64 m ∧ m ≤ n ∧ Own wr B o (l ++ l') ∧ l' ++ numL m = numL n ∧ Grew w v wr o) (fun _ i _ => (intOf i).toNat)
  case atStart => exact ⟨n, [], rfl, Nat.le_refl _, by simpa using hv, by simp, Grew.refl _ _⟩
  case round =>
    obtain ⟨m, l', rfl, hmn, ho, hnum, hb⟩ := hrel
    have HN : Hid (l' ++ numL m = numL n) := hnum
    have hsz := hb.g.size
    have hlen : l'.length + (numL m).length ≤ 9 := by
      have h1 := congrArg List.length hnum
      have h2 := numL_len9 n hn
      simp at h1; omega
    have hpos := numL_pos m
    clear hnum
    by_cases hlt : m < 128
    · have HS : Hid (numL m = [(m : Int)]) := numL_small hlt
      go_wp2_with (at_builtin; refine wpl_append rfl (.tmp 15) (.tmp 18) rfl (ho.below ((Below.refl _ _).alloc (Nat.le_refl _) _)) rfl (Bs.one _ (m : Int) (by omega)) rfl (by simp) (by simp; omega) (by simp; omega) ?_; intro v' w' ho' hb')
      go_ret
      refine ⟨_, rfl, ?_, (hb.alloc _).trans hb'⟩
      rw [← HN.out, HS.out, ← List.append_assoc]
      exact ho'
    · have HS : Hid (numL m = ((m % 128 + 128 : Nat) : Int) :: numL (m / 128)) := numL_big hlt
      have hor := or_128 m
      go_wp2_with (at_builtin; refine wpl_append rfl (.tmp 7) (.tmp 11) rfl (ho.below ((Below.refl _ _).alloc (Nat.le_refl _) _)) rfl (Bs.one _ ((m % 128 + 128 : Nat) : Int) (by omega)) rfl (by simp) (by simp; omega) (by simp; omega) ?_; intro v' w' ho' hb')
      go_roundw
      case rel => exact ⟨m / 128, l' ++ [((m % 128 + 128 : Nat) : Int)], by go_num, by omega, by rw [← List.append_assoc]; exact ho', by rw [← HN.out, HS.out]; simp, (hb.alloc _).trans hb'⟩
      case measure => simp [intOf]; omega

/-- a slice of ints holds the numbers ns -/
def Ints (w : World) (v : Value) (ns : List Nat) : Prop :=
  ∃ b cap, v = .slice (some ⟨b, 0, none⟩) ns.length cap ∧ ∀ j, j < ns.length → w.cell? ⟨b, j, none⟩ = some (.int .i64 (ns[j]?.getD 0 : Nat))

def numsL (ns : List Nat) : List Int := ns.flatMap numL
theorem numsL_snoc (ns : List Nat) (k : Nat) (h : k < ns.length) : numsL (ns.take (k + 1)) = numsL (ns.take k) ++ numL (ns[k]?.getD 0) := by
  rw [List.take_succ_eq_append_getElem h, numsL, numsL, List.flatMap_append]
  simp [h]
theorem numsL_len (ns : List Nat) (h : ∀ n ∈ ns, n < 9223372036854775808) : (numsL ns).length ≤ 9 * ns.length := by
  induction ns with
  | nil => simp [numsL]
  | cons n r ih =>
    have h1 := numL_len9 n (h n (by simp))
    have h2 := ih (fun m hm => h m (by simp [hm]))
    simp only [numsL, List.flatMap_cons, List.length_append, List.length_cons] at h2 ⊢
    omega

set_option maxHeartbeats 1000000 in
set_option maxRecDepth 100000 in
theorem putNumbers_any (v : Value) (l : List Int) (ns : List Nat) (b cap : Nat) (w : World) (B : Nat) (hv : Own w B v l) (hB : B ≤ w.heap.size) (hl : l.length ≤ 900000000) (hns : ∀ n ∈ ns, n < 9223372036854775808) (hnl : ns.length ≤ 100)
    (hc : ∀ j, j < ns.length → w.cell? ⟨b, j, none⟩ = some (.int .i64 (ns[j]?.getD 0 : Nat))) (hfar : v.ownBlock ≠ some b) :
    Calls Tryd.prog 159 #[v, .slice (some ⟨b, 0, none⟩) ns.length cap] w fun e w' => ∃ v', e = .returned v' ∧ Own w' B v' (l ++ numsL ns) ∧ Grew w v w' v' := by
  go_enter Tryd.func159, Tryd.ntmps159
  go_wp2
  go_loopw [0, 9] (fun o i wr => ∃ k : Nat, k ≤ ns.length ∧ i = .int .i64 k ∧ Own wr B o (l ++ numsL (ns.take k)) ∧ Grew w v wr o) (fun _ i _ => ns.length - (intOf i).toNat)
  case atStart => exact ⟨0, Nat.zero_le _, rfl, by simpa [numsL] using hv, Grew.refl _ _⟩
  case round =>
    obtain ⟨k, hk, rfl, ho, hb⟩ := hrel
    have hsz := hb.g.size
    by_cases hlt : k < ns.length
    · have hlen := numsL_len (ns.take k) (fun n hn => hns n (List.mem_of_mem_take hn))
      rw [List.length_take] at hlen
      have hck : wr.cell? ⟨b, k, none⟩ = some (.int .i64 (ns[k]?.getD 0 : Nat)) := by rw [hb.cell (cell_lt (hc k hlt)) hfar]; exact hc k hlt
      have hn : ns[k]?.getD 0 < 9223372036854775808 := by simp [hlt]; exact hns _ (List.getElem_mem hlt)
      have HS : Hid (numsL (ns.take (k + 1)) = numsL (ns.take k) ++ numL (ns[k]?.getD 0)) := numsL_snoc ns k hlt
      generalize ns[k]?.getD 0 = n at hck hn HS
      clear hc
      go_wp2_with (go_at_call 160; refine (putNumber_any _ _ n _ B ho (by omega) (by simp; omega) hn).mono ?_; rintro e w' ⟨v', rfl, ho', hb'⟩)
      go_roundw
      case rel => exact ⟨k + 1, by omega, by go_num, by rw [HS.out, ← List.append_assoc]; exact ho', hb.trans hb'⟩
      case measure => simp [intOf]; omega
    · have e : k = ns.length := by omega
      subst e
      rw [List.take_length] at ho
      go_wp2
      go_ret
      exact ⟨_, rfl, ho, hb⟩

def textL (s : ByteArray) : List Int := numL s.size ++ strL s

set_option maxHeartbeats 1000000 in
set_option maxRecDepth 100000 in
theorem putText_any (v : Value) (l : List Int) (s : ByteArray) (w : World) (B : Nat) (hv : Own w B v l) (hB : B ≤ w.heap.size) (hl : l.length ≤ 1000000) (hs : s.size ≤ 1048576) :
    Calls Tryd.prog 173 #[v, .string s] w fun e w' => ∃ v', e = .returned v' ∧ Own w' B v' (l ++ textL s) ∧ Grew w v w' v' := by
  have h9 := numL_len9 s.size (by omega)
  have hpos := numL_pos s.size
  go_enter Tryd.func173, Tryd.ntmps173
  go_wp2_with (first
    | (go_at_call 160; refine (putNumber_any _ _ s.size _ B hv (by omega) (by omega) (by omega)).mono ?_; rintro e w1 ⟨v1, rfl, ho1, hb1⟩; have hsz := hb1.g.size)
    | (at_builtin; refine wpl_append_str rfl (.tmp 8) (.tmp 9) rfl ho1 (by simp; omega) rfl rfl (by simp; omega) (by omega) ?_; intro v2 w2 ho2 hb2))
  go_ret
  exact ⟨_, rfl, by rw [textL, ← List.append_assoc]; exact ho2, hb1.trans hb2⟩

/-- a word of four bytes, the lowest first -/
def wordL (x : Nat) : List Int := [((x % 256 : Nat) : Int), ((x / 256 % 256 : Nat) : Int), ((x / 65536 % 256 : Nat) : Int), ((x / 16777216 % 256 : Nat) : Int)]
theorem Bs.four (w : World) (x : Nat) (a b c d : Int) (ha : a = ((x % 256 : Nat) : Int)) (hb : b = ((x / 256 % 256 : Nat) : Int)) (hc : c = ((x / 65536 % 256 : Nat) : Int)) (hd : d = ((x / 16777216 % 256 : Nat) : Int)) :
    Bs (w.alloc (.cells #[.int .u8 a, .int .u8 b, .int .u8 c, .int .u8 d] 5)) (.slice (some ⟨w.heap.size, 0, none⟩) 4 4) (wordL x) := by
  subst ha hb hc hd
  have := (Own.lit w (wordL x) #[.int .u8 ((x % 256 : Nat) : Int), .int .u8 ((x / 256 % 256 : Nat) : Int), .int .u8 ((x / 65536 % 256 : Nat) : Int), .int .u8 ((x / 16777216 % 256 : Nat) : Int)] rfl (by simp only [wordL]; intro y hy; simp only [List.mem_cons, List.not_mem_nil, or_false] at hy; omega) (by simp [wordL, maxLen])).bs (by simp [wordL, maxLen])
  simpa [wordL] using this

set_option maxHeartbeats 1000000 in
set_option maxRecDepth 100000 in
theorem putWord_any (v : Value) (l : List Int) (x : Nat) (w : World) (B : Nat) (hv : Own w B v l) (hB : B ≤ w.heap.size) (hl : l.length ≤ 1000000) (hx : x < 4294967296) :
    Calls Tryd.prog 109 #[v, .int .u32 x] w fun e w' => ∃ v', e = .returned v' ∧ Own w' B v' (l ++ wordL x) ∧ Grew w v w' v' := by
  go_enter Tryd.func109, Tryd.ntmps109
  go_wp2_with (at_builtin; refine wpl_append rfl (.tmp 5) (.tmp 17) rfl (hv.below ((Below.refl _ _).alloc (Nat.le_refl _) _)) rfl (Bs.four _ x _ _ _ _ (by omega) (by omega) (by omega) (by omega)) rfl (by simp [wordL]) (by simp [wordL]; omega) (by simp; omega) ?_; intro v' w' ho' hb')
  go_ret
  exact ⟨_, rfl, ho', ((Grew.refl _ _).alloc _).trans hb'⟩

theorem textL_len (s : ByteArray) (h : s.size < 9223372036854775808) : (textL s).length ≤ 9 + s.size := by
  have := numL_len9 s.size h
  simp [textL, strL_len]; omega

theorem textL_pos (s : ByteArray) : 0 < (textL s).length := by
  have := numL_pos s.size
  simp [textL]; omega

theorem Grew.held {w w' : World} {v v' : Value} (h : Grew w v w' v') {b o : Nat} {x : Value} (hc : w.cell? ⟨b, o, none⟩ = some x) (hne : v.ownBlock ≠ some b) : w'.cell? ⟨b, o, none⟩ = some x := (h.cell (cell_lt hc) hne).trans hc
end Go.Proofs.YtjoflnnomebkpaaDoor

/-
  The check sum: the program's and the specification's, over one plain function of lists.
-/
namespace Go.Proofs.YtjoflnnomebkpaaDoor
open Go.RowKit
set_option linter.unusedVariables false

def stepN (r : Nat) : Nat := if r % 2 = 1 then (r / 2) ^^^ 3988292384 else r / 2
def stepsN : Nat → Nat → Nat
  | 0, r => r
  | n + 1, r => stepN (stepsN n r)
/-- the register behind the first k bytes -/
def crcSt (l : List Int) : Nat → Nat
  | 0 => 4294967295
  | k + 1 => stepsN 8 (crcSt l k ^^^ (l[k]?.getD 0).toNat)

theorem stepN_lt (q : Nat) (h : q < 4294967296) : stepN q < 4294967296 := by
  unfold stepN
  split
  · exact Nat.xor_lt_two_pow (n := 32) (by omega) (by decide)
  · omega
theorem stepsN_lt (n q : Nat) (h : q < 4294967296) : stepsN n q < 4294967296 := by
  induction n with
  | zero => exact h
  | succ n ih => exact stepN_lt _ ih
theorem xor_lt (a b : Nat) (ha : a < 4294967296) (hb : b < 4294967296) : a ^^^ b < 4294967296 := Nat.xor_lt_two_pow (n := 32) ha hb
theorem crcSt_lt (l : List Int) (h8 : ∀ x ∈ l, 0 ≤ x ∧ x ≤ 255) (k : Nat) : crcSt l k < 4294967296 := by
  induction k with
  | zero => exact (by decide : (4294967295 : Nat) < 4294967296)
  | succ k ih =>
    have := byte_at h8 k
    exact stepsN_lt _ _ (xor_lt _ _ ih (by omega))

theorem bit0 (q : Nat) (hq : q < 4294967296) : bits .and .u32 (q : Int) 1 = ((q % 2 : Nat) : Int) := by
  have := u32_and_nat q 1 hq (by decide)
  rw [Nat.and_one_is_mod] at this
  exact this
theorem i1 (q : Nat) (hq : q < 4294967296) (h : (bits .and .u32 (q : Int) 1 == 1) = true) : bits .xor .u32 ((q : Int) / 2) 3988292384 = ((stepN q : Nat) : Int) := by
  rw [bit0 q hq] at h
  have h' : q % 2 = 1 := by simp at h; omega
  have := u32_xor_nat (q / 2) 3988292384 (by omega) (by decide)
  rw [stepN, if_pos h']
  rw [← this]
  congr 1
theorem i0 (q : Nat) (hq : q < 4294967296) (h : (bits .and .u32 (q : Int) 1 == 1) = false) : (q : Int) / 2 = ((stepN q : Nat) : Int) := by
  rw [bit0 q hq] at h
  have h' : ¬ q % 2 = 1 := by simp at h; omega
  rw [stepN, if_neg h']
  rfl
theorem x0 (r : Nat) (c : Int) (hr : r < 4294967296) (h0 : 0 ≤ c) (h1 : c ≤ 255) : bits .xor .u32 (r : Int) c = ((r ^^^ c.toNat : Nat) : Int) := by
  have e : c = (c.toNat : Int) := by omega
  have := u32_xor_nat r c.toNat hr (by omega)
  rw [← e] at this
  exact this

theorem xor_max (r : Nat) (hr : r < 4294967296) : bits .xor .u32 (r : Int) 4294967295 = ((r ^^^ 4294967295 : Nat) : Int) := u32_xor_nat r 4294967295 hr (by decide)
theorem max_xor (r : Nat) (hr : r < 4294967296) : bits .xor .u32 IntKind.u32.max (r : Int) = ((r ^^^ 4294967295 : Nat) : Int) := by
  rw [Nat.xor_comm]
  exact u32_xor_nat 4294967295 r (by decide) hr

/-! the specification's step: its register is the program's, with the rest of the byte taken out again -/
theorem low_eq (S d r : Nat) (hr : r = S ^^^ d) (hr' : r < 4294967296) (hd : d < 4294967296) :
    bits .and .u32 (bits .xor .u32 (r : Int) (bits .and .u32 (d : Int) 1)) 1 = ((S % 2 : Nat) : Int) := by
  rw [bit0 d hd, u32_xor_nat r (d % 2) hr' (by omega), bit0 _ (xor_lt _ _ hr' (by omega))]
  congr 1
  subst hr
  have m2 : ∀ a b : Nat, (a ^^^ b) % 2 = (a % 2) ^^^ (b % 2) := fun a b => Nat.xor_mod_two_pow (n := 1)
  rw [m2, m2, Nat.mod_mod, Nat.xor_assoc, Nat.xor_self, Nat.xor_zero]
theorem half_xor (S d : Nat) : (S ^^^ d) / 2 = (S / 2) ^^^ (d / 2) := by
  have := Nat.shiftRight_xor_distrib (a := S) (b := d) (i := 1)
  simpa [Nat.shiftRight_eq_div_pow] using this
theorem half_pow (c j : Nat) : c / 2 ^ j / 2 = c / 2 ^ (j + 1) := by rw [Nat.div_div_eq_div_mul, Nat.pow_succ]
theorem byte_shift (c : Int) (j : Nat) (h0 : 0 ≤ c) (h1 : c ≤ 255) : c / 2 ^ j % 4294967296 = ((c.toNat / 2 ^ j : Nat) : Int) := by
  obtain ⟨n, rfl⟩ := Int.eq_ofNat_of_zero_le h0
  have h : n / 2 ^ j ≤ n := Nat.div_le_self _ _
  have e : ((n : Int) / 2 ^ j) = ((n / 2 ^ j : Nat) : Int) := by simp
  rw [e]
  simp only [Int.toNat_natCast]
  generalize n / 2 ^ j = d at h
  omega
theorem s1 (S c : Nat) (j : Nat) (lk : Int) (h0 : 0 ≤ lk) (h1 : lk ≤ 255) (hc : c = lk.toNat) (hS : S < 4294967296)
    (h : (bits .and .u32 (bits .xor .u32 ((S ^^^ c / 2 ^ j : Nat) : Int) (bits .and .u32 (lk / 2 ^ j % 4294967296) 1)) 1 == 1) = true) :
    bits .xor .u32 (((S ^^^ c / 2 ^ j : Nat) : Int) / 2) 3988292384 = ((stepN S ^^^ c / 2 ^ (j + 1) : Nat) : Int) := by
  have hd : c / 2 ^ j ≤ c := Nat.div_le_self _ _
  have hlt := xor_lt S (c / 2 ^ j) hS (by omega)
  rw [byte_shift lk j h0 h1, ← hc, low_eq S (c / 2 ^ j) _ rfl hlt (by omega)] at h
  have h' : S % 2 = 1 := by simp at h; omega
  rw [stepN, if_pos h', ← half_pow]
  have := u32_xor_nat ((S ^^^ c / 2 ^ j) / 2) 3988292384 (by omega) (by decide)
  rw [half_xor] at this
  have e : ((S ^^^ c / 2 ^ j : Nat) : Int) / 2 = (((S / 2) ^^^ (c / 2 ^ j / 2) : Nat) : Int) := by rw [← half_xor]; rfl
  rw [e]
  refine this.trans ?_
  congr 1
  rw [Nat.xor_assoc, Nat.xor_comm (c / 2 ^ j / 2), ← Nat.xor_assoc]
theorem s0 (S c : Nat) (j : Nat) (lk : Int) (h0 : 0 ≤ lk) (h1 : lk ≤ 255) (hc : c = lk.toNat) (hS : S < 4294967296)
    (h : (bits .and .u32 (bits .xor .u32 ((S ^^^ c / 2 ^ j : Nat) : Int) (bits .and .u32 (lk / 2 ^ j % 4294967296) 1)) 1 == 1) = false) :
    ((S ^^^ c / 2 ^ j : Nat) : Int) / 2 = ((stepN S ^^^ c / 2 ^ (j + 1) : Nat) : Int) := by
  have hd : c / 2 ^ j ≤ c := Nat.div_le_self _ _
  have hlt := xor_lt S (c / 2 ^ j) hS (by omega)
  rw [byte_shift lk j h0 h1, ← hc, low_eq S (c / 2 ^ j) _ rfl hlt (by omega)] at h
  have h' : ¬ S % 2 = 1 := by simp at h; omega
  rw [stepN, if_neg h', ← half_pow, ← half_xor]
  rfl
end Go.Proofs.YtjoflnnomebkpaaDoor

/-
  The walks of both Crc32 and of the law FnExactCrc32.
-/
namespace Go.Proofs.YtjoflnnomebkpaaDoor
open Go.RowKit
set_option linter.unusedVariables false

/-- the check sum -/
def crcOf (l : List Int) : Nat := crcSt l l.length ^^^ 4294967295

set_option maxHeartbeats 1000000 in
theorem implCrc_any (v : Value) (l : List Int) (w : World) (hv : Bs w v l) :
    Calls Tryd.prog 110 #[v] w fun e w' => e = .returned (.int .u32 (crcOf l : Nat)) ∧ w' = w := by
  obtain ⟨hl, h8, a, cap, rfl, hc⟩ := hv
  unfold maxLen at hl
  go_enter Tryd.func110, Tryd.ntmps110
  go_wp2
  go_loop [3, 9] (fun s i => ∃ k : Nat, k ≤ l.length ∧ i = .int .i64 k ∧ s = .int .u32 (crcSt l k : Nat)) (fun _ i => l.length - (intOf i).toNat)
  case atStart => exact ⟨0, Nat.zero_le _, rfl, rfl⟩
  case round =>
    obtain ⟨k, hk, rfl, rfl⟩ := hrel
    have hr := crcSt_lt l h8 k
    by_cases hlt : k < l.length
    · obtain ⟨b, off, rfl, hcell⟩ := hc k hlt
      have hck := hcell k hlt
      have h8k := byte_at h8 k
      have hx := x0 (crcSt l k) _ hr h8k.1 h8k.2
      have hS : Hid (crcSt l (k + 1) = stepsN 8 (crcSt l k ^^^ (l[k]?.getD 0).toNat)) := rfl
      have hs0 := xor_lt (crcSt l k) (l[k]?.getD 0).toNat hr (by omega)
      generalize hg : crcSt l k ^^^ (l[k]?.getD 0).toNat = s0 at hx hS hs0
      have eg : l[k]?.getD 0 = l[k] := by simp [hlt]
      rw [eg] at hx h8k hck
      clear hcell hc hg eg
      go_wp2
      go_loop [3, 17] (fun s i => ∃ j : Nat, j ≤ 8 ∧ i = .int .i64 j ∧ s = .int .u32 (stepsN j s0 : Nat)) (fun _ i => 8 - (intOf i).toNat)
      case atStart => exact ⟨0, by omega, rfl, by simp [stepsN]⟩
      case round =>
        obtain ⟨j, hj, rfl, rfl⟩ := hrel
        have hq := stepsN_lt j s0 hs0
        by_cases hlt' : j < 8
        · have H1 := i1 (stepsN j s0) hq
          have H0 := i0 (stepsN j s0) hq
          have HS : Hid (stepsN (j + 1) s0 = stepN (stepsN j s0)) := rfl
          generalize stepsN j s0 = q at HS hq H1 H0
          have K1 : Hid ((bits .and .u32 (q : Int) 1 == 1) = true → bits .xor .u32 ((q : Int) / 2) 3988292384 = ((stepN q : Nat) : Int)) := H1
          have K0 : Hid ((bits .and .u32 (q : Int) 1 == 1) = false → (q : Int) / 2 = ((stepN q : Nat) : Int)) := H0
          clear H1 H0
          go_wp2
          · go_round
            case rel => exact ⟨j + 1, by omega, by go_num, by rw [HS.out, ← K1.out (by assumption)]⟩
            case measure => simp [intOf]; omega
          · go_round
            case rel => exact ⟨j + 1, by omega, by go_num, by rw [HS.out, ← K0.out (by assumption)]⟩
            case measure => simp [intOf]; omega
        · have e8 : j = 8 := by omega
          subst e8
          go_wp2
          go_round
          case rel => exact ⟨k + 1, by omega, by go_num, by rw [hS.out]⟩
          case measure => simp [intOf]; omega
    · have e : k = l.length := by omega
      subst e
      have hm := max_xor _ hr
      go_wp2
      go_ret
      exact ⟨by simp [crcOf], rfl⟩

set_option maxHeartbeats 1000000 in
theorem specCrc_any (v : Value) (l : List Int) (w : World) (hv : Bs w v l) :
    Calls Tryd.prog 122 #[v] w fun e w' => e = .returned (.int .u32 (crcOf l : Nat)) ∧ w' = w := by
  obtain ⟨hl, h8, a, cap, rfl, hc⟩ := hv
  unfold maxLen at hl
  go_enter Tryd.func122, Tryd.ntmps122
  go_wp2
  go_loop [3, 4] (fun s i => ∃ k : Nat, k ≤ l.length ∧ i = .int .i64 k ∧ s = .int .u32 (crcSt l k : Nat)) (fun _ i => l.length - (intOf i).toNat)
  case atStart => exact ⟨0, Nat.zero_le _, rfl, rfl⟩
  case round =>
    obtain ⟨k, hk, rfl, rfl⟩ := hrel
    have hr := crcSt_lt l h8 k
    by_cases hlt : k < l.length
    · obtain ⟨b, off, rfl, hcell⟩ := hc k hlt
      have hck := hcell k hlt
      have h8k := byte_at h8 k
      have hS : Hid (crcSt l (k + 1) = stepsN 8 (crcSt l k ^^^ (l[k]?.getD 0).toNat)) := rfl
      have eg : l[k]?.getD 0 = l[k] := by simp [hlt]
      rw [eg] at h8k hck hS
      generalize hlk : l[k] = lk at h8k hck hS
      obtain ⟨b0, b1⟩ := h8k
      clear hcell hc eg
      go_wp2
      go_loop [3, 5] (fun s i => ∃ j : Nat, j ≤ 8 ∧ i = .int .i64 j ∧ s = .int .u32 ((stepsN j (crcSt l k ^^^ lk.toNat) ^^^ lk.toNat / 2 ^ j : Nat))) (fun _ i => 8 - (intOf i).toNat)
      case atStart => exact ⟨0, by omega, rfl, by simp [stepsN, Nat.xor_assoc]⟩
      case round =>
        obtain ⟨j, hj, rfl, rfl⟩ := hrel
        have hq := stepsN_lt j (crcSt l k ^^^ lk.toNat) (xor_lt _ _ hr (by omega))
        by_cases hlt' : j < 8
        · have HS : Hid (stepsN (j + 1) (crcSt l k ^^^ lk.toNat) = stepN (stepsN j (crcSt l k ^^^ lk.toNat))) := rfl
          generalize stepsN j (crcSt l k ^^^ lk.toNat) = S at HS hq
          have K1 : Hid _ := s1 S lk.toNat j lk b0 b1 rfl hq
          have K0 : Hid _ := s0 S lk.toNat j lk b0 b1 rfl hq
          have hXlt := xor_lt S (lk.toNat / 2 ^ j) hq (by have := Nat.div_le_self lk.toNat (2 ^ j); omega)
          generalize S ^^^ lk.toNat / 2 ^ j = X at K1 K0 hXlt
          go_wp2
          · go_round
            case rel => exact ⟨j + 1, by omega, by go_num, by rw [HS.out, ← K1.out (by assumption)]⟩
            case measure => simp [intOf]; omega
          · go_round
            case rel => exact ⟨j + 1, by omega, by go_num, by rw [HS.out, ← K0.out (by assumption)]⟩
            case measure => simp [intOf]; omega
        · have e8 : j = 8 := by omega
          subst e8
          have hz : lk.toNat / 2 ^ 8 = 0 := by omega
          rw [hz, Nat.xor_zero]
          go_wp2
          go_round
          case rel => exact ⟨k + 1, by omega, by go_num, by rw [hS.out]⟩
          case measure => simp [intOf]; omega
    · have e : k = l.length := by omega
      subst e
      have hm := xor_max _ hr
      go_wp2
      go_ret
      exact ⟨by simp [crcOf], rfl⟩
end Go.Proofs.YtjoflnnomebkpaaDoor

/-
  impl.sealFrame.
-/
namespace Go.Proofs.YtjoflnnomebkpaaDoor
open Go.RowKit
set_option linter.unusedVariables false

/-- a frame round a body -/
def frameL (l : List Int) : List Int := wordL l.length ++ wordL (crcOf l) ++ l

theorem crcOf_lt (l : List Int) (h8 : ∀ x ∈ l, 0 ≤ x ∧ x ≤ 255) : crcOf l < 4294967296 := xor_lt _ _ (crcSt_lt l h8 _) (by decide)

theorem Own.made (w : World) (n : Nat) (hn : n ≤ maxLen) : Own (w.alloc (.cells (madeCells #[.int .u8 0] n) 5)) w.heap.size (.slice (some ⟨w.heap.size, 0, none⟩) 0 n) [] :=
  ⟨by simp, by simpa using World.ownsRow_made (base := w.heap.size) (e := 5) (size := 1) w (madeCells #[.int .u8 0] n) n (Nat.le_refl _) hn (by rw [size_madeCells, Nat.mul_one])⟩

set_option maxHeartbeats 1000000 in
set_option maxRecDepth 100000 in
theorem sealFrame_any (v : Value) (l : List Int) (w : World) (hv : Bs w v l) (hpos : 0 < l.length) (hl : l.length ≤ 100000) :
    Calls Tryd.prog 83 #[v] w fun e w' => ∃ v', e = .returned v' ∧ Own w' w.heap.size v' (frameL l) ∧ Below w.heap.size w w' := by
  have hV : Hid (Bs w v l) := hv
  have hcrc := crcOf_lt l hv.2.1
  obtain ⟨i0, hi, hz0, hz1, hz2⟩ := info_parts infoU8
  have hmk : ∀ u : World, (Instr.makeSlice 22 (.int .i64 0) (.int .i64 (8 + (l.length : Int)))).run Tryd.prog u =
      .ok (.slice (some ⟨u.heap.size, 0, none⟩) 0 (8 + l.length)) (u.alloc (.cells (madeCells #[.int .u8 0] (8 + l.length)) 5)) := fun u => by
    have h := run_make (P := Tryd.prog) u 22 5 i0 (.int .u8 0) Tryd.underlying22 hi hz0 .i64 .i64 0 (8 + (l.length : Int)) (by omega) (by omega) (by rw [hz2]; omega) (by omega)
    have e : (8 + (l.length : Int)).toNat = 8 + l.length := by omega
    rw [e] at h
    simpa [hz1, Value.cells] using h
  obtain ⟨hml, h8, a, cap, rfl, hc⟩ := hv
  clear hc
  have hO := Own.made w (8 + l.length) (by unfold maxLen; omega)
  have hB : Below w.heap.size w (w.alloc (.cells (madeCells #[.int .u8 0] (8 + l.length)) 5)) := (Below.refl _ _).alloc (Nat.le_refl _) _
  have hsz : w.heap.size ≤ (w.alloc (.cells (madeCells #[.int .u8 0] (8 + l.length)) 5)).heap.size := hB.size
  have hw4 : ∀ x, (wordL x).length = 4 := fun x => rfl
  go_enter Tryd.func83, Tryd.ntmps83
  go_wp2_with (first
    | (go_at_call 110; refine (implCrc_any _ l _ (hV.out.below hB)).mono ?_; rintro e w' ⟨rfl, rfl⟩)
    | (go_at_call 109; refine (putWord_any _ [] l.length _ w.heap.size hO hsz (by simp) (by omega)).mono ?_; rintro e w1 ⟨v1, rfl, ho1, hg1⟩; replace hB := hB.trans (hg1.below hO hsz); replace hsz := hB.size; clear hO)
    | (go_at_call 109; refine (putWord_any _ _ (crcOf l) _ w.heap.size ho1 hsz (by simp [hw4]) hcrc).mono ?_; rintro e w2 ⟨v2, rfl, ho2, hg2⟩; replace hB := hB.trans (hg2.below ho1 hsz); replace hsz := hB.size)
    | (at_builtin; refine wpl_append rfl (.tmp 17) (.tmp 18) rfl ho2 rfl (hV.out.below hB) rfl hpos (by simp [hw4]; omega) hsz ?_; intro v3 w3 ho3 hg3; replace hB := hB.trans (hg3.below ho2 hsz)))
  go_ret
  exact ⟨_, rfl, by simpa [frameL] using ho3, hB⟩
end Go.Proofs.YtjoflnnomebkpaaDoor

/-
  spec.l1num, spec.l1text, spec.l1four, spec.l1frame.
-/
namespace Go.Proofs.YtjoflnnomebkpaaDoor
open Go.RowKit
set_option linter.unusedVariables false

set_option maxHeartbeats 1000000 in
set_option maxRecDepth 100000 in
theorem specNum_any (n : Nat) : n < 9223372036854775808 → ∀ w : World,
    Calls Tryd.prog 98 #[.int .i64 n] w fun e w' => ∃ v', e = .returned v' ∧ Own w' w.heap.size v' (numL n) ∧ Below w.heap.size w w' := by
  induction n using Nat.strongRecOn with
  | ind n ih =>
  intro hn w
  by_cases h : n < 128
  · clear ih
    have hO := Own.lit w [(n : Int)] #[.int .u8 (n : Int)] rfl (by simp; omega) (by simp [maxLen])
    rw [numL_small h]
    go_enter Tryd.func98, Tryd.ntmps98
    go_wp2
    go_ret
    exact ⟨_, rfl, by simpa using hO, (Below.refl _ _).alloc (Nat.le_refl _) _⟩
  · have hI : Hid (∀ w : World, Calls Tryd.prog 98 #[.int .i64 ((n / 128 : Nat) : Int)] w fun e w' => ∃ v', e = .returned v' ∧ Own w' w.heap.size v' (numL (n / 128)) ∧ Below w.heap.size w w') := ih (n / 128) (by omega) (by omega)
    have hO : Own (w.alloc (.cells #[.int .u8 ((n : Int) % 128 + 128)] 5)) w.heap.size (.slice (some ⟨w.heap.size, 0, none⟩) 1 1) [(n : Int) % 128 + 128] := Own.lit w [(n : Int) % 128 + 128] #[.int .u8 ((n : Int) % 128 + 128)] rfl (by simp; omega) (by simp [maxLen])
    have HO : Hid (Own (w.alloc (.cells #[.int .u8 ((n : Int) % 128 + 128)] 5)) w.heap.size (.slice (some ⟨w.heap.size, 0, none⟩) 1 1) [(n : Int) % 128 + 128]) := hO
    have eN : ((n % 128 + 128 : Nat) : Int) = (n : Int) % 128 + 128 := by omega
    have h9 := numL_len9 (n / 128) (by omega)
    have hp := numL_pos (n / 128)
    rw [numL_big h, eN]
    clear ih hO eN
    go_enter Tryd.func98, Tryd.ntmps98
    go_wp2_with (first
      | (go_at_call 98; refine Calls.mono (hI.out _) ?_; rintro e w1 ⟨v1, rfl, ho1, hb1⟩; have hz := hb1.size; simp at hz)
      | (at_builtin; refine wpl_append rfl (.tmp 18) (.tmp 19) rfl (HO.out.below hb1) rfl (ho1.bs (by unfold maxLen; omega)) rfl hp (by simp; omega) (by omega) ?_; intro v2 w2 ho2 hg2))
    go_ret
    exact ⟨_, rfl, by simpa using ho2, ((Below.refl _ _).alloc (Nat.le_refl _) _).trans ((hb1.mono (by simp)).trans (hg2.below (HO.out.below hb1) (by omega)))⟩

theorem strL_get (s : ByteArray) (k : Nat) (h : k < s.size) : (strL s).take (k + 1) = (strL s).take k ++ [((s[k]'h).toNat : Int)] := by
  rw [List.take_succ_eq_append_getElem (by rw [strL_len]; exact h)]
  congr 1
  simp [strL]
  rfl

set_option maxHeartbeats 1000000 in
set_option maxRecDepth 100000 in
theorem specText_any (s : ByteArray) (w : World) (hs : s.size ≤ 1048576) :
    Calls Tryd.prog 135 #[.string s] w fun e w' => ∃ v', e = .returned v' ∧ Own w' w.heap.size v' (textL s) ∧ Below w.heap.size w w' := by
  have h9 := numL_len9 s.size (by omega)
  go_enter Tryd.func135, Tryd.ntmps135
  go_wp2_with (go_at_call 98; refine (specNum_any s.size (by omega) _).mono ?_; rintro e w1 ⟨v1, rfl, ho1, hb1⟩)
  go_loopw [3, 4] (fun o i wr => ∃ k : Nat, k ≤ s.size ∧ i = .int .i64 k ∧ Own wr w.heap.size o (numL s.size ++ (strL s).take k) ∧ Below w.heap.size w wr) (fun _ i _ => s.size - (intOf i).toNat)
  case atStart => exact ⟨0, Nat.zero_le _, rfl, by simpa using ho1, hb1⟩
  case round =>
    obtain ⟨k, hk, rfl, ho, hb⟩ := hrel
    have hz := hb.size
    have hl : ((strL s).take k).length ≤ k := List.length_take_le _ _
    clear ho1 hb1
    by_cases hlt : k < s.size
    · have HS : Hid ((strL s).take (k + 1) = (strL s).take k ++ [((s[k]'hlt).toNat : Int)]) := strL_get s k hlt
      have h8 : ((s[k]'hlt).toNat : Int) ≤ 255 := by have := (s[k]'hlt).toNat_lt; omega
      go_wp2_with (at_builtin; refine wpl_append rfl (.tmp 14) (.tmp 18) rfl (ho.below ((Below.refl _ _).alloc (Nat.le_refl _) _)) rfl (Bs.one _ ((s[k]'hlt).toNat : Int) (by omega)) rfl (by simp) (by simp; omega) (by simp; omega) ?_; intro v2 w2 ho2 hg2)
      go_roundw
      case rel => exact ⟨k + 1, by omega, by go_num, by rw [HS.out, ← List.append_assoc]; exact ho2, hb.trans (((Below.refl _ _).alloc (by omega) _).trans (hg2.below (ho.below ((Below.refl _ _).alloc (Nat.le_refl _) _)) (by simp; omega)))⟩
      case measure => simp [intOf]; omega
    · have e : (strL s).take k = strL s := List.take_of_length_le (by rw [strL_len]; omega)
      rw [e] at ho
      go_wp2
      go_ret
      exact ⟨_, rfl, ho, hb⟩

theorem wordL_int (x : Nat) (hx : x < 4294967296) : wordL x = [(x : Int) % 256, (x : Int) / 256 % 256, (x : Int) / 65536 % 256, (x : Int) / 16777216] := by
  unfold wordL
  congr 4 <;> omega

set_option maxHeartbeats 1000000 in
theorem specFour_any (x : Nat) (w : World) (hx : x < 4294967296) :
    Calls Tryd.prog 121 #[.int .u32 x] w fun e w' => ∃ v', e = .returned v' ∧ Own w' w.heap.size v' (wordL x) ∧ Below w.heap.size w w' := by
  have hO := Own.lit w [(x : Int) % 256, (x : Int) / 256 % 256, (x : Int) / 65536 % 256, (x : Int) / 16777216] #[.int .u8 ((x : Int) % 256), .int .u8 ((x : Int) / 256 % 256), .int .u8 ((x : Int) / 65536 % 256), .int .u8 ((x : Int) / 16777216)] rfl (by intro y hy; simp only [List.mem_cons, List.not_mem_nil, or_false] at hy; omega) (by simp [maxLen])
  have HO : Hid _ := hO
  clear hO
  rw [wordL_int x hx]
  go_enter Tryd.func121, Tryd.ntmps121
  go_wp2
  go_ret
  exact ⟨_, rfl, HO.out, (Below.refl _ _).alloc (Nat.le_refl _) _⟩

end Go.Proofs.YtjoflnnomebkpaaDoor

/-
  spec.l1frame.
-/
namespace Go.Proofs.YtjoflnnomebkpaaDoor
open Go.RowKit
set_option linter.unusedVariables false

set_option maxHeartbeats 200000 in
set_option maxRecDepth 100000 in
theorem specFrame_any (v : Value) (l : List Int) (w : World) (hv : Bs w v l) (hpos : 0 < l.length) (hl : l.length ≤ 100000) :
    Calls Tryd.prog 100 #[v] w fun e w' => ∃ v', e = .returned v' ∧ Own w' w.heap.size v' (frameL l) ∧ Below w.heap.size w w' := by
  have hV : Hid (Bs w v l) := hv
  have hcrc := crcOf_lt l hv.2.1
  obtain ⟨hml, h8, a, cap, rfl, hc⟩ := hv
  clear hc
  have hw4 : ∀ x, (wordL x).length = 4 := fun x => rfl
  have hF : frameL l = wordL l.length ++ wordL (crcOf l) ++ l := rfl
  rw [hF]
  clear hF
  generalize hc : crcOf l = c at hcrc
  have HC : Hid (crcOf l = c) := hc
  clear hc
  have hfirst : True := trivial
  go_enter Tryd.func100, Tryd.ntmps100
  go_wp2_with (first
    | (go_at_call 122; refine (specCrc_any _ l _ (hV.out.below hB)).mono ?_; rw [HC.out]; rintro e w' ⟨rfl, rfl⟩)
    | (go_at_call 121; clear hfirst; refine (specFour_any l.length _ (by omega)).mono ?_; rintro e w1 ⟨v1, rfl, ho1, hb1⟩; have hB := hb1; have hz1 := hb1.size)
    | (go_at_call 121; refine (specFour_any c _ hcrc).mono ?_; rintro e w2 ⟨v2, rfl, ho2, hb2⟩; replace hB := hB.trans (hb2.mono hz1); have hz2 := hB.size; have hp1 := ho1.below hb2)
    | (at_builtin; refine wpl_append rfl (.tmp 8) (.tmp 11) rfl hp1 rfl (ho2.bs (by unfold maxLen; rw [hw4]; omega)) rfl (by rw [hw4]; omega) (by simp [hw4]) hz2 ?_; intro v3 w3 ho3 hg3; replace hB := hB.trans (hg3.below hp1 hz2); have hz3 := hB.size)
    | (at_builtin; refine wpl_append rfl (.tmp 13) (.tmp 14) rfl ho3 rfl (hV.out.below hB) rfl hpos (by simp [hw4]; omega) hz3 ?_; intro v4 w4 ho4 hg4; replace hB := hB.trans (hg4.below ho3 hz3)))
  go_ret
  exact ⟨_, rfl, by simpa using ho4, hB⟩
end Go.Proofs.YtjoflnnomebkpaaDoor

/-
  impl.putCmd.
-/
namespace Go.Proofs.YtjoflnnomebkpaaDoor
open Go.RowKit
set_option linter.unusedVariables false

def cmdL (cl sq op : Nat) (k v o : ByteArray) : List Int := numsL [cl, sq, op] ++ textL k ++ textL v ++ textL o

theorem Ints.three (w : World) (a b c : Nat) : ∀ j, j < [a, b, c].length → (w.alloc (.cells #[.int .i64 a, .int .i64 b, .int .i64 c] 3)).cell? ⟨w.heap.size, j, none⟩ = some (.int .i64 ([a, b, c][j]?.getD 0 : Nat)) := by
  intro j hj
  rw [World.cell?_alloc_new]
  match j, hj with
  | 0, _ => rfl
  | 1, _ => rfl
  | 2, _ => rfl

set_option maxHeartbeats 1000000 in
set_option maxRecDepth 100000 in
theorem putCmd_any (v : Value) (l : List Int) (cl sq op : Nat) (k vl o : ByteArray) (w : World) (B : Nat) (hv : Own w B v l) (hB : B ≤ w.heap.size) (hl : l.length ≤ 100000)
    (h1 : cl < 9223372036854775808) (h2 : sq < 9223372036854775808) (h3 : op < 9223372036854775808) (hk : k.size ≤ 64) (hvl : vl.size ≤ 64) (ho : o.size ≤ 64) :
    Calls Tryd.prog 172 #[v, .agg #[.int .i64 cl, .int .i64 sq, .int .i64 op, .string k, .string vl, .string o]] w fun e w' => ∃ v', e = .returned v' ∧ Own w' B v' (l ++ cmdL cl sq op k vl o) ∧ Grew w v w' v' := by
  have n0 := hv.ne (Nat.le_refl _)
  have n1 : v.ownBlock ≠ some (w.heap.size + 1) := hv.ne (Nat.le_succ w.heap.size)
  have hb0 : ∀ o1 o2 : Obj, Below w.heap.size w ((w.alloc o1).alloc o2) := fun o1 o2 => ((Below.refl _ _).alloc (Nat.le_refl _) _).alloc (by simp) _
  have hA : ∀ o1 o2 : Obj, Own ((w.alloc o1).alloc o2) B v l := fun o1 o2 => hv.below (hb0 o1 o2)
  have hn : (numsL [cl, sq, op]).length ≤ 27 := numsL_len [cl, sq, op] (by simp; omega)
  have t1 := textL_len k (by omega)
  have t2 := textL_len vl (by omega)
  have hI := Ints.three (w.alloc (.cells #[.int .i64 cl, .int .i64 sq, .int .i64 op, .string k, .string vl, .string o] 90)) cl sq op
  have hC := putNumbers_any v l [cl, sq, op] (w.heap.size + 1) 3 _ B (hA (.cells #[.int .i64 cl, .int .i64 sq, .int .i64 op, .string k, .string vl, .string o] 90) (.cells #[.int .i64 cl, .int .i64 sq, .int .i64 op] 3)) (by simp; omega) (by omega) (by simp; omega) (by simp) (by simpa using hI) n1
  have HC : Hid _ := hC
  clear hA hI hb0 hC
  go_enter Tryd.func172, Tryd.ntmps172
  go_wp2_with (first
    | (go_at_call 159; (refine Calls.mono HC.out ?_; clear HC; rintro e w1 ⟨v1, rfl, ho1, hg1⟩; have hz : w.heap.size < w1.heap.size := (by have := hg1.g.size; simp at this; omega); have c3 := hg1.held (b := w.heap.size) (o := 3) (x := .string k) (by simp [go_sem]) n0; have c4 := hg1.held (b := w.heap.size) (o := 4) (x := .string vl) (by simp [go_sem]) n0; have c5 := hg1.held (b := w.heap.size) (o := 5) (x := .string o) (by simp [go_sem]) n0; have f1 : v1.ownBlock ≠ some w.heap.size := hg1.far (by simp; omega) n0))
    | (go_at_call 173; refine (putText_any _ _ k _ B ho1 (by omega) (by simp; omega) (by omega)).mono ?_; rintro e w2 ⟨v2, rfl, ho2, hg2⟩; have hz2 := hg2.g.size; have d4 := hg2.held c4 f1; have d5 := hg2.held c5 f1; have f2 := hg2.far hz f1; clear ho1 c4 c5)
    | (go_at_call 173; refine (putText_any _ _ vl _ B ho2 (by omega) (by simp; omega) (by omega)).mono ?_; rintro e w3 ⟨v3, rfl, ho3, hg3⟩; have hz3 := hg3.g.size; have e5 := hg3.held d5 f2; clear ho2 d5)
    | (go_at_call 173; refine (putText_any _ _ o _ B ho3 (by omega) (by simp; omega) (by omega)).mono ?_; rintro e w4 ⟨v4, rfl, ho4, hg4⟩))
  go_ret
  refine ⟨_, rfl, ?_, ((((Grew.refl _ _).alloc _).alloc _).trans (hg1.trans (hg2.trans (hg3.trans hg4))))⟩
  simpa [cmdL, List.append_assoc] using ho4
end Go.Proofs.YtjoflnnomebkpaaDoor

/-
  spec.l1cmdBytes.
-/
namespace Go.Proofs.YtjoflnnomebkpaaDoor
open Go.RowKit
set_option linter.unusedVariables false

set_option maxHeartbeats 2000000 in
set_option maxRecDepth 100000 in
theorem specCmdBytes_any (cl sq op : Nat) (k vl o : ByteArray) (w : World)
    (h1 : cl < 9223372036854775808) (h2 : sq < 9223372036854775808) (h3 : op < 9223372036854775808) (hk : k.size ≤ 64) (hvl : vl.size ≤ 64) (hol : o.size ≤ 64) :
    Calls Tryd.prog 120 #[.agg #[.int .i64 cl, .int .i64 sq, .int .i64 op, .string k, .string vl, .string o]] w fun e w' =>
      ∃ v', e = .returned v' ∧ Own w' w.heap.size v' (cmdL cl sq op k vl o) ∧ Below w.heap.size w w' := by
  have l1 := numL_len9 cl h1
  have l2 := numL_len9 sq h2
  have l3 := numL_len9 op h3
  have l4 := textL_len k (by omega)
  have l5 := textL_len vl (by omega)
  have l6 := textL_len o (by omega)
  have p2 := numL_pos sq
  have p3 := numL_pos op
  have p4 := textL_pos k
  have p5 := textL_pos vl
  have p6 := textL_pos o
  have g1 : True := trivial
  have g2 : True := trivial
  have g3 : True := trivial
  have g4 : True := trivial
  have g5 : True := trivial
  have g6 : True := trivial
  go_enter Tryd.func120, Tryd.ntmps120
  go_wp2_with (first
    | (go_at_call 98; clear g1; refine (specNum_any cl h1 _).mono ?_; rintro e w1 ⟨v1, rfl, ho, hb⟩; have hB : Below (w.heap.size + 1) (w.alloc (.cells #[.int .i64 cl, .int .i64 sq, .int .i64 op, .string k, .string vl, .string o] 90)) w1 := hb.mono (by simp); replace ho := ho.le (B' := w.heap.size + 1) (by simp); have hz := hB.size; simp at hz; have cc := fun (o : Nat) => hB.cell (p := ⟨w.heap.size, o, none⟩) (by simp))
    | (go_at_call 98; clear g2; refine (specNum_any sq h2 _).mono ?_; rintro e w2 ⟨v2, rfl, hr, hb⟩; replace hB := hB.trans (hb.mono (by omega)); replace ho := ho.below hb; replace hz := hB.size; simp at hz; have cc := fun (o : Nat) => hB.cell (p := ⟨w.heap.size, o, none⟩) (by simp))
    | (at_builtin; refine wpl_append rfl (.tmp 7) (.tmp 10) rfl ho rfl (hr.bs (by unfold maxLen; omega)) rfl (by omega) (by (try simp only [List.length_append]); omega) (by omega) ?_; intro u2 x2 hn hg; replace hB := hB.trans (hg.below ho (by omega)); replace ho := hn; clear hn hr; replace hz := hB.size; simp at hz; have cc := fun (o : Nat) => hB.cell (p := ⟨w.heap.size, o, none⟩) (by simp))
    | (go_at_call 98; clear g3; refine (specNum_any op h3 _).mono ?_; rintro e w3 ⟨v3, rfl, hr, hb⟩; replace hB := hB.trans (hb.mono (by omega)); replace ho := ho.below hb; replace hz := hB.size; simp at hz; have cc := fun (o : Nat) => hB.cell (p := ⟨w.heap.size, o, none⟩) (by simp))
    | (at_builtin; refine wpl_append rfl (.tmp 12) (.tmp 15) rfl ho rfl (hr.bs (by unfold maxLen; omega)) rfl (by omega) (by (try simp only [List.length_append]); omega) (by omega) ?_; intro u3 x3 hn hg; replace hB := hB.trans (hg.below ho (by omega)); replace ho := hn; clear hn hr; replace hz := hB.size; simp at hz; have cc := fun (o : Nat) => hB.cell (p := ⟨w.heap.size, o, none⟩) (by simp))
    | (go_at_call 135; clear g4; refine (specText_any k _ (by omega)).mono ?_; rintro e w4 ⟨v4, rfl, hr, hb⟩; replace hB := hB.trans (hb.mono (by omega)); replace ho := ho.below hb; replace hz := hB.size; simp at hz; have cc := fun (o : Nat) => hB.cell (p := ⟨w.heap.size, o, none⟩) (by simp))
    | (at_builtin; refine wpl_append rfl (.tmp 17) (.tmp 20) rfl ho rfl (hr.bs (by unfold maxLen; omega)) rfl (by omega) (by (try simp only [List.length_append]); omega) (by omega) ?_; intro u4 x4 hn hg; replace hB := hB.trans (hg.below ho (by omega)); replace ho := hn; clear hn hr; replace hz := hB.size; simp at hz; have cc := fun (o : Nat) => hB.cell (p := ⟨w.heap.size, o, none⟩) (by simp))
    | (go_at_call 135; clear g5; refine (specText_any vl _ (by omega)).mono ?_; rintro e w5 ⟨v5, rfl, hr, hb⟩; replace hB := hB.trans (hb.mono (by omega)); replace ho := ho.below hb; replace hz := hB.size; simp at hz; have cc := fun (o : Nat) => hB.cell (p := ⟨w.heap.size, o, none⟩) (by simp))
    | (at_builtin; refine wpl_append rfl (.tmp 22) (.tmp 25) rfl ho rfl (hr.bs (by unfold maxLen; omega)) rfl (by omega) (by (try simp only [List.length_append]); omega) (by omega) ?_; intro u5 x5 hn hg; replace hB := hB.trans (hg.below ho (by omega)); replace ho := hn; clear hn hr; replace hz := hB.size; simp at hz; have cc := fun (o : Nat) => hB.cell (p := ⟨w.heap.size, o, none⟩) (by simp))
    | (go_at_call 135; clear g6; refine (specText_any o _ (by omega)).mono ?_; rintro e w6 ⟨v6, rfl, hr, hb⟩; replace hB := hB.trans (hb.mono (by omega)); replace ho := ho.below hb; replace hz := hB.size; simp at hz; have cc := fun (o : Nat) => hB.cell (p := ⟨w.heap.size, o, none⟩) (by simp))
    | (at_builtin; refine wpl_append rfl (.tmp 27) (.tmp 30) rfl ho rfl (hr.bs (by unfold maxLen; omega)) rfl (by omega) (by (try simp only [List.length_append]); omega) (by omega) ?_; intro u6 x6 hn hg; replace hB := hB.trans (hg.below ho (by omega)); replace ho := hn; clear hn hr; replace hz := hB.size; simp at hz; have cc := fun (o : Nat) => hB.cell (p := ⟨w.heap.size, o, none⟩) (by simp)))
  go_ret
  refine ⟨_, rfl, ?_, ((Below.refl _ _).alloc (Nat.le_refl _) _).trans (hB.mono (by omega))⟩
  have := ho.le (B' := w.heap.size) (by omega)
  simpa [cmdL, numsL, List.append_assoc] using this
end Go.Proofs.YtjoflnnomebkpaaDoor

/-
  impl.limitsOf; CmdFault, both.
-/
namespace Go.Proofs.YtjoflnnomebkpaaDoor
open Go.RowKit
set_option linter.unusedVariables false

/-- impl.limitsOf, as a value -/
def limV (op : Int) : Value :=
  if op = 0 then .agg #[.int .i64 0, .int .i64 0, .int .i64 0, .int .i64 0, .int .i64 0, .int .i64 0]
  else .agg #[.int .i64 1, .int .i64 8, .int .i64 1073741824, .int .i64 64, .int .i64 (if op = 2 ∨ op = 4 then 64 else 0), .int .i64 (if op = 4 then 64 else 0)]

theorem limitsOf_any (op : Int) (w : World) :
    Calls Tryd.prog 137 #[.int .i64 op] w fun e w' => e = .returned (limV op) ∧ Below w.heap.size w w' := by
  by_cases h0 : op = 0
  · subst h0
    have e : limV 0 = .agg #[.int .i64 0, .int .i64 0, .int .i64 0, .int .i64 0, .int .i64 0, .int .i64 0] := rfl
    rw [e]
    go_enter Tryd.func137, Tryd.ntmps137
    go_wp2
    exact bodyPost_ret (v := .agg #[.int .i64 0, .int .i64 0, .int .i64 0, .int .i64 0, .int .i64 0, .int .i64 0]) (by simp [results, Tryd.results137, go_sem]) rfl ⟨rfl, (Below.refl _ _).alloc (Nat.le_refl _) _⟩
  by_cases h2 : op = 2
  · subst h2
    have e : limV 2 = .agg #[.int .i64 1, .int .i64 8, .int .i64 1073741824, .int .i64 64, .int .i64 64, .int .i64 0] := rfl
    rw [e]
    go_enter Tryd.func137, Tryd.ntmps137
    go_wp2
    exact bodyPost_ret (v := .agg #[.int .i64 1, .int .i64 8, .int .i64 1073741824, .int .i64 64, .int .i64 64, .int .i64 0]) (by simp [results, Tryd.results137, go_sem]) rfl ⟨rfl, ((Below.refl _ _).alloc (Nat.le_refl _) _).alloc (by simp) _⟩
  by_cases h4 : op = 4
  · subst h4
    have e : limV 4 = .agg #[.int .i64 1, .int .i64 8, .int .i64 1073741824, .int .i64 64, .int .i64 64, .int .i64 64] := rfl
    rw [e]
    go_enter Tryd.func137, Tryd.ntmps137
    go_wp2
    exact bodyPost_ret (v := .agg #[.int .i64 1, .int .i64 8, .int .i64 1073741824, .int .i64 64, .int .i64 64, .int .i64 64]) (by simp [results, Tryd.results137, go_sem]) rfl ⟨rfl, ((Below.refl _ _).alloc (Nat.le_refl _) _).alloc (by simp) _⟩
  · have e : limV op = .agg #[.int .i64 1, .int .i64 8, .int .i64 1073741824, .int .i64 64, .int .i64 0, .int .i64 0] := by simp [limV, h0, h2, h4]
    rw [e]
    have n2 : (op == 2) = false := by simpa using h2
    have n4 : (op == 4) = false := by simpa using h4
    go_enter Tryd.func137, Tryd.ntmps137
    go_wp2
    all_goals exact bodyPost_ret (v := .agg #[.int .i64 1, .int .i64 8, .int .i64 1073741824, .int .i64 64, .int .i64 0, .int .i64 0]) (by simp [results, Tryd.results137, go_sem]) rfl ⟨rfl, ((Below.refl _ _).alloc (Nat.le_refl _) _).alloc (by simp) _⟩

/-- the fault of a command -/
def cmdF (cl sq op : Int) (k v o : Int) : Int :=
  if op < 0 ∨ 4 < op then 1
  else if op = 0 then (if cl ≠ 0 then 2 else if sq ≠ 0 then 3 else if k ≠ 0 then 4 else if v ≠ 0 then 5 else if o ≠ 0 then 6 else 0)
  else if cl < 1 ∨ 8 < cl then 2 else if sq < 1 ∨ 1073741824 < sq then 3 else if k < 1 ∨ 64 < k then 4
  else if (if op = 2 ∨ op = 4 then 64 else 0) < v then 5 else if (if op = 4 then 64 else 0) < o then 6 else 0



def implF (cl sq op k v o l0 l1 l2 l3 l4 l5 : Int) : Int :=
  if inB op 0 4 = false then 1 else if inB cl l0 l1 = false then 2 else if inB sq l0 l2 = false then 3 else if inB k l0 l3 = false then 4 else if l4 < v then 5 else if l5 < o then 6 else 0

set_option maxHeartbeats 1000000 in
theorem implCF_lim (cl sq op : Int) (k v o : ByteArray) (l0 l1 l2 l3 l4 l5 : Int) (hlim : limV op = .agg #[.int .i64 l0, .int .i64 l1, .int .i64 l2, .int .i64 l3, .int .i64 l4, .int .i64 l5])
    (hk : k.size ≤ maxLen) (hv : v.size ≤ maxLen) (ho : o.size ≤ maxLen) (w : World) :
    Calls Tryd.prog 130 #[.agg #[.int .i64 cl, .int .i64 sq, .int .i64 op, .string k, .string v, .string o]] w fun e w' =>
      e = .returned (.int .i64 (implF cl sq op k.size v.size o.size l0 l1 l2 l3 l4 l5)) ∧ Below w.heap.size w w' := by
  unfold maxLen at hk hv ho
  have HL : Hid (limV op = .agg #[.int .i64 l0, .int .i64 l1, .int .i64 l2, .int .i64 l3, .int .i64 l4, .int .i64 l5]) := hlim
  clear hlim
  go_enter Tryd.func130, Tryd.ntmps130
  go_wp2_with (first
    | (go_at_call 137; refine (limitsOf_any _ _).mono ?_; rintro e w1 ⟨rfl, hb⟩; rw [HL.out]; obtain ⟨hc, hf⟩ := bcell hb; have hz : w.heap.size < w1.heap.size := (by have := hb.size; simp at this; omega))
    | (go_at_call 84; refine (within_any _ _ _ _).mono ?_; rintro e w' ⟨rfl, rfl⟩))
  all_goals go_ret
  all_goals refine ⟨ret_int ?_, (((Below.refl _ _).alloc (Nat.le_refl _) _).trans (hb.mono (by simp))).alloc (by omega) _⟩
  all_goals (clear hb hc hf HL; go_light; simp_all [implF]; try omega)

theorem implF_zero (cl sq k v o : Int) (hk : 0 ≤ k) (hv : 0 ≤ v) (ho : 0 ≤ o) : implF cl sq 0 k v o 0 0 0 0 0 0 = cmdF cl sq 0 k v o := by
  unfold implF cmdF
  simp only [inB_not]
  rw [if_neg (by omega : ¬ ((0 : Int) < 0 ∨ (4 : Int) < 0)), if_neg (by omega : ¬ ((0 : Int) < 0 ∨ (4 : Int) < 0)), if_pos trivial]
  exact ifc (by omega) rfl (ifc (by omega) rfl (ifc (by omega) rfl (ifc (by omega) rfl (ifc (by omega) rfl rfl))))
theorem implF_pos (cl sq op k v o : Int) (h : op ≠ 0) : implF cl sq op k v o 1 8 1073741824 64 (if op = 2 ∨ op = 4 then 64 else 0) (if op = 4 then 64 else 0) = cmdF cl sq op k v o := by
  unfold implF cmdF
  simp only [inB_not]
  rw [if_neg h]

theorem implCmdFault_any (cl sq op : Int) (k v o : ByteArray) (hk : k.size ≤ maxLen) (hv : v.size ≤ maxLen) (ho : o.size ≤ maxLen) (w : World) :
    Calls Tryd.prog 130 #[.agg #[.int .i64 cl, .int .i64 sq, .int .i64 op, .string k, .string v, .string o]] w fun e w' =>
      e = .returned (.int .i64 (cmdF cl sq op k.size v.size o.size)) ∧ Below w.heap.size w w' := by
  by_cases h : op = 0
  · subst h
    rw [← implF_zero _ _ _ _ _ (Int.natCast_nonneg _) (Int.natCast_nonneg _) (Int.natCast_nonneg _)]
    exact implCF_lim cl sq 0 k v o 0 0 0 0 0 0 rfl hk hv ho w
  · rw [← implF_pos _ _ _ _ _ _ h]
    exact implCF_lim cl sq op k v o _ _ _ _ _ _ (by simp [limV, h]) hk hv ho w

set_option maxHeartbeats 2000000 in
theorem specCmdFault_any (cl sq op : Int) (k v o : ByteArray) (hk : k.size ≤ maxLen) (hv : v.size ≤ maxLen) (ho : o.size ≤ maxLen) (w : World) :
    Calls Tryd.prog 128 #[.agg #[.int .i64 cl, .int .i64 sq, .int .i64 op, .string k, .string v, .string o]] w fun e w' =>
      e = .returned (.int .i64 (cmdF cl sq op k.size v.size o.size)) ∧ Below w.heap.size w w' := by
  unfold maxLen at hk hv ho
  go_enter Tryd.func128, Tryd.ntmps128
  go_wp2
  all_goals go_ret
  all_goals refine ⟨ret_int ?_, (Below.refl _ _).alloc (Nat.le_refl _) _⟩
  all_goals go_light
  all_goals (try (simp only [beq_iff_eq, beq_eq_false_iff_ne, bne_iff_ne, bne_eq_false_iff_eq, ne_eq] at *))
  all_goals first | (exfalso; omega) | (unfold cmdF; repeat (first | rfl | rw [if_pos (by omega)] | rw [if_neg (by omega)]))
end Go.Proofs.YtjoflnnomebkpaaDoor

/-
  Slices of entries: what a slice value holds.
-/
namespace Go.Proofs.YtjoflnnomebkpaaDoor
open Go.RowKit
set_option linter.unusedVariables false

/-- an entry -/
structure Ent where
  t : Int
  cl : Int
  sq : Int
  op : Int
  k : ByteArray
  v : ByteArray
  o : ByteArray

def Ent.fits (e : Ent) : Prop := e.k.size ≤ maxLen ∧ e.v.size ≤ maxLen ∧ e.o.size ≤ maxLen

/-- the seven cells of an entry -/
def EntAt (w : World) (b off : Nat) (e : Ent) : Prop :=
  w.cell? ⟨b, off, none⟩ = some (.int .i64 e.t) ∧ w.cell? ⟨b, off + 1, none⟩ = some (.int .i64 e.cl) ∧ w.cell? ⟨b, off + 2, none⟩ = some (.int .i64 e.sq) ∧ w.cell? ⟨b, off + 3, none⟩ = some (.int .i64 e.op) ∧
  w.cell? ⟨b, off + 4, none⟩ = some (.string e.k) ∧ w.cell? ⟨b, off + 5, none⟩ = some (.string e.v) ∧ w.cell? ⟨b, off + 6, none⟩ = some (.string e.o)

theorem EntAt.below {w w' : World} {b off : Nat} {e : Ent} (h : EntAt w b off e) (hb : Below w.heap.size w w') : EntAt w' b off e := by
  obtain ⟨h0, h1, h2, h3, h4, h5, h6⟩ := h
  have hl := cell_lt h0
  exact ⟨(hb.cell hl).trans h0, (hb.cell hl).trans h1, (hb.cell hl).trans h2, (hb.cell hl).trans h3, (hb.cell hl).trans h4, (hb.cell hl).trans h5, (hb.cell hl).trans h6⟩

/-- the slice value v holds, in the world w, the entries l -/
def Es (w : World) (v : Value) (l : List Ent) : Prop :=
  l.length ≤ maxLen ∧ (∀ e ∈ l, e.fits) ∧
  ∃ a cap, v = .slice a l.length cap ∧ ∀ i, i < l.length → ∃ b off, a = some ⟨b, off, none⟩ ∧ ∀ j (h : j < l.length), EntAt w b (off + j * 7) l[j]

theorem Es.below {w w' : World} {v : Value} {l : List Ent} (h : Es w v l) (hb : Below w.heap.size w w') : Es w' v l := by
  obtain ⟨hl, hf, a, cap, rfl, hc⟩ := h
  refine ⟨hl, hf, a, cap, rfl, fun i hi => ?_⟩
  obtain ⟨b, off, rfl, hj⟩ := hc i hi
  exact ⟨b, off, rfl, fun j hj' => (hj j hj').below hb⟩

theorem Es.block {w w' : World} {g n cap : Nat} {l : List Ent} (h : Es w (.slice (some ⟨g, 0, none⟩) n cap) l) (hb : w'.heap[g]? = w.heap[g]?) : Es w' (.slice (some ⟨g, 0, none⟩) n cap) l := by
  obtain ⟨hl, hf, a, cap', e, hc⟩ := h
  refine ⟨hl, hf, a, cap', e, fun i hi => ?_⟩
  obtain ⟨b, off, rfl, hj⟩ := hc i hi
  simp only [Value.slice.injEq, Option.some.injEq, Addr.mk.injEq, and_true] at e
  obtain ⟨⟨rfl, rfl⟩, _⟩ := e
  have hcc : ∀ o, w'.cell? ⟨g, o, none⟩ = w.cell? ⟨g, o, none⟩ := fun o => World.cell?_of_block (w := w) hb
  refine ⟨g, 0, rfl, fun j hj' => ?_⟩
  obtain ⟨h0, h1, h2, h3, h4, h5, h6⟩ := hj j hj'
  exact ⟨(hcc _).trans h0, (hcc _).trans h1, (hcc _).trans h2, (hcc _).trans h3, (hcc _).trans h4, (hcc _).trans h5, (hcc _).trans h6⟩
end Go.Proofs.YtjoflnnomebkpaaDoor

/-
  impl.entryFits, spec.l1entryOk.
-/
namespace Go.Proofs.YtjoflnnomebkpaaDoor
open Go.RowKit
set_option linter.unusedVariables false

theorem ret_bool {a b : Bool} (h : a = b) : Ending.returned (.bool a) = .returned (.bool b) := by rw [h]

/-- is an entry well-formed? -/
def entB (e : Ent) : Bool := inB e.t 1 1073741824 && (cmdF e.cl e.sq e.op e.k.size e.v.size e.o.size == 0)

set_option maxHeartbeats 2000000 in
theorem entryFits_any (e : Ent) (hf : e.fits) (w : World) :
    Calls Tryd.prog 115 #[.agg #[.int .i64 e.t, .int .i64 e.cl, .int .i64 e.sq, .int .i64 e.op, .string e.k, .string e.v, .string e.o]] w fun r w' => r = .returned (.bool (entB e)) ∧ Below w.heap.size w w' := by
  obtain ⟨h1, h2, h3⟩ := hf
  go_enter Tryd.func115, Tryd.ntmps115
  go_wp2_with (first
    | (go_at_call 84; refine (within_any _ _ _ _).mono ?_; rintro r w' ⟨rfl, rfl⟩)
    | (go_at_call 130; refine (implCmdFault_any e.cl e.sq e.op e.k e.v e.o h1 h2 h3 _).mono ?_; rintro r w1 ⟨rfl, hb⟩))
  · go_ret
    exact ⟨ret_bool (by go_light; simp_all [entB]), ((Below.refl _ _).alloc (Nat.le_refl _) _).trans (hb.mono (by simp))⟩
  · go_ret
    exact ⟨ret_bool (by go_light; simp_all [entB]), (Below.refl _ _).alloc (Nat.le_refl _) _⟩

set_option maxHeartbeats 2000000 in
theorem entryOk_any (e : Ent) (hf : e.fits) (w : World) :
    Calls Tryd.prog 108 #[.agg #[.int .i64 e.t, .int .i64 e.cl, .int .i64 e.sq, .int .i64 e.op, .string e.k, .string e.v, .string e.o]] w fun r w' => r = .returned (.bool (entB e)) ∧ Below w.heap.size w w' := by
  obtain ⟨h1, h2, h3⟩ := hf
  by_cases t1 : 1 ≤ e.t
  · by_cases t2 : e.t ≤ 1073741824
    · have hin : inB e.t 1 1073741824 = true := (inB_iff _ _ _).2 ⟨t1, t2⟩
      go_enter Tryd.func108, Tryd.ntmps108
      go_wp2_with (go_at_call 128; refine (specCmdFault_any e.cl e.sq e.op e.k e.v e.o h1 h2 h3 _).mono ?_; rintro r w1 ⟨rfl, hb⟩)
      go_ret
      exact ⟨ret_bool (by rw [entB, hin]; simp), ((Below.refl _ _).alloc (Nat.le_refl _) _).trans (hb.mono (by simp))⟩
    · have hin : inB e.t 1 1073741824 = false := (inB_not _ _ _).2 (by omega)
      have hd : decide (e.t ≤ 1073741824) = false := by simpa using t2
      go_enter Tryd.func108, Tryd.ntmps108
      go_wp2_with (go_at_call 128; refine (specCmdFault_any e.cl e.sq e.op e.k e.v e.o h1 h2 h3 _).mono ?_; rintro r w1 ⟨rfl, hb⟩)
      go_ret
      exact ⟨ret_bool (by rw [entB, hin]; simp), (Below.refl _ _).alloc (Nat.le_refl _) _⟩
  · have hin : inB e.t 1 1073741824 = false := (inB_not _ _ _).2 (by omega)
    have hd : decide (1 ≤ e.t) = false := by simpa using t1
    go_enter Tryd.func108, Tryd.ntmps108
    go_wp2_with (go_at_call 128; refine (specCmdFault_any e.cl e.sq e.op e.k e.v e.o h1 h2 h3 _).mono ?_; rintro r w1 ⟨rfl, hb⟩)
    go_ret
    exact ⟨ret_bool (by rw [entB, hin]; simp), (Below.refl _ _).alloc (Nat.le_refl _) _⟩

/-- every entry well-formed, no term below the one ahead of it, all up to high -/
def fitL (high : Int) : Int → List Ent → Bool
  | _, [] => true
  | low, e :: r => entB e && inB e.t low high && fitL high e.t r

theorem fitL_drop (high low : Int) (l : List Ent) (k : Nat) (h : k < l.length) : fitL high low (l.drop k) = (entB l[k] && inB l[k].t low high && fitL high l[k].t (l.drop (k + 1))) := by
  rw [List.drop_eq_getElem_cons h]
  rfl
end Go.Proofs.YtjoflnnomebkpaaDoor

/-
  append at a step of a region that draws its order.
-/
namespace Go.Proofs.YtjoflnnomebkpaaDoor
open Go.RowKit
set_option linter.unusedVariables false

theorem Bs.cell1 {w : World} {b : Nat} {x : Int} (h : w.cell? ⟨b, 0, none⟩ = some (.int .u8 x)) (h8 : 0 ≤ x ∧ x ≤ 255) : Bs w (.slice (some ⟨b, 0, none⟩) 1 1) [x] :=
  ⟨by simp [maxLen], by simpa using h8, _, _, rfl, fun i hi => ⟨b, 0, rfl, fun j hj => by
    have : j = 0 := by simp at hj; omega
    subst this
    simpa using h⟩⟩

set_option maxRecDepth 100000 in
theorem wp_append {w : World} {o : Oper} {a : Act} {K : Act → World → Prop} {Q : Exit → Act → World → Prop} (s x : Operand)
    (ho : o.op = .call { callee := .builtin .append, args := #[s, x], argTypes := #[22, 22] })
    {B : Nat} {v u : Value} {l l2 : List Int} (hown : Own w B v l) (hs : a.eval s = v) (hu : Bs w u l2) (hx : a.eval x = u) (hne : 0 < l2.length) (hlen : l.length + l2.length ≤ 1073741824) (hB : B ≤ w.heap.size)
    (h : ∀ v' w', Own w' B v' (l ++ l2) → Grew w v w' v' → K (a.put o.dst v') w') : o.wp Tryd.prog a w K Q := by
  obtain ⟨i0, hi, hz0, hz1, hz2⟩ := info_parts infoU8
  obtain ⟨_, h8, au, cu, rfl, hc⟩ := hu
  obtain ⟨b, off, rfl, hcell⟩ := hc 0 hne
  refine wp_append_lies w s x 22 ho B 5 i0 (.int .u8 0) 1 1 Tryd.underlying22 hi hz0 hz1 hz2 rfl (by decide) v l.length _ hs hown.2 ⟨b, off, none⟩ l2.length cu (l2.map (Value.int .u8)) hx (by simp) ?_ ?_ hne (by unfold maxLen; omega) (by omega) hB _ rfl ?_
  · intro j u hj
    rw [cell_add]
    rw [List.getElem?_map] at hj
    cases hk : l2[j]? with
    | none => rw [hk] at hj; cases hj
    | some y =>
      rw [hk] at hj
      have hjl : j < l2.length := by
        rcases Nat.lt_or_ge j l2.length with h' | h'
        · exact h'
        · rw [List.getElem?_eq_none h'] at hk; cases hk
      rw [hcell j hjl, hk]
      exact hj
  · intro u hu
    simp only [List.mem_map] at hu
    obtain ⟨y, _, rfl⟩ := hu
    rfl
  · intro g cap w' h2 h3 h5 _
    refine h _ w' ⟨fun y hy => ?_, by simpa using h2⟩ ⟨h3, h5.imp (fun e => e.symm) fun e => ⟨_, rfl, by show w.heap.size ≤ g; omega⟩⟩
    rcases List.mem_append.1 hy with hy | hy
    · exact hown.1 y hy
    · exact h8 y hy
set_option maxRecDepth 100000 in
theorem stp_append {w : World} {ops : Array Oper} {o : Oper} {a : Act} {K : Act → World → Prop} {Q : Exit → Act → World → Prop} {E : Prop} (hgd : o.guard = none) (s x : Operand)
    (ho : o.op = .call { callee := .builtin .append, args := #[s, x], argTypes := #[22, 22] })
    {B : Nat} {v u : Value} {l l2 : List Int} (hown : Own w B v l) (hs : a.eval s = v) (hu : Bs w u l2) (hx : a.eval x = u) (hne : 0 < l2.length) (hlen : l.length + l2.length ≤ 1073741824) (hB : B ≤ w.heap.size)
    (h : ∀ v' w', Own w' B v' (l ++ l2) → Grew w v w' v' → K (a.put o.dst v') w') : if Region.wanted o (yielded ops a.tmps) = true then Oper.wp Tryd.prog o a w K Q else E := by
  have hw : Region.wanted o (yielded ops a.tmps) = true := by simp [Region.wanted, hgd]
  rw [if_pos hw]
  exact wp_append s x ho hown hs hu hx hne hlen hB h
end Go.Proofs.YtjoflnnomebkpaaDoor

/-
  impl.putEntry; the bytes of entries.
-/
namespace Go.Proofs.YtjoflnnomebkpaaDoor
open Go.RowKit
set_option linter.unusedVariables false

def entN (t cl sq op : Nat) (k v o : ByteArray) : List Int := numL t ++ cmdL cl sq op k v o
def entL (e : Ent) : List Int := entN e.t.toNat e.cl.toNat e.sq.toNat e.op.toNat e.k e.v e.o
def entsL (l : List Ent) : List Int := l.flatMap entL

set_option maxHeartbeats 4000000 in
set_option maxRecDepth 100000 in
theorem putEntry_nat (v : Value) (l : List Int) (t cl sq op : Nat) (k vl o : ByteArray) (w : World) (B : Nat) (hv : Own w B v l) (hB : B ≤ w.heap.size) (hl : l.length ≤ 90000) (h0 : t < 9223372036854775808) (h1 : cl < 9223372036854775808) (h2 : sq < 9223372036854775808) (h3 : op < 9223372036854775808) (hk : k.size ≤ 64) (hvl : vl.size ≤ 64) (ho : o.size ≤ 64) :
    Calls Tryd.prog 170 #[v, .agg #[.int .i64 t, .int .i64 cl, .int .i64 sq, .int .i64 op, .string k, .string vl, .string o]] w fun e w' => ∃ v', e = .returned v' ∧ Own w' B v' (l ++ entN t cl sq op k vl o) ∧ Grew w v w' v' := by
  have n0 := hv.ne (Nat.le_refl _)
  have h9 := numL_len9 t h0
  have hv1 : Own (w.alloc (.cells #[.int .i64 t, .int .i64 cl, .int .i64 sq, .int .i64 op, .string k, .string vl, .string o] 92)).drew B v l := hv.below (((Below.refl _ _).alloc (Nat.le_refl _) _).drew)
  go_enter Tryd.func170, Tryd.ntmps170
  go_wp2
  go_region_held3 (fun w' => w'.cell? ⟨w.heap.size, 0, none⟩ = some (.int .i64 t) ∧ w'.cell? ⟨w.heap.size, 1, none⟩ = some (.int .i64 cl) ∧ w'.cell? ⟨w.heap.size, 2, none⟩ = some (.int .i64 sq) ∧ w'.cell? ⟨w.heap.size, 3, none⟩ = some (.int .i64 op) ∧ w'.cell? ⟨w.heap.size, 4, none⟩ = some (.string k) ∧ w'.cell? ⟨w.heap.size, 5, none⟩ = some (.string vl) ∧ w'.cell? ⟨w.heap.size, 6, none⟩ = some (.string o)) (simp [*, go_sem])
    (first
      | (go_at_call 160; refine (putNumber_any _ _ t _ B hv1 (by simp; omega) (by omega) h0).mono ?_; rintro e w1 ⟨v1, rfl, ho1, hg1⟩; have hz1 : w.heap.size < w1.heap.size := (by have := hg1.g.size; simp at this; omega); have q1 := fun (o : Nat) => hg1.cell (k := w.heap.size) (o := o) (by simp) n0; have f1 : v1.ownBlock ≠ some w.heap.size := hg1.far (by simp) n0)
      | (go_at_call 172; refine (putCmd_any _ _ cl sq op k vl o _ B ho1 (by omega) (by simp; omega) h1 h2 h3 hk hvl ho).mono ?_; rintro e w2 ⟨v2, rfl, ho2, hg2⟩; have q2 := fun (o : Nat) => hg2.cell (k := w.heap.size) (o := o) hz1 f1))
  all_goals go_wp2
  all_goals go_ret
  all_goals refine ⟨_, rfl, by simpa [entN, List.append_assoc] using ho2, Grew.trans (Grew.of_below (((Below.refl _ _).alloc (Nat.le_refl _) _).drew)) (hg1.trans hg2)⟩

theorem entN_len (t cl sq op : Nat) (k vl o : ByteArray) (h0 : t < 9223372036854775808) (h1 : cl < 9223372036854775808) (h2 : sq < 9223372036854775808) (h3 : op < 9223372036854775808) (hk : k.size ≤ 64) (hvl : vl.size ≤ 64) (ho : o.size ≤ 64) : 0 < (entN t cl sq op k vl o).length ∧ (entN t cl sq op k vl o).length ≤ 320 := by
  have h9 := numL_len9 t h0
  have hp := numL_pos t
  have hn : (numsL [cl, sq, op]).length ≤ 27 := numsL_len [cl, sq, op] (by simp; omega)
  have t1 := textL_len k (by omega)
  have t2 := textL_len vl (by omega)
  have t3 := textL_len o (by omega)
  simp only [entN, cmdL, List.length_append]
  omega

theorem cmdF_fits {cl sq op k v o : Int} (h : cmdF cl sq op k v o = 0) : 0 ≤ cl ∧ cl ≤ 8 ∧ 0 ≤ sq ∧ sq ≤ 1073741824 ∧ 0 ≤ op ∧ op ≤ 4 ∧ k ≤ 64 ∧ v ≤ 64 ∧ o ≤ 64 := by
  unfold cmdF at h
  by_cases h1 : op < 0 ∨ 4 < op
  · rw [if_pos h1] at h; omega
  rw [if_neg h1] at h
  by_cases h2 : op = 0
  · rw [if_pos h2] at h
    repeat' split at h
    all_goals omega
  · rw [if_neg h2] at h
    repeat' split at h
    all_goals omega
/-- a well-formed entry, in plain numbers -/
theorem entB_nat {e : Ent} (h : entB e = true) : ∃ (t cl sq op : Nat) (k vl o : ByteArray), e = ⟨t, cl, sq, op, k, vl, o⟩ ∧ t < 9223372036854775808 ∧ cl < 9223372036854775808 ∧ sq < 9223372036854775808 ∧ op < 9223372036854775808 ∧ k.size ≤ 64 ∧ vl.size ≤ 64 ∧ o.size ≤ 64 ∧ entL e = entN t cl sq op k vl o := by
  obtain ⟨t, cl, sq, op, k, vl, o⟩ := e
  simp only [entB, Bool.and_eq_true, inB_iff, beq_iff_eq] at h
  obtain ⟨⟨ht, ht'⟩, hc⟩ := h
  obtain ⟨a1, a2, a3, a4, a5, a6, a7, a8, a9⟩ := cmdF_fits hc
  obtain ⟨t, rfl⟩ := Int.eq_ofNat_of_zero_le (show 0 ≤ t by omega)
  obtain ⟨cl, rfl⟩ := Int.eq_ofNat_of_zero_le a1
  obtain ⟨sq, rfl⟩ := Int.eq_ofNat_of_zero_le a3
  obtain ⟨op, rfl⟩ := Int.eq_ofNat_of_zero_le a5
  exact ⟨t, cl, sq, op, k, vl, o, rfl, by omega, by omega, by omega, by omega, by omega, by omega, by omega, by simp [entL]⟩

theorem fitL_all {high : Int} : ∀ (l : List Ent) (low : Int), fitL high low l = true → ∀ e ∈ l, entB e = true
  | [], _, _, e, he => by cases he
  | x :: r, low, h, e, he => by
    simp only [fitL, Bool.and_eq_true] at h
    rcases List.mem_cons.1 he with rfl | he
    · exact h.1.1
    · exact fitL_all r x.t h.2 e he

theorem entsL_snoc (l : List Ent) (k : Nat) (h : k < l.length) : entsL (l.take (k + 1)) = entsL (l.take k) ++ entL l[k] := by
  rw [List.take_succ_eq_append_getElem h, entsL, entsL, List.flatMap_append]
  simp
theorem entsL_len (l : List Ent) (h : ∀ e ∈ l, entB e = true) : (entsL l).length ≤ 320 * l.length := by
  induction l with
  | nil => simp [entsL]
  | cons e r ih =>
    have h2 := ih (fun m hm => h m (by simp [hm]))
    obtain ⟨t, cl, sq, op, k, vl, o, rfl, b0, b1, b2, b3, b4, b5, b6, hE⟩ := entB_nat (h e (by simp))
    have h3 := (entN_len t cl sq op k vl o b0 b1 b2 b3 b4 b5 b6).2
    simp only [entsL, List.flatMap_cons, List.length_append, List.length_cons, hE] at h2 ⊢
    omega
end Go.Proofs.YtjoflnnomebkpaaDoor

/-
  spec.l1entryBytes.
-/
namespace Go.Proofs.YtjoflnnomebkpaaDoor
open Go.RowKit
set_option linter.unusedVariables false

set_option maxHeartbeats 2000000 in
set_option maxRecDepth 100000 in
theorem specEntryBytes_nat (t cl sq op : Nat) (k vl o : ByteArray) (w : World) (h0 : t < 9223372036854775808) (h1 : cl < 9223372036854775808) (h2 : sq < 9223372036854775808) (h3 : op < 9223372036854775808) (hk : k.size ≤ 64) (hvl : vl.size ≤ 64) (ho : o.size ≤ 64) :
    Calls Tryd.prog 99 #[.agg #[.int .i64 t, .int .i64 cl, .int .i64 sq, .int .i64 op, .string k, .string vl, .string o]] w fun e w' => ∃ v', e = .returned v' ∧ Own w' w.heap.size v' (entN t cl sq op k vl o) ∧ Below w.heap.size w w' := by
  have h9 := numL_len9 t h0
  have hn : (numsL [cl, sq, op]).length ≤ 27 := numsL_len [cl, sq, op] (by simp; omega)
  have t1 := textL_len k (by omega)
  have t2 := textL_len vl (by omega)
  have t3 := textL_len o (by omega)
  have p3 := textL_pos o
  have hcl : (cmdL cl sq op k vl o).length ≤ 300 := by simp only [cmdL, List.length_append]; omega
  have hcp : 0 < (cmdL cl sq op k vl o).length := by simp only [cmdL, List.length_append]; omega
  clear hn t1 t2 t3 p3
  go_enter Tryd.func99, Tryd.ntmps99
  go_wp2_with (first
    | (go_at_call 98; refine (specNum_any t h0 _).mono ?_; rintro e w1 ⟨v1, rfl, ho1, hb⟩; have hB : Below (w.heap.size + 1) (w.alloc (.cells #[.int .i64 t, .int .i64 cl, .int .i64 sq, .int .i64 op, .string k, .string vl, .string o] 92)) w1 := hb.mono (by simp); replace ho1 := ho1.le (B' := w.heap.size + 1) (by simp); have hz : w.heap.size < w1.heap.size := (by have := hB.size; simp at this; omega); have cc := fun (o : Nat) => hB.cell (p := ⟨w.heap.size, o, none⟩) (by simp))
    | (go_at_call 120; refine (specCmdBytes_any cl sq op k vl o _ h1 h2 h3 hk hvl ho).mono ?_; rintro e w2 ⟨v2, rfl, ho2, hb2⟩; replace ho1 := ho1.below hb2; replace hB := hB.trans (hb2.mono (by omega)); have hz2 : w.heap.size < w2.heap.size := (by have := hb2.size; omega))
    | (at_builtin; refine wpl_append rfl (.tmp 7) (.tmp 10) rfl ho1 rfl (ho2.bs (by unfold maxLen; omega)) rfl hcp (by omega) (by omega) ?_; intro v3 w3 ho3 hg3; replace hB := hB.trans (hg3.below ho1 (by omega))))
  go_ret
  exact ⟨_, rfl, ho3.le (by omega), ((Below.refl _ _).alloc (Nat.le_refl _) _).trans (hB.mono (by omega))⟩

end Go.Proofs.YtjoflnnomebkpaaDoor

/-
  Rows of structs: what a slice of structs holds; room in a row.
-/
namespace Go.Proofs.YtjoflnnomebkpaaDoor
open Go.RowKit
set_option linter.unusedVariables false

/-! ### slices of structs, whatever the struct -/
theorem range_below {w w' : World} {b o : Nat} {cs : List Value} (h : w.rangeAt b o cs) (hb : Below w.heap.size w w') : w'.rangeAt b o cs := fun j v hj => (hb.cell (cell_lt (h j v hj))).trans (h j v hj)

/-- the slice value v holds, in the world w, the structs l, of m cells each -/
def Sl {α : Type} (cs : α → List Value) (m : Nat) (w : World) (v : Value) (l : List α) : Prop :=
  l.length ≤ maxLen ∧ ∃ a cap, v = .slice a l.length cap ∧ ∀ i, i < l.length → ∃ b off, a = some ⟨b, off, none⟩ ∧ ∀ j (h : j < l.length), w.rangeAt b (off + j * m) (cs l[j])

theorem Sl.below {α : Type} {cs : α → List Value} {m : Nat} {w w' : World} {v : Value} {l : List α} (h : Sl cs m w v l) (hb : Below w.heap.size w w') : Sl cs m w' v l := by
  obtain ⟨hl, a, cap, rfl, hc⟩ := h
  refine ⟨hl, a, cap, rfl, fun i hi => ?_⟩
  obtain ⟨b, off, rfl, hj⟩ := hc i hi
  exact ⟨b, off, rfl, fun j hj' => range_below (hj j hj') hb⟩

theorem there_below {w w' : World} {b o n : Nat} (h : w.there b o n) (hb : Below w.heap.size w w') (hlt : b < w.heap.size) : w'.there b o n := fun j hj => by
  rw [hb.cell (p := ⟨b, o + j, none⟩) hlt, hb.frozen (p := ⟨b, o + j, none⟩) hlt]; exact h j hj

theorem range_new' (w : World) (cs : List Value) (t : TypeId) : (w.alloc (.cells cs.toArray t)).rangeAt w.heap.size 0 cs := by
  intro j v hj
  rw [Nat.zero_add, World.cell?_alloc_new]
  simpa using hj
theorem there_new' (w : World) (cs : Array Value) (t : TypeId) : (w.alloc (.cells cs t)).there w.heap.size 0 cs.size := fun j hj => by
  refine ⟨?_, by simp⟩
  rw [Nat.zero_add, World.cell?_alloc_new, Array.getElem?_eq_getElem hj]; rfl
theorem below_setCells' {B g : Nat} {w0 : World} (hg : B ≤ g) : ∀ (vs : List Value) (o : Nat) (w : World), Below B w0 w → Below B w0 (w.setCells g o vs)
  | [], _, _, h => h
  | v :: vs, o, w, h => below_setCells' hg vs (o + 1) _ (h.setCell (show B ≤ (⟨g, o, none⟩ : Addr).block from hg) v)
theorem size_setCells' {g : Nat} : ∀ (vs : List Value) (o : Nat) (w : World), (w.setCells g o vs).heap.size = w.heap.size
  | [], _, _ => rfl
  | v :: vs, o, w => (size_setCells' vs (o + 1) _).trans (by simp [World.setCell])
theorem there_sub {w : World} {b n : Nat} (h : w.there b 0 n) (o k : Nat) (hk : o + k ≤ n) : w.there b o k := fun j hj => by
  have := h (o + j) (by omega)
  rwa [Nat.zero_add] at this

/-- what has been copied after k rounds -/
structure CopiedG {α : Type} (cs : α → List Value) (m : Nat) (w wr : World) (l : List α) (k : Nat) : Prop where
  below : Below w.heap.size w wr
  size : w.heap.size < wr.heap.size
  there : wr.there w.heap.size 0 (l.length * m)
  rows : ∀ j (h : j < l.length), j < k → wr.rangeAt w.heap.size (j * m) (cs l[j])

theorem CopiedG.start {α : Type} (cs : α → List Value) (m : Nat) (w : World) (l : List α) (z : Array Value) (t : TypeId) : CopiedG cs m w (w.alloc (.cells (madeCells z (l.length * m)) t)) l 0 :=
  ⟨(Below.refl _ _).alloc (Nat.le_refl _) _, by simp, by have h := there_new' w (madeCells z (l.length * m)) t; rwa [size_madeCells] at h, fun j _ h => absurd h (by omega)⟩
theorem CopiedG.later {α : Type} {cs : α → List Value} {m : Nat} {w wr w1 : World} {l : List α} {k : Nat} (h : CopiedG cs m w wr l k) (hb : Below wr.heap.size wr w1) : CopiedG cs m w w1 l k :=
  ⟨h.below.trans (hb.mono (Nat.le_of_lt h.size)), Nat.lt_of_lt_of_le h.size hb.size, fun j hj => by
    rw [hb.cell (p := ⟨w.heap.size, 0 + j, none⟩) h.size, hb.frozen (p := ⟨w.heap.size, 0 + j, none⟩) h.size]; exact h.there j hj, fun j hj hjk => range_below (h.rows j hj hjk) hb⟩
theorem row_le {j k n m : Nat} (h : j < k) (hk : k ≤ n) : j * m + m ≤ n * m := by
  have := Nat.mul_le_mul_right m (show j + 1 ≤ n by omega)
  rwa [Nat.succ_mul] at this
theorem CopiedG.step {α : Type} {cs : α → List Value} {m : Nat} {w wr : World} {l : List α} {k : Nat} (h : CopiedG cs m w wr l k) (hk : k < l.length) (hm : ∀ a, (cs a).length = m) :
    CopiedG cs m w (wr.setCells w.heap.size (k * m) (cs l[k])) l (k + 1) := by
  refine ⟨below_setCells' (Nat.le_refl _) _ _ _ h.below, by rw [size_setCells']; exact h.size, World.there_setCells h.there _ _ _, fun j hj hjk => ?_⟩
  by_cases e : j = k
  · subst e
    exact World.rangeAt_setCells_same _ _ _ _ (there_sub h.there _ _ (by rw [hm]; exact row_le hk (Nat.le_refl _)))
  · exact World.rangeAt_setCells_apart (h.rows j hj (by omega)) _ _ _ (.inr (.inl (by rw [hm]; exact row_le (show j < k by omega) (Nat.le_refl _))))
theorem CopiedG.sl {α : Type} {cs : α → List Value} {m : Nat} {w wr : World} {l : List α} (h : CopiedG cs m w wr l l.length) (hl : l.length ≤ maxLen) : Sl cs m wr (.slice (some ⟨w.heap.size, 0, none⟩) l.length l.length) l :=
  ⟨hl, _, _, rfl, fun i hi => ⟨_, _, rfl, fun j hj => by rw [Nat.zero_add]; exact h.rows j hj hj⟩⟩

theorem there_set' {w : World} {b n : Nat} (h : w.there b 0 n) (b' j : Nat) (x : Value) : (w.setCell ⟨b', j, none⟩ x).there b 0 n := World.there_setCells h b' j [x]
theorem there_get' {w : World} {b n : Nat} (h : w.there b 0 n) (i : Nat) (hi : i < n) : ∃ y, w.cell? ⟨b, i, none⟩ = some y := by
  have := (h i hi).1
  rw [Nat.zero_add] at this
  exact Option.isSome_iff_exists.1 this
theorem there_free' {w : World} {b n : Nat} (h : w.there b 0 n) (i : Nat) (hi : i < n) : w.frozen? ⟨b, i, none⟩ = false := by
  have := (h i hi).2
  rwa [Nat.zero_add] at this
theorem there_block' {w w' : World} {b o n : Nat} (h : w.there b o n) (hb : w'.heap[b]? = w.heap[b]?) : w'.there b o n := fun j hj => by
  obtain ⟨h1, h2⟩ := h j hj
  refine ⟨?_, ?_⟩
  · rw [World.cell?_of_block (w := w) hb]; exact h1
  · simpa [World.frozen?, hb] using h2

end Go.Proofs.YtjoflnnomebkpaaDoor

/-
  Records: eleven cells.
-/
namespace Go.Proofs.YtjoflnnomebkpaaDoor
open Go.RowKit
set_option linter.unusedVariables false

/-! ### records -/
structure Rec where
  ki : Int
  tm : Int
  vo : Int
  ix : Int
  e : Ent
def Rec.cells (r : Rec) : List Value := [.int .i64 r.ki, .int .i64 r.tm, .int .i64 r.vo, .int .i64 r.ix, .int .i64 r.e.t, .int .i64 r.e.cl, .int .i64 r.e.sq, .int .i64 r.e.op, .string r.e.k, .string r.e.v, .string r.e.o]
theorem Rec.cells_len (r : Rec) : r.cells.length = 11 := rfl
theorem gate_store' {P : Program} {w : World} {ops : Array Oper} {rest : List Oper} {o : Oper} {a : Act} {Q : Exit → Act → World → Prop} (ty : TypeId) (x y : Operand) (ho : o.op = .store ty x y)
    (h : wpList P ops Q (o :: rest) a w) : wpList P ops Q (o :: rest) a w := h
theorem sizeRec : (Tryd.prog.info? 94).map (·.size) = some 11 := by kernel_rfl
theorem gate_load' {P : Program} {w : World} {ops : Array Oper} {rest : List Oper} {o : Oper} {a : Act} {Q : Exit → Act → World → Prop} (ty : TypeId) (x : Operand) (ho : o.op = .load ty x)
    (h : wpList P ops Q (o :: rest) a w) : wpList P ops Q (o :: rest) a w := h
end Go.Proofs.YtjoflnnomebkpaaDoor

/-
  '==' on commands and records.
-/
namespace Go.Proofs.YtjoflnnomebkpaaDoor
open Go.RowKit
set_option linter.unusedVariables false

def cmdEqB (a b : Ent) : Bool := a.cl == b.cl && (a.sq == b.sq && (a.op == b.op && (a.k.toList == b.k.toList && (a.v.toList == b.v.toList && a.o.toList == b.o.toList))))
def recEqB (r s : Rec) : Bool := r.ki == s.ki && (r.tm == s.tm && (r.vo == s.vo && (r.ix == s.ix && (r.e.t == s.e.t && cmdEqB r.e s.e))))

set_option maxRecDepth 100000 in
set_option maxHeartbeats 2000000 in
theorem eqCmd_run (d : Nat) (a b : Ent) (w : World) : (Op.equalIn (d + 2) 90 (.agg #[.int .i64 a.cl, .int .i64 a.sq, .int .i64 a.op, .string a.k, .string a.v, .string a.o]) (.agg #[.int .i64 b.cl, .int .i64 b.sq, .int .i64 b.op, .string b.k, .string b.v, .string b.o])).run Tryd.prog w = .ok (cmdEqB a b) w := by
  have u3 := Tryd.underlying3
  have u9 := Tryd.underlying9
  have hS : Tryd.prog.underlying 90 = some (.struct (Tryd.prog.fieldsOf 90)) := by kernel_rfl
  rw [run_equalIn_agg w (d + 1) 90 _ _ hS (by kernel_rfl)]
  simp only [Program.fieldsOf, Tryd.underlying90]
  unfold cmdEqB
  go_simp
  by_cases h1 : a.cl = b.cl <;> by_cases h2 : a.sq = b.sq <;> by_cases h3 : a.op = b.op <;> by_cases h4 : a.k.toList = b.k.toList <;> by_cases h5 : a.v.toList = b.v.toList <;> by_cases h6 : a.o.toList = b.o.toList <;> simp [h1, h2, h3, h4, h5, h6]

set_option maxRecDepth 100000 in
set_option maxHeartbeats 2000000 in
theorem eqEnt_run (d : Nat) (a b : Ent) (w : World) : (Op.equalIn (d + 3) 92 (.agg #[.int .i64 a.t, .int .i64 a.cl, .int .i64 a.sq, .int .i64 a.op, .string a.k, .string a.v, .string a.o]) (.agg #[.int .i64 b.t, .int .i64 b.cl, .int .i64 b.sq, .int .i64 b.op, .string b.k, .string b.v, .string b.o])).run Tryd.prog w = .ok (a.t == b.t && cmdEqB a b) w := by
  have u3 := Tryd.underlying3
  have hE := fun w => eqCmd_run d a b w
  have hS : Tryd.prog.underlying 92 = some (.struct (Tryd.prog.fieldsOf 92)) := by kernel_rfl
  rw [run_equalIn_agg w (d + 2) 92 _ _ hS (by kernel_rfl)]
  simp only [Program.fieldsOf, Tryd.underlying92]
  go_simp
  by_cases h1 : a.t = b.t <;> simp [h1]
  cases cmdEqB a b <;> simp

set_option maxRecDepth 100000 in
set_option maxHeartbeats 2000000 in
theorem eqRec_run (d : Nat) (r s : Rec) (w : World) : (Op.equalIn (d + 4) 94 (.agg r.cells.toArray) (.agg s.cells.toArray)).run Tryd.prog w = .ok (recEqB r s) w := by
  have u3 := Tryd.underlying3
  have hE := fun w => eqEnt_run d r.e s.e w
  have hS : Tryd.prog.underlying 94 = some (.struct (Tryd.prog.fieldsOf 94)) := by kernel_rfl
  rw [run_equalIn_agg w (d + 3) 94 _ _ hS (by kernel_rfl)]
  simp only [Program.fieldsOf, Tryd.underlying94, Rec.cells]
  unfold recEqB
  generalize (r.e.t == s.e.t && cmdEqB r.e s.e) = X at hE ⊢
  go_simp
  cases X <;> by_cases h1 : r.ki = s.ki <;> by_cases h2 : r.tm = s.tm <;> by_cases h3 : r.vo = s.vo <;> by_cases h4 : r.ix = s.ix <;> simp [h1, h2, h3, h4]

theorem bytes_ext {a b : ByteArray} (h : a.toList = b.toList) : a = b := by
  have e : a.data.toList = b.data.toList := by rw [← ByteArray.toList_eq, ← ByteArray.toList_eq]; exact h
  cases a; cases b; congr 1; exact Array.toList_inj.1 e
theorem cmdEqB_iff (a b : Ent) : cmdEqB a b = true ↔ a.cl = b.cl ∧ a.sq = b.sq ∧ a.op = b.op ∧ a.k = b.k ∧ a.v = b.v ∧ a.o = b.o := by
  simp only [cmdEqB, Bool.and_eq_true, beq_iff_eq]
  exact ⟨fun ⟨h1, h2, h3, h4, h5, h6⟩ => ⟨h1, h2, h3, bytes_ext h4, bytes_ext h5, bytes_ext h6⟩, fun ⟨h1, h2, h3, h4, h5, h6⟩ => ⟨h1, h2, h3, by rw [h4], by rw [h5], by rw [h6]⟩⟩
end Go.Proofs.YtjoflnnomebkpaaDoor

/-
  spec.l2recordOk.
-/
namespace Go.Proofs.YtjoflnnomebkpaaDoor
open Go.RowKit
set_option linter.unusedVariables false
set_option linter.unusedSimpArgs false

/-- an entry that is zero -/
def Ent.zero : Ent := ⟨0, 0, 0, 0, .empty, .empty, .empty⟩
def noEntB (e : Ent) : Bool := e.t == 0 && cmdEqB e Ent.zero
def hardB (r : Rec) : Bool := inB r.tm 0 1073741824 && (inB r.vo 0 7 && (decide (0 < r.tm) || r.vo == 0))
/-- a record is well-formed -/
def recB (r : Rec) : Bool :=
  if r.ki = 1 then r.ix == 0 && (noEntB r.e && hardB r)
  else if r.tm ≠ 0 ∨ r.vo ≠ 0 then false
  else if r.ki = 2 then inB r.ix 1 4096 && entB r.e
  else r.ki == 3 && (noEntB r.e && inB r.ix 0 4096)
theorem noEnt_iff (e : Ent) : noEntB e = true ↔ e = Ent.zero := by
  obtain ⟨t, cl, sq, op, k, v, o⟩ := e
  simp only [noEntB, Bool.and_eq_true, beq_iff_eq, cmdEqB_iff, Ent.zero, Ent.mk.injEq]
theorem empty_toList : ByteArray.empty.toList = [] := by rw [ByteArray.toList_eq]; rfl
theorem text_ne {k : ByteArray} (h : ¬ k = .empty) : ¬ k.toList = [] := fun e => h (bytes_ext (by rw [e, empty_toList]))
theorem text_ne' {k : ByteArray} (h : ¬ k = .empty) : (k.toList == []) = false := by simpa using text_ne h

set_option maxHeartbeats 20000000 in
set_option maxRecDepth 100000 in
theorem l2recordOk_any (r : Rec) (hf : r.e.fits) (w : World) :
    Calls Tryd.prog 81 #[.agg r.cells.toArray] w fun x w' => x = .returned (.bool (recB r)) ∧ Below w.heap.size w w' := by
  obtain ⟨ki, tm, vo, ix, ⟨t, cl, sq, op, k, v, o⟩⟩ := r
  show Calls Tryd.prog 81 #[.agg #[.int .i64 ki, .int .i64 tm, .int .i64 vo, .int .i64 ix, .int .i64 t, .int .i64 cl, .int .i64 sq, .int .i64 op, .string k, .string v, .string o]] w _
  go_enter Tryd.func81, Tryd.ntmps81
  go_upto_region 1 with fail
  go_cut [3] (fun s3 wx => s3 = .bool (noEntB ⟨t, cl, sq, op, k, v, o⟩) ∧ wx = w.alloc (.cells #[.int .i64 ki, .int .i64 tm, .int .i64 vo, .int .i64 ix, .int .i64 t, .int .i64 cl, .int .i64 sq, .int .i64 op, .string k, .string v, .string o] 94))
  case first =>
    by_cases ht : t = 0
    · subst ht
      by_cases hcl : cl = 0
      · subst hcl
        by_cases hsq : sq = 0
        · subst hsq
          by_cases hop : op = 0
          · subst hop
            by_cases hk : k = .empty
            · subst hk
              by_cases hv : v = .empty
              · subst hv
                by_cases ho : o = .empty
                · subst ho
                  have hN : noEntB (⟨0, 0, 0, 0, .empty, .empty, .empty⟩ : Ent) = true := by rw [noEnt_iff]; rfl
                  go_wp2_with fail
                  go_meet
                  exact ⟨by rw [hN], rfl⟩
                · have hN : noEntB (⟨0, 0, 0, 0, .empty, .empty, o⟩ : Ent) = false := by
                    cases hB : noEntB (⟨0, 0, 0, 0, .empty, .empty, o⟩ : Ent)
                    · rfl
                    · rw [noEnt_iff] at hB; injection hB with e0 e1 e2 e3 e4 e5 e6; exact absurd e6 ho
                  have bo := text_ne ho
                  have co := text_ne' ho
                  go_wp2_with fail
                  go_meet
                  exact ⟨by rw [hN], rfl⟩
              · have hN : noEntB (⟨0, 0, 0, 0, .empty, v, o⟩ : Ent) = false := by
                  cases hB : noEntB (⟨0, 0, 0, 0, .empty, v, o⟩ : Ent)
                  · rfl
                  · rw [noEnt_iff] at hB; injection hB with e0 e1 e2 e3 e4 e5 e6; exact absurd e5 hv
                have bv := text_ne hv
                have cv := text_ne' hv
                go_wp2_with fail
                go_meet
                exact ⟨by rw [hN], rfl⟩
            · have hN : noEntB (⟨0, 0, 0, 0, k, v, o⟩ : Ent) = false := by
                cases hB : noEntB (⟨0, 0, 0, 0, k, v, o⟩ : Ent)
                · rfl
                · rw [noEnt_iff] at hB; injection hB with e0 e1 e2 e3 e4 e5 e6; exact absurd e4 hk
              have bk := text_ne hk
              have ck := text_ne' hk
              go_wp2_with fail
              go_meet
              exact ⟨by rw [hN], rfl⟩
          · have hN : noEntB (⟨0, 0, 0, op, k, v, o⟩ : Ent) = false := by
              cases hB : noEntB (⟨0, 0, 0, op, k, v, o⟩ : Ent)
              · rfl
              · rw [noEnt_iff] at hB; injection hB with e0 e1 e2 e3 e4 e5 e6; exact absurd e3 hop
            have bop : (op == 0) = false := by simpa using hop
            go_wp2_with fail
            go_meet
            exact ⟨by rw [hN], rfl⟩
        · have hN : noEntB (⟨0, 0, sq, op, k, v, o⟩ : Ent) = false := by
            cases hB : noEntB (⟨0, 0, sq, op, k, v, o⟩ : Ent)
            · rfl
            · rw [noEnt_iff] at hB; injection hB with e0 e1 e2 e3 e4 e5 e6; exact absurd e2 hsq
          have bsq : (sq == 0) = false := by simpa using hsq
          go_wp2_with fail
          go_meet
          exact ⟨by rw [hN], rfl⟩
      · have hN : noEntB (⟨0, cl, sq, op, k, v, o⟩ : Ent) = false := by
          cases hB : noEntB (⟨0, cl, sq, op, k, v, o⟩ : Ent)
          · rfl
          · rw [noEnt_iff] at hB; injection hB with e0 e1 e2 e3 e4 e5 e6; exact absurd e1 hcl
        have bcl : (cl == 0) = false := by simpa using hcl
        go_wp2_with fail
        go_meet
        exact ⟨by rw [hN], rfl⟩
    · have hN : noEntB (⟨t, cl, sq, op, k, v, o⟩ : Ent) = false := by
        cases hB : noEntB (⟨t, cl, sq, op, k, v, o⟩ : Ent)
        · rfl
        · rw [noEnt_iff] at hB; injection hB with e0 e1 e2 e3 e4 e5 e6; exact absurd e0 ht
      have bt : (t == 0) = false := by simpa using ht
      go_wp2_with fail
      go_meet
      exact ⟨by rw [hN], rfl⟩
  case rest =>
    obtain ⟨rfl, rfl⟩ := hcut
    cases hN : noEntB ⟨t, cl, sq, op, k, v, o⟩
    · by_cases k1 : ki = 1
      · subst k1
        cases hix : (ix == 0)
        · go_wp2_with (first
            | (go_at_call 80; refine (l1in_any _ _ _ _).mono ?_; rintro r w1 ⟨rfl, hw⟩; obtain rfl := hw.symm)
            | (go_at_call 108; refine (entryOk_any ⟨t, cl, sq, op, k, v, o⟩ hf _).mono ?_; rintro r w1 ⟨rfl, hb⟩))
          go_ret
          exact ⟨ret_bool (by simp [recB, hardB, hix]), ((Below.refl _ _).alloc (Nat.le_refl _) _)⟩
        · go_wp2_with (first
            | (go_at_call 80; refine (l1in_any _ _ _ _).mono ?_; rintro r w1 ⟨rfl, hw⟩; obtain rfl := hw.symm)
            | (go_at_call 108; refine (entryOk_any ⟨t, cl, sq, op, k, v, o⟩ hf _).mono ?_; rintro r w1 ⟨rfl, hb⟩))
          go_ret
          exact ⟨ret_bool (by simp [recB, hardB, hN]), ((Below.refl _ _).alloc (Nat.le_refl _) _)⟩
      · have k1' : (ki == 1) = false := by simpa using k1
        by_cases htm : tm = 0
        · have htm' : (tm != 0) = false := by simpa using htm
          by_cases hvo : vo = 0
          · have hvo' : (vo != 0) = false := by simpa using hvo
            have hR : recB ⟨ki, tm, vo, ix, ⟨t, cl, sq, op, k, v, o⟩⟩ = if ki = 2 then inB ix 1 4096 && entB ⟨t, cl, sq, op, k, v, o⟩ else ki == 3 && (noEntB ⟨t, cl, sq, op, k, v, o⟩ && inB ix 0 4096) := by simp [recB, k1, htm, hvo]
            have HR : Hid (recB ⟨ki, tm, vo, ix, ⟨t, cl, sq, op, k, v, o⟩⟩ = if ki = 2 then inB ix 1 4096 && entB ⟨t, cl, sq, op, k, v, o⟩ else ki == 3 && (noEntB ⟨t, cl, sq, op, k, v, o⟩ && inB ix 0 4096)) := hR
            clear htm hvo hR
            by_cases k2 : ki = 2
            · subst k2
              cases hi : inB ix 1 4096
              · go_wp2_with (first
                  | (go_at_call 80; refine (l1in_any _ _ _ _).mono ?_; rintro r w1 ⟨rfl, hw⟩; obtain rfl := hw.symm)
                  | (go_at_call 108; refine (entryOk_any ⟨t, cl, sq, op, k, v, o⟩ hf _).mono ?_; rintro r w1 ⟨rfl, hb⟩))
                go_ret
                exact ⟨ret_bool (by rw [HR.out]; simp [hi]), ((Below.refl _ _).alloc (Nat.le_refl _) _)⟩
              · go_wp2_with (first
                  | (go_at_call 80; refine (l1in_any _ _ _ _).mono ?_; rintro r w1 ⟨rfl, hw⟩; obtain rfl := hw.symm)
                  | (go_at_call 108; refine (entryOk_any ⟨t, cl, sq, op, k, v, o⟩ hf _).mono ?_; rintro r w1 ⟨rfl, hb⟩))
                go_ret
                exact ⟨ret_bool (by rw [HR.out]; simp [hi]), ((Below.refl _ _).alloc (Nat.le_refl _) _).trans (hb.mono (by simp))⟩
            · have k2' : (ki == 2) = false := by simpa using k2
              by_cases k3 : ki = 3
              · subst k3
                go_wp2_with (first
                  | (go_at_call 80; refine (l1in_any _ _ _ _).mono ?_; rintro r w1 ⟨rfl, hw⟩; obtain rfl := hw.symm)
                  | (go_at_call 108; refine (entryOk_any ⟨t, cl, sq, op, k, v, o⟩ hf _).mono ?_; rintro r w1 ⟨rfl, hb⟩))
                go_ret
                exact ⟨ret_bool (by rw [HR.out]; simp [hN]), ((Below.refl _ _).alloc (Nat.le_refl _) _)⟩
              · have k3' : (ki == 3) = false := by simpa using k3
                go_wp2_with (first
                  | (go_at_call 80; refine (l1in_any _ _ _ _).mono ?_; rintro r w1 ⟨rfl, hw⟩; obtain rfl := hw.symm)
                  | (go_at_call 108; refine (entryOk_any ⟨t, cl, sq, op, k, v, o⟩ hf _).mono ?_; rintro r w1 ⟨rfl, hb⟩))
                go_ret
                exact ⟨ret_bool (by rw [HR.out]; simp [k2, k3]), ((Below.refl _ _).alloc (Nat.le_refl _) _)⟩
          · have hvo' : (vo != 0) = true := by simpa using hvo
            go_wp2_with (first
              | (go_at_call 80; refine (l1in_any _ _ _ _).mono ?_; rintro r w1 ⟨rfl, hw⟩; obtain rfl := hw.symm)
              | (go_at_call 108; refine (entryOk_any ⟨t, cl, sq, op, k, v, o⟩ hf _).mono ?_; rintro r w1 ⟨rfl, hb⟩))
            go_ret
            exact ⟨ret_bool (by simp [recB, hardB, k1, hvo]), ((Below.refl _ _).alloc (Nat.le_refl _) _)⟩
        · have htm' : (tm != 0) = true := by simpa using htm
          go_wp2_with (first
            | (go_at_call 80; refine (l1in_any _ _ _ _).mono ?_; rintro r w1 ⟨rfl, hw⟩; obtain rfl := hw.symm)
            | (go_at_call 108; refine (entryOk_any ⟨t, cl, sq, op, k, v, o⟩ hf _).mono ?_; rintro r w1 ⟨rfl, hb⟩))
          go_ret
          exact ⟨ret_bool (by simp [recB, hardB, k1, htm]), ((Below.refl _ _).alloc (Nat.le_refl _) _)⟩
    · by_cases k1 : ki = 1
      · subst k1
        cases hix : (ix == 0)
        · go_wp2_with (first
            | (go_at_call 80; refine (l1in_any _ _ _ _).mono ?_; rintro r w1 ⟨rfl, hw⟩; obtain rfl := hw.symm)
            | (go_at_call 108; refine (entryOk_any ⟨t, cl, sq, op, k, v, o⟩ hf _).mono ?_; rintro r w1 ⟨rfl, hb⟩))
          go_ret
          exact ⟨ret_bool (by simp [recB, hardB, hix]), ((Below.refl _ _).alloc (Nat.le_refl _) _)⟩
        · cases ha : inB tm 0 1073741824
          · go_wp2_with (first
              | (go_at_call 80; refine (l1in_any _ _ _ _).mono ?_; rintro r w1 ⟨rfl, hw⟩; obtain rfl := hw.symm)
              | (go_at_call 108; refine (entryOk_any ⟨t, cl, sq, op, k, v, o⟩ hf _).mono ?_; rintro r w1 ⟨rfl, hb⟩))
            go_ret
            exact ⟨ret_bool (by simp [recB, hardB, hix, hN, ha]), ((Below.refl _ _).alloc (Nat.le_refl _) _)⟩
          · cases hb : inB vo 0 7
            · go_wp2_with (first
                | (go_at_call 80; refine (l1in_any _ _ _ _).mono ?_; rintro r w1 ⟨rfl, hw⟩; obtain rfl := hw.symm)
                | (go_at_call 108; refine (entryOk_any ⟨t, cl, sq, op, k, v, o⟩ hf _).mono ?_; rintro r w1 ⟨rfl, hb⟩))
              go_ret
              exact ⟨ret_bool (by simp [recB, hardB, hix, hN, ha, hb]), ((Below.refl _ _).alloc (Nat.le_refl _) _)⟩
            · by_cases hp : (0 : Int) < tm
              · go_wp2_with (first
                  | (go_at_call 80; refine (l1in_any _ _ _ _).mono ?_; rintro r w1 ⟨rfl, hw⟩; obtain rfl := hw.symm)
                  | (go_at_call 108; refine (entryOk_any ⟨t, cl, sq, op, k, v, o⟩ hf _).mono ?_; rintro r w1 ⟨rfl, hb⟩))
                go_ret
                exact ⟨ret_bool (by simp [recB, hardB, hix, hN, ha, hb, hp]), ((Below.refl _ _).alloc (Nat.le_refl _) _)⟩
              · go_wp2_with (first
                  | (go_at_call 80; refine (l1in_any _ _ _ _).mono ?_; rintro r w1 ⟨rfl, hw⟩; obtain rfl := hw.symm)
                  | (go_at_call 108; refine (entryOk_any ⟨t, cl, sq, op, k, v, o⟩ hf _).mono ?_; rintro r w1 ⟨rfl, hb⟩))
                go_ret
                exact ⟨ret_bool (by simp [recB, hardB, hix, hN, ha, hb, hp]), ((Below.refl _ _).alloc (Nat.le_refl _) _)⟩
      · have k1' : (ki == 1) = false := by simpa using k1
        by_cases htm : tm = 0
        · have htm' : (tm != 0) = false := by simpa using htm
          by_cases hvo : vo = 0
          · have hvo' : (vo != 0) = false := by simpa using hvo
            have hR : recB ⟨ki, tm, vo, ix, ⟨t, cl, sq, op, k, v, o⟩⟩ = if ki = 2 then inB ix 1 4096 && entB ⟨t, cl, sq, op, k, v, o⟩ else ki == 3 && (noEntB ⟨t, cl, sq, op, k, v, o⟩ && inB ix 0 4096) := by simp [recB, k1, htm, hvo]
            have HR : Hid (recB ⟨ki, tm, vo, ix, ⟨t, cl, sq, op, k, v, o⟩⟩ = if ki = 2 then inB ix 1 4096 && entB ⟨t, cl, sq, op, k, v, o⟩ else ki == 3 && (noEntB ⟨t, cl, sq, op, k, v, o⟩ && inB ix 0 4096)) := hR
            clear htm hvo hR
            by_cases k2 : ki = 2
            · subst k2
              cases hi : inB ix 1 4096
              · go_wp2_with (first
                  | (go_at_call 80; refine (l1in_any _ _ _ _).mono ?_; rintro r w1 ⟨rfl, hw⟩; obtain rfl := hw.symm)
                  | (go_at_call 108; refine (entryOk_any ⟨t, cl, sq, op, k, v, o⟩ hf _).mono ?_; rintro r w1 ⟨rfl, hb⟩))
                go_ret
                exact ⟨ret_bool (by rw [HR.out]; simp [hi]), ((Below.refl _ _).alloc (Nat.le_refl _) _)⟩
              · go_wp2_with (first
                  | (go_at_call 80; refine (l1in_any _ _ _ _).mono ?_; rintro r w1 ⟨rfl, hw⟩; obtain rfl := hw.symm)
                  | (go_at_call 108; refine (entryOk_any ⟨t, cl, sq, op, k, v, o⟩ hf _).mono ?_; rintro r w1 ⟨rfl, hb⟩))
                go_ret
                exact ⟨ret_bool (by rw [HR.out]; simp [hi]), ((Below.refl _ _).alloc (Nat.le_refl _) _).trans (hb.mono (by simp))⟩
            · have k2' : (ki == 2) = false := by simpa using k2
              by_cases k3 : ki = 3
              · subst k3
                go_wp2_with (first
                  | (go_at_call 80; refine (l1in_any _ _ _ _).mono ?_; rintro r w1 ⟨rfl, hw⟩; obtain rfl := hw.symm)
                  | (go_at_call 108; refine (entryOk_any ⟨t, cl, sq, op, k, v, o⟩ hf _).mono ?_; rintro r w1 ⟨rfl, hb⟩))
                go_ret
                exact ⟨ret_bool (by rw [HR.out]; simp [hN]), ((Below.refl _ _).alloc (Nat.le_refl _) _)⟩
              · have k3' : (ki == 3) = false := by simpa using k3
                go_wp2_with (first
                  | (go_at_call 80; refine (l1in_any _ _ _ _).mono ?_; rintro r w1 ⟨rfl, hw⟩; obtain rfl := hw.symm)
                  | (go_at_call 108; refine (entryOk_any ⟨t, cl, sq, op, k, v, o⟩ hf _).mono ?_; rintro r w1 ⟨rfl, hb⟩))
                go_ret
                exact ⟨ret_bool (by rw [HR.out]; simp [k2, k3]), ((Below.refl _ _).alloc (Nat.le_refl _) _)⟩
          · have hvo' : (vo != 0) = true := by simpa using hvo
            go_wp2_with (first
              | (go_at_call 80; refine (l1in_any _ _ _ _).mono ?_; rintro r w1 ⟨rfl, hw⟩; obtain rfl := hw.symm)
              | (go_at_call 108; refine (entryOk_any ⟨t, cl, sq, op, k, v, o⟩ hf _).mono ?_; rintro r w1 ⟨rfl, hb⟩))
            go_ret
            exact ⟨ret_bool (by simp [recB, hardB, k1, hvo]), ((Below.refl _ _).alloc (Nat.le_refl _) _)⟩
        · have htm' : (tm != 0) = true := by simpa using htm
          go_wp2_with (first
            | (go_at_call 80; refine (l1in_any _ _ _ _).mono ?_; rintro r w1 ⟨rfl, hw⟩; obtain rfl := hw.symm)
            | (go_at_call 108; refine (entryOk_any ⟨t, cl, sq, op, k, v, o⟩ hf _).mono ?_; rintro r w1 ⟨rfl, hb⟩))
          go_ret
          exact ⟨ret_bool (by simp [recB, hardB, k1, htm]), ((Below.refl _ _).alloc (Nat.le_refl _) _)⟩
end Go.Proofs.YtjoflnnomebkpaaDoor

/-
  spec.l2recordBytes.
-/
namespace Go.Proofs.YtjoflnnomebkpaaDoor
open Go.RowKit
set_option linter.unusedVariables false

/-- a record's body -/
def recL (r : Rec) : List Int :=
  if r.ki = 1 then 11 :: (numL r.tm.toNat ++ numL r.vo.toNat) else if r.ki = 2 then 12 :: (numL r.ix.toNat ++ entL r.e) else 13 :: numL r.ix.toNat

theorem recB_kinds {r : Rec} (h : recB r = true) :
    (r.ki = 1 ∧ r.ix = 0 ∧ r.e = Ent.zero ∧ 0 ≤ r.tm ∧ r.tm ≤ 1073741824 ∧ 0 ≤ r.vo ∧ r.vo ≤ 7 ∧ (0 < r.tm ∨ r.vo = 0)) ∨
    (r.ki = 2 ∧ r.tm = 0 ∧ r.vo = 0 ∧ 1 ≤ r.ix ∧ r.ix ≤ 4096 ∧ entB r.e = true) ∨
    (r.ki = 3 ∧ r.tm = 0 ∧ r.vo = 0 ∧ r.e = Ent.zero ∧ 0 ≤ r.ix ∧ r.ix ≤ 4096) := by
  unfold recB at h
  by_cases k1 : r.ki = 1
  · rw [if_pos k1] at h
    simp only [hardB, Bool.and_eq_true, beq_iff_eq, inB_iff, noEnt_iff, Bool.or_eq_true, decide_eq_true_eq] at h
    obtain ⟨h1, h2, ⟨h3, h4⟩, ⟨h5, h6⟩, h7⟩ := h
    exact .inl ⟨k1, h1, h2, h3, h4, h5, h6, h7⟩
  · rw [if_neg k1] at h
    by_cases hz : r.tm ≠ 0 ∨ r.vo ≠ 0
    · rw [if_pos hz] at h; cases h
    · rw [if_neg hz] at h
      have h0 : r.tm = 0 := Classical.not_not.1 (fun e => hz (.inl e))
      have h1 : r.vo = 0 := Classical.not_not.1 (fun e => hz (.inr e))
      by_cases k2 : r.ki = 2
      · rw [if_pos k2] at h
        simp only [Bool.and_eq_true, inB_iff] at h
        exact .inr (.inl ⟨k2, h0, h1, h.1.1, h.1.2, h.2⟩)
      · rw [if_neg k2] at h
        simp only [Bool.and_eq_true, beq_iff_eq, inB_iff, noEnt_iff] at h
        exact .inr (.inr ⟨h.1, h0, h1, h.2.1, h.2.2.1, h.2.2.2⟩)

set_option maxHeartbeats 4000000 in
set_option maxRecDepth 100000 in
theorem recBytes_hard (tm vo : Nat) (h1 : tm ≤ 1073741824) (h2 : vo ≤ 7) (w : World) :
    Calls Tryd.prog 64 #[.agg #[.int .i64 1, .int .i64 tm, .int .i64 vo, .int .i64 0, .int .i64 0, .int .i64 0, .int .i64 0, .int .i64 0, .string .empty, .string .empty, .string .empty]] w fun e w' =>
      ∃ v', e = .returned v' ∧ Own w' w.heap.size v' (frameL (11 :: (numL tm ++ numL vo))) ∧ Below w.heap.size w w' := by
  have n1 := numL_len9 tm (by omega)
  have n2 := numL_len9 vo (by omega)
  have p1 := numL_pos tm
  have p2 := numL_pos vo
  have hL := Own.lit (w.alloc (.cells #[.int .i64 1, .int .i64 tm, .int .i64 vo, .int .i64 0, .int .i64 0, .int .i64 0, .int .i64 0, .int .i64 0, .string .empty, .string .empty, .string .empty] 94)) [11] #[.int .u8 11] rfl (by simp) (by simp [maxLen])
  simp only [World.size_alloc, List.length_cons, List.length_nil, Nat.zero_add] at hL
  have hB0 := ((Below.refl w.heap.size w).alloc (Nat.le_refl _) (.cells #[.int .i64 1, .int .i64 tm, .int .i64 vo, .int .i64 0, .int .i64 0, .int .i64 0, .int .i64 0, .int .i64 0, .string .empty, .string .empty, .string .empty] 94)).alloc (by simp) (.cells #[.int .u8 11] 5)
  have g1 : True := trivial
  have g2 : True := trivial
  go_enter Tryd.func64, Tryd.ntmps64
  go_wp2_with (first
    | (go_at_call 98; clear g1; refine (specNum_any tm (by omega) _).mono ?_; rintro e w1 ⟨v1, rfl, ho1, hb1⟩; replace hL := hL.below hb1; have c2 : w1.cell? ⟨w.heap.size, 2, none⟩ = some (.int .i64 vo) := ((bcell hb1).1 w.heap.size 2 (by simp; omega)).trans (by simp [go_sem]); have z1 : w.heap.size + 1 < w1.heap.size := (by have := hb1.size; simp at this; omega); replace hB0 := hB0.trans (hb1.mono (by simp; omega)))
    | (at_builtin; clear g2; refine wpl_append rfl (.tmp 12) (.tmp 15) rfl hL rfl (ho1.bs (by unfold maxLen; omega)) rfl p1 (by simp; omega) (by omega) ?_; intro v2 w2 ho2 hg2; have f2 : v2.ownBlock ≠ some w.heap.size := hg2.far (by omega) (by simp [Value.ownBlock]); replace c2 : w2.cell? ⟨w.heap.size, 2, none⟩ = some (.int .i64 vo) := (hg2.cell (k := w.heap.size) (o := 2) (by omega) (by simp [Value.ownBlock])).trans c2; have hb2 := hg2.below hL (by omega); have z2 := hb2.size; replace hB0 := hB0.trans (hb2.mono (by omega)))
    | (go_at_call 98; refine (specNum_any vo (by omega) _).mono ?_; rintro e w3 ⟨v3, rfl, ho3, hb3⟩; replace ho2 := ho2.below hb3; have z3 := hb3.size; replace hB0 := hB0.trans (hb3.mono (by omega)))
    | (at_builtin; refine wpl_append rfl (.tmp 17) (.tmp 20) rfl ho2 rfl (ho3.bs (by unfold maxLen; omega)) rfl p2 (by simp; omega) (by omega) ?_; intro v4 w4 ho4 hg4; have hb4 := hg4.below ho2 (by omega); have z4 := hb4.size; replace hB0 := hB0.trans (hb4.mono (by omega)))
    | (go_at_call 100; refine (specFrame_any _ _ _ (ho4.bs (by unfold maxLen; simp; omega)) (by simp) (by simp; omega)).mono ?_; rintro e w5 ⟨v5, rfl, ho5, hb5⟩; replace hB0 := hB0.trans (hb5.mono (by omega))))
  go_ret
  exact ⟨_, rfl, by have h := ho5.le (B' := w.heap.size) (by omega); simpa using h, hB0⟩

set_option maxHeartbeats 4000000 in
set_option maxRecDepth 100000 in
theorem recBytes_cut (ix : Nat) (h1 : ix ≤ 4096) (w : World) :
    Calls Tryd.prog 64 #[.agg #[.int .i64 3, .int .i64 0, .int .i64 0, .int .i64 ix, .int .i64 0, .int .i64 0, .int .i64 0, .int .i64 0, .string .empty, .string .empty, .string .empty]] w fun e w' =>
      ∃ v', e = .returned v' ∧ Own w' w.heap.size v' (frameL (13 :: numL ix)) ∧ Below w.heap.size w w' := by
  have n1 := numL_len9 ix (by omega)
  have p1 := numL_pos ix
  have hL := Own.lit (w.alloc (.cells #[.int .i64 3, .int .i64 0, .int .i64 0, .int .i64 ix, .int .i64 0, .int .i64 0, .int .i64 0, .int .i64 0, .string .empty, .string .empty, .string .empty] 94)) [13] #[.int .u8 13] rfl (by simp) (by simp [maxLen])
  simp only [World.size_alloc, List.length_cons, List.length_nil, Nat.zero_add] at hL
  have hB0 := ((Below.refl w.heap.size w).alloc (Nat.le_refl _) (.cells #[.int .i64 3, .int .i64 0, .int .i64 0, .int .i64 ix, .int .i64 0, .int .i64 0, .int .i64 0, .int .i64 0, .string .empty, .string .empty, .string .empty] 94)).alloc (by simp) (.cells #[.int .u8 13] 5)
  go_enter Tryd.func64, Tryd.ntmps64
  go_wp2_with (first
    | (go_at_call 98; refine (specNum_any ix (by omega) _).mono ?_; rintro e w1 ⟨v1, rfl, ho1, hb1⟩; replace hL := hL.below hb1; have c0 : w1.cell? ⟨w.heap.size, 0, none⟩ = some (.int .i64 3) := ((bcell hb1).1 w.heap.size 0 (by simp; omega)).trans (by simp [go_sem]); have z1 : w.heap.size + 1 < w1.heap.size := (by have := hb1.size; simp at this; omega); replace hB0 := hB0.trans (hb1.mono (by simp; omega)))
    | (at_builtin; refine wpl_append rfl (.tmp 22) (.tmp 25) rfl hL rfl (ho1.bs (by unfold maxLen; omega)) rfl p1 (by simp; omega) (by omega) ?_; intro v2 w2 ho2 hg2; replace c0 : w2.cell? ⟨w.heap.size, 0, none⟩ = some (.int .i64 3) := (hg2.cell (k := w.heap.size) (o := 0) (by omega) (by simp [Value.ownBlock])).trans c0; have hb2 := hg2.below hL (by omega); have z2 := hb2.size; replace hB0 := hB0.trans (hb2.mono (by omega)))
    | (go_at_call 100; refine (specFrame_any _ _ _ (ho2.bs (by unfold maxLen; simp; omega)) (by simp) (by simp; omega)).mono ?_; rintro e w5 ⟨v5, rfl, ho5, hb5⟩; replace hB0 := hB0.trans (hb5.mono (by omega))))
  go_ret
  exact ⟨_, rfl, by have h := ho5.le (B' := w.heap.size) (by omega); simpa using h, hB0⟩

set_option maxHeartbeats 4000000 in
set_option maxRecDepth 100000 in
theorem recBytes_add (ix t cl sq op : Nat) (k v o : ByteArray) (h1 : ix ≤ 4096) (h0 : t < 9223372036854775808) (h2 : cl < 9223372036854775808) (h3 : sq < 9223372036854775808) (h4 : op < 9223372036854775808) (hk : k.size ≤ 64) (hv : v.size ≤ 64) (ho : o.size ≤ 64) (w : World) :
    Calls Tryd.prog 64 #[.agg #[.int .i64 2, .int .i64 0, .int .i64 0, .int .i64 ix, .int .i64 t, .int .i64 cl, .int .i64 sq, .int .i64 op, .string k, .string v, .string o]] w fun e w' =>
      ∃ v', e = .returned v' ∧ Own w' w.heap.size v' (frameL (12 :: (numL ix ++ entN t cl sq op k v o))) ∧ Below w.heap.size w w' := by
  have n1 := numL_len9 ix (by omega)
  have p1 := numL_pos ix
  obtain ⟨q1, q2⟩ := entN_len t cl sq op k v o h0 h2 h3 h4 hk hv ho
  have hL := Own.lit (w.alloc (.cells #[.int .i64 2, .int .i64 0, .int .i64 0, .int .i64 ix, .int .i64 t, .int .i64 cl, .int .i64 sq, .int .i64 op, .string k, .string v, .string o] 94)) [12] #[.int .u8 12] rfl (by simp) (by simp [maxLen])
  simp only [World.size_alloc, List.length_cons, List.length_nil, Nat.zero_add] at hL
  have hB0 := ((Below.refl w.heap.size w).alloc (Nat.le_refl _) (.cells #[.int .i64 2, .int .i64 0, .int .i64 0, .int .i64 ix, .int .i64 t, .int .i64 cl, .int .i64 sq, .int .i64 op, .string k, .string v, .string o] 94)).alloc (by simp) (.cells #[.int .u8 12] 5)
  have g2 : True := trivial
  go_enter Tryd.func64, Tryd.ntmps64
  go_wp2_with (first
    | (go_at_call 98; refine (specNum_any ix (by omega) _).mono ?_; rintro e w1 ⟨v1, rfl, ho1, hb1⟩; replace hL := hL.below hb1; have hcc := (bcell hb1).1; have c0 : w1.cell? ⟨w.heap.size, 0, none⟩ = some (.int .i64 2) := (hcc w.heap.size 0 (by simp; omega)).trans (by simp [go_sem]); have c4 : w1.cell? ⟨w.heap.size, 4, none⟩ = some (.int .i64 t) := (hcc w.heap.size 4 (by simp; omega)).trans (by simp [go_sem]); have c5 : w1.cell? ⟨w.heap.size, 5, none⟩ = some (.int .i64 cl) := (hcc w.heap.size 5 (by simp; omega)).trans (by simp [go_sem]); have c6 : w1.cell? ⟨w.heap.size, 6, none⟩ = some (.int .i64 sq) := (hcc w.heap.size 6 (by simp; omega)).trans (by simp [go_sem]); have c7 : w1.cell? ⟨w.heap.size, 7, none⟩ = some (.int .i64 op) := (hcc w.heap.size 7 (by simp; omega)).trans (by simp [go_sem]); have c8 : w1.cell? ⟨w.heap.size, 8, none⟩ = some (.string k) := (hcc w.heap.size 8 (by simp; omega)).trans (by simp [go_sem]); have c9 : w1.cell? ⟨w.heap.size, 9, none⟩ = some (.string v) := (hcc w.heap.size 9 (by simp; omega)).trans (by simp [go_sem]); have c10 : w1.cell? ⟨w.heap.size, 10, none⟩ = some (.string o) := (hcc w.heap.size 10 (by simp; omega)).trans (by simp [go_sem]); have z1 : w.heap.size + 1 < w1.heap.size := (by have := hb1.size; simp at this; omega); replace hB0 := hB0.trans (hb1.mono (by simp; omega)); clear hcc)
    | (at_builtin; clear g2; refine wpl_append rfl (.tmp 22) (.tmp 25) rfl hL rfl (ho1.bs (by unfold maxLen; omega)) rfl p1 (by simp; omega) (by omega) ?_; intro v2 w2 ho2 hg2; have hcc := fun (o : Nat) => hg2.cell (k := w.heap.size) (o := o) (by omega) (by simp [Value.ownBlock]); replace c0 : w2.cell? ⟨w.heap.size, 0, none⟩ = some (.int .i64 2) := (hcc 0).trans c0; replace c4 : w2.cell? ⟨w.heap.size, 4, none⟩ = some (.int .i64 t) := (hcc 4).trans c4; replace c5 : w2.cell? ⟨w.heap.size, 5, none⟩ = some (.int .i64 cl) := (hcc 5).trans c5; replace c6 : w2.cell? ⟨w.heap.size, 6, none⟩ = some (.int .i64 sq) := (hcc 6).trans c6; replace c7 : w2.cell? ⟨w.heap.size, 7, none⟩ = some (.int .i64 op) := (hcc 7).trans c7; replace c8 : w2.cell? ⟨w.heap.size, 8, none⟩ = some (.string k) := (hcc 8).trans c8; replace c9 : w2.cell? ⟨w.heap.size, 9, none⟩ = some (.string v) := (hcc 9).trans c9; replace c10 : w2.cell? ⟨w.heap.size, 10, none⟩ = some (.string o) := (hcc 10).trans c10; have hb2 := hg2.below hL (by omega); have z2 := hb2.size; replace hB0 := hB0.trans (hb2.mono (by omega)); clear hcc)
    | (go_at_call 99; refine (specEntryBytes_nat t cl sq op k v o _ h0 h2 h3 h4 hk hv ho).mono ?_; rintro e w3 ⟨v3, rfl, ho3, hb3⟩; replace ho2 := ho2.below hb3; have z3 := hb3.size; replace hB0 := hB0.trans (hb3.mono (by omega)))
    | (at_builtin; refine wpl_append rfl (.tmp 30) (.tmp 33) rfl ho2 rfl (ho3.bs (by unfold maxLen; omega)) rfl q1 (by simp; omega) (by omega) ?_; intro v4 w4 ho4 hg4; have hb4 := hg4.below ho2 (by omega); have z4 := hb4.size; replace hB0 := hB0.trans (hb4.mono (by omega)))
    | (go_at_call 100; refine (specFrame_any _ _ _ (ho4.bs (by unfold maxLen; simp; omega)) (by simp) (by simp; omega)).mono ?_; rintro e w5 ⟨v5, rfl, ho5, hb5⟩; replace hB0 := hB0.trans (hb5.mono (by omega))))
  go_ret
  exact ⟨_, rfl, by have h := ho5.le (B' := w.heap.size) (by omega); simpa using h, hB0⟩

theorem recL_len {r : Rec} (h : recB r = true) : 0 < (recL r).length ∧ (recL r).length ≤ 400 ∧ (frameL (recL r)).length ≤ 408 := by
  have hh : 0 < (recL r).length ∧ (recL r).length ≤ 400 := by
    rcases recB_kinds h with ⟨k1, h1, h2, h3, h4, h5, h6, h7⟩ | ⟨k2, h1, h2, h3, h4, h5⟩ | ⟨k3, h1, h2, h3, h4, h5⟩
    · have n1 := numL_len9 r.tm.toNat (by omega)
      have n2 := numL_len9 r.vo.toNat (by omega)
      unfold recL; rw [if_pos k1]; simp; omega
    · have n1 := numL_len9 r.ix.toNat (by omega)
      obtain ⟨t, cl, sq, op, k, vl, o, e, a1, a2, a3, a4, a5, a6, a7, _⟩ := entB_nat h5
      obtain ⟨q1, q2⟩ := entN_len t cl sq op k vl o a1 a2 a3 a4 a5 a6 a7
      unfold recL; rw [if_neg (by omega), if_pos k2, e]; simp [entL]; omega
    · have n1 := numL_len9 r.ix.toNat (by omega)
      unfold recL; rw [if_neg (by omega), if_neg (by omega)]; simp; omega
  refine ⟨hh.1, hh.2, ?_⟩
  simp [frameL, wordL]; omega

theorem recBytes_any (r : Rec) (h : recB r = true) (w : World) :
    Calls Tryd.prog 64 #[.agg r.cells.toArray] w fun e w' => ∃ v', e = .returned v' ∧ Own w' w.heap.size v' (frameL (recL r)) ∧ Below w.heap.size w w' := by
  rcases recB_kinds h with ⟨k1, h1, h2, h3, h4, h5, h6, h7⟩ | ⟨k2, h1, h2, h3, h4, h5⟩ | ⟨k3, h1, h2, h3, h4, h5⟩
  · obtain ⟨ki, tm, vo, ix, e⟩ := r
    simp only at k1 h1 h2 h3 h4 h5 h6
    subst k1 h1 h2
    obtain ⟨tm, rfl⟩ := Int.eq_ofNat_of_zero_le h3
    obtain ⟨vo, rfl⟩ := Int.eq_ofNat_of_zero_le h5
    exact recBytes_hard tm vo (by omega) (by omega) w
  · obtain ⟨ki, tm, vo, ix, e⟩ := r
    simp only at k2 h1 h2 h3 h4 h5
    subst k2 h1 h2
    obtain ⟨ix, rfl⟩ := Int.eq_ofNat_of_zero_le (show 0 ≤ ix by omega)
    obtain ⟨t, cl, sq, op, k, vl, o, rfl, a1, a2, a3, a4, a5, a6, a7, _⟩ := entB_nat h5
    exact recBytes_add ix t cl sq op k vl o (by omega) a1 a2 a3 a4 a5 a6 a7 w
  · obtain ⟨ki, tm, vo, ix, e⟩ := r
    simp only at k3 h1 h2 h3 h4 h5
    subst k3 h1 h2 h3
    obtain ⟨ix, rfl⟩ := Int.eq_ofNat_of_zero_le h4
    exact recBytes_cut ix (by omega) w

end Go.Proofs.YtjoflnnomebkpaaDoor

/-
  spec.l2recordsOk, spec.EncodeRecords.
-/
namespace Go.Proofs.YtjoflnnomebkpaaDoor
open Go.RowKit
set_option linter.unusedVariables false

def recsB (l : List Rec) : Bool := decide (l.length ≤ 8192) && l.all recB
def framesL (l : List Rec) : List Int := l.flatMap fun r => frameL (recL r)
/-- what EncodeRecords answers -/
def encRecs (l : List Rec) : List Int := if recsB l = true then framesL l else []

theorem framesL_len {l : List Rec} (h : l.all recB = true) : (framesL l).length ≤ 408 * l.length := by
  induction l with
  | nil => simp [framesL]
  | cons r l ih =>
    simp only [List.all_cons, Bool.and_eq_true] at h
    have h1 := (recL_len h.1).2.2
    have h2 := ih h.2
    simp only [framesL, List.flatMap_cons, List.length_append, List.length_cons] at h2 ⊢
    omega
theorem encRecs_len (l : List Rec) : (encRecs l).length ≤ 3400000 := by
  unfold encRecs
  split
  · next h =>
    simp only [recsB, Bool.and_eq_true, decide_eq_true_eq] at h
    have := framesL_len h.2
    omega
  · simp
theorem all_take_succ (l : List Rec) (k : Nat) (h : k < l.length) : (l.take (k + 1)).all recB = ((l.take k).all recB && recB l[k]) := by
  rw [List.take_succ_eq_append_getElem h, List.all_append]; simp
theorem all_take_false {l : List Rec} {k : Nat} (h : k < l.length) (hk : recB l[k] = false) : l.all recB = false := by
  cases e : l.all recB
  · rfl
  · rw [List.all_eq_true] at e
    rw [e _ (List.getElem_mem h)] at hk
    cases hk
theorem framesL_take (l : List Rec) (k : Nat) (h : k < l.length) : framesL (l.take (k + 1)) = framesL (l.take k) ++ frameL (recL l[k]) := by
  rw [List.take_succ_eq_append_getElem h, framesL, framesL, List.flatMap_append]; simp

set_option maxHeartbeats 4000000 in
set_option maxRecDepth 100000 in
theorem l2recordsOk_any (v : Value) (l : List Rec) (w : World) (hv : Sl Rec.cells 11 w v l) (hf : ∀ r ∈ l, r.e.fits) :
    Calls Tryd.prog 47 #[v] w fun x w' => x = .returned (.bool (recsB l)) ∧ Below w.heap.size w w' := by
  obtain ⟨hl, a, cap, rfl, hc⟩ := hv
  unfold maxLen at hl
  by_cases h8 : (8192 : Int) < l.length
  · have e : recsB l = false := by simp [recsB]; omega
    rw [e]
    go_enter Tryd.func47, Tryd.ntmps47
    go_wp2
    go_ret
    exact ⟨rfl, Below.refl _ _⟩
  · have e : recsB l = l.all recB := by
      have : l.length ≤ 8192 := by omega
      simp [recsB, this]
    rw [e]
    go_enter Tryd.func47, Tryd.ntmps47
    go_wp2
    go_loopw [3] (fun i wr => ∃ k : Nat, k ≤ l.length ∧ i = .int .i64 k ∧ (l.take k).all recB = true ∧ Below w.heap.size w wr) (fun i _ => l.length - (intOf i).toNat)
    case atStart => exact ⟨0, Nat.zero_le _, rfl, rfl, Below.refl _ _⟩
    case round =>
      obtain ⟨k, hk, rfl, hal, hB⟩ := hrel
      have HA : Hid ((l.take k).all recB = true) := hal
      clear hal
      by_cases hlt : k < l.length
      · obtain ⟨b, off, rfl, hj⟩ := hc k hlt
        have hra := range_below (hj k hlt) hB
        have hfk := hf l[k] (List.getElem_mem hlt)
        have hz := hB.size
        clear hc hj
        cases hr : recB l[k]
        · have HF : Hid (l.all recB = false) := all_take_false hlt hr
          go_wp2_with (first
            | (refine gate_load' 94 (.tmp 15) rfl ?_; refine wpList_load_mid rfl 94 (.tmp 15) rfl b (off + k * 11) rfl l[k].cells _ hra Tryd.underlying94 rfl sizeRec ?_)
            | (go_at_call 81; refine (l2recordOk_any l[k] hfk _).mono ?_; rintro x w1 ⟨rfl, hb⟩; rw [hr]))
          go_ret
          exact ⟨ret_bool HF.out.symm, hB.trans (hb.mono hz)⟩
        · have HS : Hid ((l.take (k + 1)).all recB = true) := by
            show _ = _
            rw [all_take_succ l k hlt, HA.out, hr]; rfl
          go_wp2_with (first
            | (refine gate_load' 94 (.tmp 15) rfl ?_; refine wpList_load_mid rfl 94 (.tmp 15) rfl b (off + k * 11) rfl l[k].cells _ hra Tryd.underlying94 rfl sizeRec ?_)
            | (go_at_call 81; refine (l2recordOk_any l[k] hfk _).mono ?_; rintro x w1 ⟨rfl, hb⟩; rw [hr]))
          go_roundw
          case rel => exact ⟨k + 1, by omega, by go_num, HS.out, hB.trans (hb.mono hz)⟩
          case measure => simp [intOf]; omega
      · have e : l.take k = l := List.take_of_length_le (by omega)
        rw [e] at HA
        go_wp2
        go_ret
        exact ⟨ret_bool HA.out.symm, hB⟩

set_option maxHeartbeats 4000000 in
set_option maxRecDepth 100000 in
theorem sEncodeRecords_any (v : Value) (l : List Rec) (w : World) (hv : Sl Rec.cells 11 w v l) (hf : ∀ r ∈ l, r.e.fits) :
    Calls Tryd.prog 23 #[v] w fun e w' => ∃ v', e = .returned v' ∧ Own w' w.heap.size v' (encRecs l) ∧ Below w.heap.size w w' := by
  have HV : Hid (Sl Rec.cells 11 w v l) := hv
  obtain ⟨hl, a, cap, rfl, hc⟩ := hv
  unfold maxLen at hl
  have h0 := Own.lit0 w
  have hb0 : Below w.heap.size w (w.alloc (.cells #[] 5)) := (Below.refl _ _).alloc (Nat.le_refl _) _
  cases hR : recsB l
  · have e : encRecs l = [] := by simp [encRecs, hR]
    rw [e]
    go_enter Tryd.func23, Tryd.ntmps23
    go_wp2_with (go_at_call 47; refine (l2recordsOk_any _ l _ (HV.out.below hb0) hf).mono ?_; rintro x w1 ⟨rfl, hb⟩; rw [hR])
    go_ret
    exact ⟨_, rfl, h0.below hb, hb0.trans (hb.mono (by simp))⟩
  · have e : encRecs l = framesL l := by simp [encRecs, hR]
    rw [e]
    have hR' := hR
    simp only [recsB, Bool.and_eq_true, decide_eq_true_eq, List.all_eq_true] at hR'
    obtain ⟨h8, hall⟩ := hR'
    have HA : Hid (∀ r ∈ l, recB r = true) := hall
    clear hall
    go_enter Tryd.func23, Tryd.ntmps23
    go_wp2_with (go_at_call 47; refine (l2recordsOk_any _ l _ (HV.out.below hb0) hf).mono ?_; rintro x w1 ⟨rfl, hb⟩; rw [hR]; replace h0 := h0.below hb; replace hb0 := hb0.trans (hb.mono (by simp)))
    go_loopw [3, 4] (fun o i wr => ∃ k : Nat, k ≤ l.length ∧ i = .int .i64 k ∧ Own wr w.heap.size o (framesL (l.take k)) ∧ Below w.heap.size w wr) (fun _ i _ => l.length - (intOf i).toNat)
    case atStart => exact ⟨0, Nat.zero_le _, rfl, h0, hb0⟩
    case round =>
      obtain ⟨k, hk, rfl, ho, hB⟩ := hrel
      have hz := hB.size
      by_cases hlt : k < l.length
      · obtain ⟨b, off, rfl, hj⟩ := hc k hlt
        have hra := range_below (hj k hlt) hB
        have hrk := HA.out l[k] (List.getElem_mem hlt)
        obtain ⟨_, _, q3⟩ := recL_len hrk
        have q1 : 0 < (frameL (recL l[k])).length := by simp [frameL, wordL]
        have hfl : (framesL (l.take k)).length ≤ 408 * 8192 := by
          have h := framesL_len (l := l.take k) (by rw [List.all_eq_true]; exact fun r hr => HA.out r (List.mem_of_mem_take hr))
          have h2 : (l.take k).length ≤ 8192 := by rw [List.length_take]; omega
          omega
        have HT : Hid (framesL (l.take (k + 1)) = framesL (l.take k) ++ frameL (recL l[k])) := framesL_take l k hlt
        clear hc hj h0 hb0
        go_wp2_with (first
          | (refine gate_load' 94 (.tmp 19) rfl ?_; refine wpList_load_mid rfl 94 (.tmp 19) rfl b (off + k * 11) rfl l[k].cells _ hra Tryd.underlying94 rfl sizeRec ?_)
          | (go_at_call 64; refine (recBytes_any l[k] hrk _).mono ?_; rintro x w2 ⟨v2, rfl, ho2, hb2⟩; have ho' := ho.below hb2; have hz2 := hb2.size)
          | (at_builtin; refine wpl_append rfl (.tmp 16) (.tmp 21) rfl ho' rfl (ho2.bs (by unfold maxLen; omega)) rfl q1 (by omega) (by omega) ?_; intro v3 w3 ho3 hg3))
        go_roundw
        case rel => exact ⟨k + 1, by omega, by go_num, by rw [HT.out]; exact ho3, hB.trans ((hb2.mono hz).trans (hg3.below ho' (by omega)))⟩
        case measure => simp [intOf]; omega
      · have e : l.take k = l := List.take_of_length_le (by omega)
        rw [e] at ho
        go_wp2
        go_ret
        exact ⟨_, rfl, ho, hB⟩
end Go.Proofs.YtjoflnnomebkpaaDoor

/-
  spec.DiskWrite.
-/
namespace Go.Proofs.YtjoflnnomebkpaaDoor
open Go.RowKit
set_option linter.unusedVariables false
set_option linter.unusedSimpArgs false

theorem frozen_alloc_lt {w : World} {o : Obj} {b i : Nat} (h : b < w.heap.size) : (w.alloc o).frozen? ⟨b, i, none⟩ = w.frozen? ⟨b, i, none⟩ := ((Below.refl w.heap.size w).alloc (Nat.le_refl _) o).frozen (p := ⟨b, i, none⟩) h
theorem frozen_block {w w' : World} {b i : Nat} (h : w'.heap[b]? = w.heap[b]?) : w'.frozen? ⟨b, i, none⟩ = w.frozen? ⟨b, i, none⟩ := by simp [World.frozen?, h]
theorem own_low {B g : Nat} {v : Value} {l : List Int} (hg : g < B) : ∀ (vs : List Value) (o : Nat) (w : World), Own w B v l → Own (w.setCells g o vs) B v l
  | [], _, _, h => h
  | x :: vs, o, w, h => own_low hg vs (o + 1) _ (h.setLow hg x)

theorem Own.setFar {w : World} {B : Nat} {v : Value} {l : List Int} (h : Own w B v l) {b i : Nat} (hne : v.ownBlock ≠ some b) (x : Value) : Own (w.setCell ⟨b, i, none⟩ x) B v l := by
  refine ⟨h.1, h.2.1, ?_⟩
  rcases h.2.2 with h | ⟨g, cap, cur, hv, hg, hh, r⟩
  · exact .inl h
  · exact .inr ⟨g, cap, cur, hv, hg, (Below.heap_setCell _ _ _ _ (fun e => hne (by rw [hv]; simp only at e; rw [e]; rfl))).trans hh, r⟩

set_option maxRecDepth 100000 in
/-- append of bytes that are owned too, be they none -/
theorem wpl_append_own {w : World} {ops : Array Oper} {rest : List Oper} {o : Oper} {a : Act} {Q : Exit → Act → World → Prop} (hgd : o.guard = none) (s x : Operand)
    (ho : o.op = .call { callee := .builtin .append, args := #[s, x], argTypes := #[22, 22] })
    {B B2 : Nat} {v u : Value} {l l2 : List Int} (hown : Own w B v l) (hs : a.eval s = v) (hu : Own w B2 u l2) (hx : a.eval x = u) (hm : l2.length ≤ maxLen) (hlen : l.length + l2.length ≤ 1073741824) (hB : B ≤ w.heap.size)
    (h : ∀ v' w', Own w' B v' (l ++ l2) → Grew w v w' v' → wpList Tryd.prog ops Q rest (a.put o.dst v') w') : wpList Tryd.prog ops Q (o :: rest) a w := by
  have hbs := hu.bs hm
  rcases hu.2.2 with ⟨rfl, h0⟩ | ⟨g, cap, cur, rfl, _⟩
  · have e2 : l2 = [] := List.eq_nil_of_length_eq_zero h0
    subst e2
    obtain ⟨i0, hi, hz0, hz1, hz2⟩ := info_parts infoU8
    refine wpList_plain hgd fun K hK' => ?_
    have hrun := run_append_owned_none (P := Tryd.prog) w B 22 o.type 5 i0 1 Tryd.underlying22 hi v l.length _ hown.2
    unfold Oper.wp
    simp [execOp, ho, resolve, invoke, builtin, hs, hx, hrun, Result.andThen]
    exact hK' _ _ (h v w (by simpa using hown) (Grew.refl w v))
  · exact wpl_append_at hgd s x ho hown hs hbs hx hlen hB h

/-- what DiskWrite answers -/
def dwCode (c y : Int) (l : List Int) (rs : List Rec) : Int := if diskB c y l.length = false then 1 else if recsB rs = false then 2 else if c < ((l.length + (framesL rs).length : Nat) : Int) then 3 else 0
def dwC (c y : Int) (l : List Int) : Int := if diskB c y l.length = false then 0 else c
def dwY (c y : Int) (l : List Int) : Int := if diskB c y l.length = false then 0 else y
def dwL (c y : Int) (l : List Int) (rs : List Rec) : List Int := if diskB c y l.length = false then [] else if recsB rs = false then l else if c < ((l.length + (framesL rs).length : Nat) : Int) then l else l ++ framesL rs

set_option maxHeartbeats 8000000 in
set_option maxRecDepth 100000 in
theorem sDiskWrite_any (c y : Int) (a : Option Addr) (cap : Nat) (l : List Int) (v : Value) (rs : List Rec) (w : World) (hv : Hid (Bs w (.slice a l.length cap) l)) (hl : l.length ≤ 1048576) (hr : Hid (Sl Rec.cells 11 w v rs)) (hf : ∀ r ∈ rs, r.e.fits) :
    Calls Tryd.prog 9 #[.agg #[.int .i64 c, .int .i64 y, .slice a l.length cap], v] w fun e w' =>
      ∃ a' cap', e = .returned (.agg #[.int .i64 (dwCode c y l rs), .int .i64 (dwC c y l), .int .i64 (dwY c y l), .slice a' (dwL c y l rs).length cap']) ∧ Own w' w.heap.size (.slice a' (dwL c y l rs).length cap') (dwL c y l rs) ∧ Below w.heap.size w w' := by
  have hb0 : Hid (Below w.heap.size w ((w.alloc (.cells #[.int .i64 c, .int .i64 y, .slice a l.length cap] 24)).alloc (.cells #[.int .i64 0, .int .i64 0, .int .i64 0, .slice none 0 0] 29))) := ((Below.refl _ _).alloc (Nat.le_refl _) _).alloc (by simp) _
  cases hd : diskB c y l.length
  · have e1 : dwCode c y l rs = 1 := by simp [dwCode, hd]
    have e2 : dwC c y l = 0 := by simp [dwC, hd]
    have e3 : dwY c y l = 0 := by simp [dwY, hd]
    have e4 : dwL c y l rs = [] := by simp [dwL, hd]
    rw [e1, e2, e3, e4]
    clear e1 e2 e3 e4
    go_enter Tryd.func9, Tryd.ntmps9
    go_wp2_with (go_at_call 45; refine (l2diskOk_any c y _ l.length cap hl _).mono ?_; rintro e w1 ⟨rfl, hb⟩; rw [hd]; obtain ⟨hc, hff⟩ := bcell hb; have z1 : w.heap.size + 1 + 1 ≤ w1.heap.size := (by have := hb.size; simp at this; omega); have yP2 : w.heap.size < w1.heap.size := (by omega); have P20 : w1.cell? ⟨w.heap.size, 0, none⟩ = some (.int .i64 c) := (hc _ 0 (by simp <;> omega)).trans (by simp); have P21 : w1.cell? ⟨w.heap.size, 1, none⟩ = some (.int .i64 y) := (hc _ 1 (by simp <;> omega)).trans (by simp); have P22 : w1.cell? ⟨w.heap.size, 2, none⟩ = some (.slice a l.length cap) := (hc _ 2 (by simp <;> omega)).trans (by simp); have yP4 : w.heap.size + 1 < w1.heap.size := (by omega); have P40 : w1.cell? ⟨w.heap.size + 1, 0, none⟩ = some (.int .i64 0) := (hc _ 0 (by simp <;> omega)).trans (by simp); have P41 : w1.cell? ⟨w.heap.size + 1, 1, none⟩ = some (.int .i64 0) := (hc _ 1 (by simp <;> omega)).trans (by simp); have P42 : w1.cell? ⟨w.heap.size + 1, 2, none⟩ = some (.int .i64 0) := (hc _ 2 (by simp <;> omega)).trans (by simp); have P43 : w1.cell? ⟨w.heap.size + 1, 3, none⟩ = some (.slice none 0 0) := (hc _ 3 (by simp <;> omega)).trans (by simp); have fz : ∀ i, w1.frozen? ⟨w.heap.size + 1, i, none⟩ = false := (fun i => (hff _ i (by simp)).trans (by simp)); have HB : Hid (Below w.heap.size w w1) := hb0.out.trans (hb.mono (by simp; omega)); have F0 := fz 0; have F1 := fz 1; have F2 := fz 2; have F3 := fz 3; clear hb hc hff)
    refine bodyPost_ret (v := .agg #[.int .i64 1, .int .i64 0, .int .i64 0, .slice none 0 0]) (by simp [results, Tryd.results9, go_sem, *]) rfl ⟨_, _, rfl, ?_, ?_⟩
    · exact Own.nil _ _
    · exact below_setCells' (show w.heap.size ≤ w.heap.size + 1 by omega) [.int .i64 1, .int .i64 0, .int .i64 0, .slice none 0 0] 0 _ HB.out
  · have e2 : dwC c y l = c := by simp [dwC, hd]
    have e3 : dwY c y l = y := by simp [dwY, hd]
    rw [e2, e3]
    clear e2 e3
    cases hR : recsB rs
    · have e1 : dwCode c y l rs = 2 := by simp [dwCode, hd, hR]
      have e4 : dwL c y l rs = l := by simp [dwL, hd, hR]
      rw [e1, e4]
      clear e1 e4
      go_enter Tryd.func9, Tryd.ntmps9
      go_wp2_with (first
        | (go_at_call 45; refine (l2diskOk_any c y _ l.length cap hl _).mono ?_; rintro e w1 ⟨rfl, hb⟩; rw [hd]; obtain ⟨hc, hff⟩ := bcell hb; have z1 : w.heap.size + 1 + 1 ≤ w1.heap.size := (by have := hb.size; simp at this; omega); have yP2 : w.heap.size < w1.heap.size := (by omega); have P20 : w1.cell? ⟨w.heap.size, 0, none⟩ = some (.int .i64 c) := (hc _ 0 (by simp <;> omega)).trans (by simp); have P21 : w1.cell? ⟨w.heap.size, 1, none⟩ = some (.int .i64 y) := (hc _ 1 (by simp <;> omega)).trans (by simp); have P22 : w1.cell? ⟨w.heap.size, 2, none⟩ = some (.slice a l.length cap) := (hc _ 2 (by simp <;> omega)).trans (by simp); have yP4 : w.heap.size + 1 < w1.heap.size := (by omega); have P40 : w1.cell? ⟨w.heap.size + 1, 0, none⟩ = some (.int .i64 0) := (hc _ 0 (by simp <;> omega)).trans (by simp); have P41 : w1.cell? ⟨w.heap.size + 1, 1, none⟩ = some (.int .i64 0) := (hc _ 1 (by simp <;> omega)).trans (by simp); have P42 : w1.cell? ⟨w.heap.size + 1, 2, none⟩ = some (.int .i64 0) := (hc _ 2 (by simp <;> omega)).trans (by simp); have P43 : w1.cell? ⟨w.heap.size + 1, 3, none⟩ = some (.slice none 0 0) := (hc _ 3 (by simp <;> omega)).trans (by simp); have fz : ∀ i, w1.frozen? ⟨w.heap.size + 1, i, none⟩ = false := (fun i => (hff _ i (by simp)).trans (by simp)); have HB : Hid (Below w.heap.size w w1) := hb0.out.trans (hb.mono (by simp; omega)); have F0 := fz 0; have F1 := fz 1; have F2 := fz 2; have F3 := fz 3; clear hb hc hff)
        | (go_at_call 46; refine (l2diskCopy_any c y a cap l _ (hv.out.below HB.out) hl).mono ?_; rintro e w2 ⟨a2, cap2, rfl, ho2, hb⟩; obtain ⟨hc, hff⟩ := bcell hb; have z2 : w1.heap.size ≤ w2.heap.size := hb.size; have lt2 := fun k e => (ho2.2.lt k e); replace yP2 : w.heap.size < w2.heap.size := (by omega); replace P20 : w2.cell? ⟨w.heap.size, 0, none⟩ = some (.int .i64 c) := (hc _ 0 (show w.heap.size < _ by omega)).trans P20; replace P21 : w2.cell? ⟨w.heap.size, 1, none⟩ = some (.int .i64 y) := (hc _ 1 (show w.heap.size < _ by omega)).trans P21; replace P22 : w2.cell? ⟨w.heap.size, 2, none⟩ = some (.slice a l.length cap) := (hc _ 2 (show w.heap.size < _ by omega)).trans P22; replace yP4 : w.heap.size + 1 < w2.heap.size := (by omega); replace P40 : w2.cell? ⟨w.heap.size + 1, 0, none⟩ = some (.int .i64 0) := (hc _ 0 (show w.heap.size + 1 < _ by omega)).trans P40; replace P41 : w2.cell? ⟨w.heap.size + 1, 1, none⟩ = some (.int .i64 0) := (hc _ 1 (show w.heap.size + 1 < _ by omega)).trans P41; replace P42 : w2.cell? ⟨w.heap.size + 1, 2, none⟩ = some (.int .i64 0) := (hc _ 2 (show w.heap.size + 1 < _ by omega)).trans P42; replace P43 : w2.cell? ⟨w.heap.size + 1, 3, none⟩ = some (.slice none 0 0) := (hc _ 3 (show w.heap.size + 1 < _ by omega)).trans P43; replace fz : ∀ i, w2.frozen? ⟨w.heap.size + 1, i, none⟩ = false := (fun i => (hff _ i (show w.heap.size + 1 < _ by omega)).trans (fz i)); replace HB : Hid (Below w.heap.size w w2) := HB.out.trans (hb.mono (by omega)); have HO : Hid (Own w2 w1.heap.size (.slice a2 l.length cap2) l) := ho2; clear hb hc hff ho2)
        | (go_at_call 47; refine (l2recordsOk_any _ rs _ (hr.out.below (HB.out.alloc (by omega) _)) hf).mono ?_; rintro e w3 ⟨rfl, hb⟩; rw [hR]; obtain ⟨hc, hff⟩ := bcell hb; have z3 : w2.heap.size < w3.heap.size := (by have := hb.size; rw [World.size_alloc] at this; omega); replace yP2 : w.heap.size < w3.heap.size := (by omega); replace P20 : w3.cell? ⟨w.heap.size, 0, none⟩ = some (.int .i64 c) := (hc _ 0 (show w.heap.size < _ by rw [World.size_alloc]; omega)).trans ((World.cell?_alloc_lt w2 _ ⟨w.heap.size, 0, none⟩ (show w.heap.size < w2.heap.size by omega)).trans P20); replace P21 : w3.cell? ⟨w.heap.size, 1, none⟩ = some (.int .i64 y) := (hc _ 1 (show w.heap.size < _ by rw [World.size_alloc]; omega)).trans ((World.cell?_alloc_lt w2 _ ⟨w.heap.size, 1, none⟩ (show w.heap.size < w2.heap.size by omega)).trans P21); replace P22 : w3.cell? ⟨w.heap.size, 2, none⟩ = some (.slice a l.length cap) := (hc _ 2 (show w.heap.size < _ by rw [World.size_alloc]; omega)).trans ((World.cell?_alloc_lt w2 _ ⟨w.heap.size, 2, none⟩ (show w.heap.size < w2.heap.size by omega)).trans P22); replace yP4 : w.heap.size + 1 < w3.heap.size := (by omega); replace P40 : w3.cell? ⟨w.heap.size + 1, 0, none⟩ = some (.int .i64 0) := (hc _ 0 (show w.heap.size + 1 < _ by rw [World.size_alloc]; omega)).trans ((World.cell?_alloc_lt w2 _ ⟨w.heap.size + 1, 0, none⟩ (show w.heap.size + 1 < w2.heap.size by omega)).trans P40); replace P41 : w3.cell? ⟨w.heap.size + 1, 1, none⟩ = some (.int .i64 0) := (hc _ 1 (show w.heap.size + 1 < _ by rw [World.size_alloc]; omega)).trans ((World.cell?_alloc_lt w2 _ ⟨w.heap.size + 1, 1, none⟩ (show w.heap.size + 1 < w2.heap.size by omega)).trans P41); replace P42 : w3.cell? ⟨w.heap.size + 1, 2, none⟩ = some (.int .i64 0) := (hc _ 2 (show w.heap.size + 1 < _ by rw [World.size_alloc]; omega)).trans ((World.cell?_alloc_lt w2 _ ⟨w.heap.size + 1, 2, none⟩ (show w.heap.size + 1 < w2.heap.size by omega)).trans P42); replace P43 : w3.cell? ⟨w.heap.size + 1, 3, none⟩ = some (.slice none 0 0) := (hc _ 3 (show w.heap.size + 1 < _ by rw [World.size_alloc]; omega)).trans ((World.cell?_alloc_lt w2 _ ⟨w.heap.size + 1, 3, none⟩ (show w.heap.size + 1 < w2.heap.size by omega)).trans P43); replace fz : ∀ i, w3.frozen? ⟨w.heap.size + 1, i, none⟩ = false := (fun i => (hff _ i (show w.heap.size + 1 < _ by rw [World.size_alloc]; omega)).trans ((frozen_alloc_lt (show w.heap.size + 1 < w2.heap.size by omega)).trans (fz i))); have yP5 : w2.heap.size < w3.heap.size := (by omega); have P50 : w3.cell? ⟨w2.heap.size, 0, none⟩ = some (.int .i64 c) := (hc _ 0 (by simp)).trans (by simp); have P51 : w3.cell? ⟨w2.heap.size, 1, none⟩ = some (.int .i64 y) := (hc _ 1 (by simp)).trans (by simp); have P52 : w3.cell? ⟨w2.heap.size, 2, none⟩ = some (.slice a2 l.length cap2) := (hc _ 2 (by simp)).trans (by simp); replace HB : Hid (Below w.heap.size w w3) := (HB.out.alloc (by omega) _).trans (hb.mono (by rw [World.size_alloc]; omega)); have hz5 : w3.frozen? ⟨w2.heap.size, 2, none⟩ = false := (hff _ 2 (by simp)).trans (by simp); replace HO : Hid (Own w3 w1.heap.size (.slice a2 l.length cap2) l) := (HO.out.below ((Below.refl _ _).alloc (Nat.le_refl _) _)).below hb; replace F0 := fz 0; replace F1 := fz 1; replace F2 := fz 2; replace F3 := fz 3; clear hb hc hff))
      refine bodyPost_ret (v := .agg #[.int .i64 2, .int .i64 c, .int .i64 y, .slice a2 l.length cap2]) (by simp [results, Tryd.results9, go_sem, *]) rfl ⟨_, _, rfl, ?_, ?_⟩
      · exact (own_low (show w.heap.size + 1 < w1.heap.size by omega) [.int .i64 2, .int .i64 c, .int .i64 y, .slice a2 l.length cap2] 0 _ HO.out).le (by omega)
      · exact below_setCells' (show w.heap.size ≤ w.heap.size + 1 by omega) [.int .i64 2, .int .i64 c, .int .i64 y, .slice a2 l.length cap2] 0 _ HB.out
    · have hE : encRecs rs = framesL rs := by simp [encRecs, hR]
      have hfl : (framesL rs).length ≤ 3400000 := by have := encRecs_len rs; rwa [hE] at this
      obtain ⟨d1, d2, d3, d4, d5, d6⟩ := diskB_le hd
      by_cases hx : c < (l.length : Int) + ((framesL rs).length : Int)
      · have e1 : dwCode c y l rs = 3 := by simp [dwCode, hd, hR, hx]
        have e4 : dwL c y l rs = l := by simp [dwL, hd, hR, hx]
        rw [e1, e4]
        clear e1 e4
        go_enter Tryd.func9, Tryd.ntmps9
        go_wp2_with (first
          | (go_at_call 45; refine (l2diskOk_any c y _ l.length cap hl _).mono ?_; rintro e w1 ⟨rfl, hb⟩; rw [hd]; obtain ⟨hc, hff⟩ := bcell hb; have z1 : w.heap.size + 1 + 1 ≤ w1.heap.size := (by have := hb.size; simp at this; omega); have yP2 : w.heap.size < w1.heap.size := (by omega); have P20 : w1.cell? ⟨w.heap.size, 0, none⟩ = some (.int .i64 c) := (hc _ 0 (by simp <;> omega)).trans (by simp); have P21 : w1.cell? ⟨w.heap.size, 1, none⟩ = some (.int .i64 y) := (hc _ 1 (by simp <;> omega)).trans (by simp); have P22 : w1.cell? ⟨w.heap.size, 2, none⟩ = some (.slice a l.length cap) := (hc _ 2 (by simp <;> omega)).trans (by simp); have yP4 : w.heap.size + 1 < w1.heap.size := (by omega); have P40 : w1.cell? ⟨w.heap.size + 1, 0, none⟩ = some (.int .i64 0) := (hc _ 0 (by simp <;> omega)).trans (by simp); have P41 : w1.cell? ⟨w.heap.size + 1, 1, none⟩ = some (.int .i64 0) := (hc _ 1 (by simp <;> omega)).trans (by simp); have P42 : w1.cell? ⟨w.heap.size + 1, 2, none⟩ = some (.int .i64 0) := (hc _ 2 (by simp <;> omega)).trans (by simp); have P43 : w1.cell? ⟨w.heap.size + 1, 3, none⟩ = some (.slice none 0 0) := (hc _ 3 (by simp <;> omega)).trans (by simp); have fz : ∀ i, w1.frozen? ⟨w.heap.size + 1, i, none⟩ = false := (fun i => (hff _ i (by simp)).trans (by simp)); have HB : Hid (Below w.heap.size w w1) := hb0.out.trans (hb.mono (by simp; omega)); have F0 := fz 0; have F1 := fz 1; have F2 := fz 2; have F3 := fz 3; clear hb hc hff)
          | (go_at_call 46; refine (l2diskCopy_any c y a cap l _ (hv.out.below HB.out) hl).mono ?_; rintro e w2 ⟨a2, cap2, rfl, ho2, hb⟩; obtain ⟨hc, hff⟩ := bcell hb; have z2 : w1.heap.size ≤ w2.heap.size := hb.size; have lt2 := fun k e => (ho2.2.lt k e); replace yP2 : w.heap.size < w2.heap.size := (by omega); replace P20 : w2.cell? ⟨w.heap.size, 0, none⟩ = some (.int .i64 c) := (hc _ 0 (show w.heap.size < _ by omega)).trans P20; replace P21 : w2.cell? ⟨w.heap.size, 1, none⟩ = some (.int .i64 y) := (hc _ 1 (show w.heap.size < _ by omega)).trans P21; replace P22 : w2.cell? ⟨w.heap.size, 2, none⟩ = some (.slice a l.length cap) := (hc _ 2 (show w.heap.size < _ by omega)).trans P22; replace yP4 : w.heap.size + 1 < w2.heap.size := (by omega); replace P40 : w2.cell? ⟨w.heap.size + 1, 0, none⟩ = some (.int .i64 0) := (hc _ 0 (show w.heap.size + 1 < _ by omega)).trans P40; replace P41 : w2.cell? ⟨w.heap.size + 1, 1, none⟩ = some (.int .i64 0) := (hc _ 1 (show w.heap.size + 1 < _ by omega)).trans P41; replace P42 : w2.cell? ⟨w.heap.size + 1, 2, none⟩ = some (.int .i64 0) := (hc _ 2 (show w.heap.size + 1 < _ by omega)).trans P42; replace P43 : w2.cell? ⟨w.heap.size + 1, 3, none⟩ = some (.slice none 0 0) := (hc _ 3 (show w.heap.size + 1 < _ by omega)).trans P43; replace fz : ∀ i, w2.frozen? ⟨w.heap.size + 1, i, none⟩ = false := (fun i => (hff _ i (show w.heap.size + 1 < _ by omega)).trans (fz i)); replace HB : Hid (Below w.heap.size w w2) := HB.out.trans (hb.mono (by omega)); have HO : Hid (Own w2 w1.heap.size (.slice a2 l.length cap2) l) := ho2; clear hb hc hff ho2)
          | (go_at_call 47; refine (l2recordsOk_any _ rs _ (hr.out.below (HB.out.alloc (by omega) _)) hf).mono ?_; rintro e w3 ⟨rfl, hb⟩; rw [hR]; obtain ⟨hc, hff⟩ := bcell hb; have z3 : w2.heap.size < w3.heap.size := (by have := hb.size; rw [World.size_alloc] at this; omega); replace yP2 : w.heap.size < w3.heap.size := (by omega); replace P20 : w3.cell? ⟨w.heap.size, 0, none⟩ = some (.int .i64 c) := (hc _ 0 (show w.heap.size < _ by rw [World.size_alloc]; omega)).trans ((World.cell?_alloc_lt w2 _ ⟨w.heap.size, 0, none⟩ (show w.heap.size < w2.heap.size by omega)).trans P20); replace P21 : w3.cell? ⟨w.heap.size, 1, none⟩ = some (.int .i64 y) := (hc _ 1 (show w.heap.size < _ by rw [World.size_alloc]; omega)).trans ((World.cell?_alloc_lt w2 _ ⟨w.heap.size, 1, none⟩ (show w.heap.size < w2.heap.size by omega)).trans P21); replace P22 : w3.cell? ⟨w.heap.size, 2, none⟩ = some (.slice a l.length cap) := (hc _ 2 (show w.heap.size < _ by rw [World.size_alloc]; omega)).trans ((World.cell?_alloc_lt w2 _ ⟨w.heap.size, 2, none⟩ (show w.heap.size < w2.heap.size by omega)).trans P22); replace yP4 : w.heap.size + 1 < w3.heap.size := (by omega); replace P40 : w3.cell? ⟨w.heap.size + 1, 0, none⟩ = some (.int .i64 0) := (hc _ 0 (show w.heap.size + 1 < _ by rw [World.size_alloc]; omega)).trans ((World.cell?_alloc_lt w2 _ ⟨w.heap.size + 1, 0, none⟩ (show w.heap.size + 1 < w2.heap.size by omega)).trans P40); replace P41 : w3.cell? ⟨w.heap.size + 1, 1, none⟩ = some (.int .i64 0) := (hc _ 1 (show w.heap.size + 1 < _ by rw [World.size_alloc]; omega)).trans ((World.cell?_alloc_lt w2 _ ⟨w.heap.size + 1, 1, none⟩ (show w.heap.size + 1 < w2.heap.size by omega)).trans P41); replace P42 : w3.cell? ⟨w.heap.size + 1, 2, none⟩ = some (.int .i64 0) := (hc _ 2 (show w.heap.size + 1 < _ by rw [World.size_alloc]; omega)).trans ((World.cell?_alloc_lt w2 _ ⟨w.heap.size + 1, 2, none⟩ (show w.heap.size + 1 < w2.heap.size by omega)).trans P42); replace P43 : w3.cell? ⟨w.heap.size + 1, 3, none⟩ = some (.slice none 0 0) := (hc _ 3 (show w.heap.size + 1 < _ by rw [World.size_alloc]; omega)).trans ((World.cell?_alloc_lt w2 _ ⟨w.heap.size + 1, 3, none⟩ (show w.heap.size + 1 < w2.heap.size by omega)).trans P43); replace fz : ∀ i, w3.frozen? ⟨w.heap.size + 1, i, none⟩ = false := (fun i => (hff _ i (show w.heap.size + 1 < _ by rw [World.size_alloc]; omega)).trans ((frozen_alloc_lt (show w.heap.size + 1 < w2.heap.size by omega)).trans (fz i))); have yP5 : w2.heap.size < w3.heap.size := (by omega); have P50 : w3.cell? ⟨w2.heap.size, 0, none⟩ = some (.int .i64 c) := (hc _ 0 (by simp)).trans (by simp); have P51 : w3.cell? ⟨w2.heap.size, 1, none⟩ = some (.int .i64 y) := (hc _ 1 (by simp)).trans (by simp); have P52 : w3.cell? ⟨w2.heap.size, 2, none⟩ = some (.slice a2 l.length cap2) := (hc _ 2 (by simp)).trans (by simp); replace HB : Hid (Below w.heap.size w w3) := (HB.out.alloc (by omega) _).trans (hb.mono (by rw [World.size_alloc]; omega)); have hz5 : w3.frozen? ⟨w2.heap.size, 2, none⟩ = false := (hff _ 2 (by simp)).trans (by simp); replace HO : Hid (Own w3 w1.heap.size (.slice a2 l.length cap2) l) := (HO.out.below ((Below.refl _ _).alloc (Nat.le_refl _) _)).below hb; replace F0 := fz 0; replace F1 := fz 1; replace F2 := fz 2; replace F3 := fz 3; clear hb hc hff)
          | (go_at_call 23; refine (sEncodeRecords_any _ rs _ (hr.out.below HB.out) hf).mono ?_; rintro e w4 ⟨v4, rfl, ho4, hb⟩; rw [hE] at ho4; obtain ⟨a4, cap4, rfl⟩ := ho4.shape; obtain ⟨hc, hff⟩ := bcell hb; have z4 : w3.heap.size ≤ w4.heap.size := hb.size; replace yP2 : w.heap.size < w4.heap.size := (by omega); replace P20 : w4.cell? ⟨w.heap.size, 0, none⟩ = some (.int .i64 c) := (hc _ 0 (show w.heap.size < _ by omega)).trans P20; replace P21 : w4.cell? ⟨w.heap.size, 1, none⟩ = some (.int .i64 y) := (hc _ 1 (show w.heap.size < _ by omega)).trans P21; replace P22 : w4.cell? ⟨w.heap.size, 2, none⟩ = some (.slice a l.length cap) := (hc _ 2 (show w.heap.size < _ by omega)).trans P22; replace yP4 : w.heap.size + 1 < w4.heap.size := (by omega); replace P40 : w4.cell? ⟨w.heap.size + 1, 0, none⟩ = some (.int .i64 0) := (hc _ 0 (show w.heap.size + 1 < _ by omega)).trans P40; replace P41 : w4.cell? ⟨w.heap.size + 1, 1, none⟩ = some (.int .i64 0) := (hc _ 1 (show w.heap.size + 1 < _ by omega)).trans P41; replace P42 : w4.cell? ⟨w.heap.size + 1, 2, none⟩ = some (.int .i64 0) := (hc _ 2 (show w.heap.size + 1 < _ by omega)).trans P42; replace P43 : w4.cell? ⟨w.heap.size + 1, 3, none⟩ = some (.slice none 0 0) := (hc _ 3 (show w.heap.size + 1 < _ by omega)).trans P43; replace fz : ∀ i, w4.frozen? ⟨w.heap.size + 1, i, none⟩ = false := (fun i => (hff _ i (show w.heap.size + 1 < _ by omega)).trans (fz i)); replace yP5 : w2.heap.size < w4.heap.size := (by omega); replace P50 : w4.cell? ⟨w2.heap.size, 0, none⟩ = some (.int .i64 c) := (hc _ 0 (show w2.heap.size < _ by omega)).trans P50; replace P51 : w4.cell? ⟨w2.heap.size, 1, none⟩ = some (.int .i64 y) := (hc _ 1 (show w2.heap.size < _ by omega)).trans P51; replace P52 : w4.cell? ⟨w2.heap.size, 2, none⟩ = some (.slice a2 l.length cap2) := (hc _ 2 (show w2.heap.size < _ by omega)).trans P52; replace HB : Hid (Below w.heap.size w w4) := HB.out.trans (hb.mono (by omega)); replace hz5 : w4.frozen? ⟨w2.heap.size, 2, none⟩ = false := (hff _ 2 (show w2.heap.size < _ by omega)).trans hz5; replace HO : Hid (Own w4 w1.heap.size (.slice a2 l.length cap2) l) := HO.out.below hb; have HE4 : Hid (Own w4 w3.heap.size (.slice a4 (framesL rs).length cap4) (framesL rs)) := ho4; replace F0 := fz 0; replace F1 := fz 1; replace F2 := fz 2; replace F3 := fz 3; clear hb hc hff ho4))
        refine bodyPost_ret (v := .agg #[.int .i64 3, .int .i64 c, .int .i64 y, .slice a2 l.length cap2]) (by simp [results, Tryd.results9, go_sem, *]) rfl ⟨_, _, rfl, ?_, ?_⟩
        · exact (own_low (show w.heap.size + 1 < w1.heap.size by omega) [.int .i64 3, .int .i64 c, .int .i64 y, .slice a2 l.length cap2] 0 _ HO.out).le (by omega)
        · exact below_setCells' (show w.heap.size ≤ w.heap.size + 1 by omega) [.int .i64 3, .int .i64 c, .int .i64 y, .slice a2 l.length cap2] 0 _ HB.out
      · have e1 : dwCode c y l rs = 0 := by simp [dwCode, hd, hR, hx]
        have e4 : dwL c y l rs = l ++ framesL rs := by simp [dwL, hd, hR, hx]
        rw [e1, e4]
        clear e1 e4
        go_enter Tryd.func9, Tryd.ntmps9
        go_wp2_with (first
          | (go_at_call 45; refine (l2diskOk_any c y _ l.length cap hl _).mono ?_; rintro e w1 ⟨rfl, hb⟩; rw [hd]; obtain ⟨hc, hff⟩ := bcell hb; have z1 : w.heap.size + 1 + 1 ≤ w1.heap.size := (by have := hb.size; simp at this; omega); have yP2 : w.heap.size < w1.heap.size := (by omega); have P20 : w1.cell? ⟨w.heap.size, 0, none⟩ = some (.int .i64 c) := (hc _ 0 (by simp <;> omega)).trans (by simp); have P21 : w1.cell? ⟨w.heap.size, 1, none⟩ = some (.int .i64 y) := (hc _ 1 (by simp <;> omega)).trans (by simp); have P22 : w1.cell? ⟨w.heap.size, 2, none⟩ = some (.slice a l.length cap) := (hc _ 2 (by simp <;> omega)).trans (by simp); have yP4 : w.heap.size + 1 < w1.heap.size := (by omega); have P40 : w1.cell? ⟨w.heap.size + 1, 0, none⟩ = some (.int .i64 0) := (hc _ 0 (by simp <;> omega)).trans (by simp); have P41 : w1.cell? ⟨w.heap.size + 1, 1, none⟩ = some (.int .i64 0) := (hc _ 1 (by simp <;> omega)).trans (by simp); have P42 : w1.cell? ⟨w.heap.size + 1, 2, none⟩ = some (.int .i64 0) := (hc _ 2 (by simp <;> omega)).trans (by simp); have P43 : w1.cell? ⟨w.heap.size + 1, 3, none⟩ = some (.slice none 0 0) := (hc _ 3 (by simp <;> omega)).trans (by simp); have fz : ∀ i, w1.frozen? ⟨w.heap.size + 1, i, none⟩ = false := (fun i => (hff _ i (by simp)).trans (by simp)); have HB : Hid (Below w.heap.size w w1) := hb0.out.trans (hb.mono (by simp; omega)); have F0 := fz 0; have F1 := fz 1; have F2 := fz 2; have F3 := fz 3; clear hb hc hff)
          | (go_at_call 46; refine (l2diskCopy_any c y a cap l _ (hv.out.below HB.out) hl).mono ?_; rintro e w2 ⟨a2, cap2, rfl, ho2, hb⟩; obtain ⟨hc, hff⟩ := bcell hb; have z2 : w1.heap.size ≤ w2.heap.size := hb.size; have lt2 := fun k e => (ho2.2.lt k e); replace yP2 : w.heap.size < w2.heap.size := (by omega); replace P20 : w2.cell? ⟨w.heap.size, 0, none⟩ = some (.int .i64 c) := (hc _ 0 (show w.heap.size < _ by omega)).trans P20; replace P21 : w2.cell? ⟨w.heap.size, 1, none⟩ = some (.int .i64 y) := (hc _ 1 (show w.heap.size < _ by omega)).trans P21; replace P22 : w2.cell? ⟨w.heap.size, 2, none⟩ = some (.slice a l.length cap) := (hc _ 2 (show w.heap.size < _ by omega)).trans P22; replace yP4 : w.heap.size + 1 < w2.heap.size := (by omega); replace P40 : w2.cell? ⟨w.heap.size + 1, 0, none⟩ = some (.int .i64 0) := (hc _ 0 (show w.heap.size + 1 < _ by omega)).trans P40; replace P41 : w2.cell? ⟨w.heap.size + 1, 1, none⟩ = some (.int .i64 0) := (hc _ 1 (show w.heap.size + 1 < _ by omega)).trans P41; replace P42 : w2.cell? ⟨w.heap.size + 1, 2, none⟩ = some (.int .i64 0) := (hc _ 2 (show w.heap.size + 1 < _ by omega)).trans P42; replace P43 : w2.cell? ⟨w.heap.size + 1, 3, none⟩ = some (.slice none 0 0) := (hc _ 3 (show w.heap.size + 1 < _ by omega)).trans P43; replace fz : ∀ i, w2.frozen? ⟨w.heap.size + 1, i, none⟩ = false := (fun i => (hff _ i (show w.heap.size + 1 < _ by omega)).trans (fz i)); replace HB : Hid (Below w.heap.size w w2) := HB.out.trans (hb.mono (by omega)); have HO : Hid (Own w2 w1.heap.size (.slice a2 l.length cap2) l) := ho2; clear hb hc hff ho2)
          | (go_at_call 47; refine (l2recordsOk_any _ rs _ (hr.out.below (HB.out.alloc (by omega) _)) hf).mono ?_; rintro e w3 ⟨rfl, hb⟩; rw [hR]; obtain ⟨hc, hff⟩ := bcell hb; have z3 : w2.heap.size < w3.heap.size := (by have := hb.size; rw [World.size_alloc] at this; omega); replace yP2 : w.heap.size < w3.heap.size := (by omega); replace P20 : w3.cell? ⟨w.heap.size, 0, none⟩ = some (.int .i64 c) := (hc _ 0 (show w.heap.size < _ by rw [World.size_alloc]; omega)).trans ((World.cell?_alloc_lt w2 _ ⟨w.heap.size, 0, none⟩ (show w.heap.size < w2.heap.size by omega)).trans P20); replace P21 : w3.cell? ⟨w.heap.size, 1, none⟩ = some (.int .i64 y) := (hc _ 1 (show w.heap.size < _ by rw [World.size_alloc]; omega)).trans ((World.cell?_alloc_lt w2 _ ⟨w.heap.size, 1, none⟩ (show w.heap.size < w2.heap.size by omega)).trans P21); replace P22 : w3.cell? ⟨w.heap.size, 2, none⟩ = some (.slice a l.length cap) := (hc _ 2 (show w.heap.size < _ by rw [World.size_alloc]; omega)).trans ((World.cell?_alloc_lt w2 _ ⟨w.heap.size, 2, none⟩ (show w.heap.size < w2.heap.size by omega)).trans P22); replace yP4 : w.heap.size + 1 < w3.heap.size := (by omega); replace P40 : w3.cell? ⟨w.heap.size + 1, 0, none⟩ = some (.int .i64 0) := (hc _ 0 (show w.heap.size + 1 < _ by rw [World.size_alloc]; omega)).trans ((World.cell?_alloc_lt w2 _ ⟨w.heap.size + 1, 0, none⟩ (show w.heap.size + 1 < w2.heap.size by omega)).trans P40); replace P41 : w3.cell? ⟨w.heap.size + 1, 1, none⟩ = some (.int .i64 0) := (hc _ 1 (show w.heap.size + 1 < _ by rw [World.size_alloc]; omega)).trans ((World.cell?_alloc_lt w2 _ ⟨w.heap.size + 1, 1, none⟩ (show w.heap.size + 1 < w2.heap.size by omega)).trans P41); replace P42 : w3.cell? ⟨w.heap.size + 1, 2, none⟩ = some (.int .i64 0) := (hc _ 2 (show w.heap.size + 1 < _ by rw [World.size_alloc]; omega)).trans ((World.cell?_alloc_lt w2 _ ⟨w.heap.size + 1, 2, none⟩ (show w.heap.size + 1 < w2.heap.size by omega)).trans P42); replace P43 : w3.cell? ⟨w.heap.size + 1, 3, none⟩ = some (.slice none 0 0) := (hc _ 3 (show w.heap.size + 1 < _ by rw [World.size_alloc]; omega)).trans ((World.cell?_alloc_lt w2 _ ⟨w.heap.size + 1, 3, none⟩ (show w.heap.size + 1 < w2.heap.size by omega)).trans P43); replace fz : ∀ i, w3.frozen? ⟨w.heap.size + 1, i, none⟩ = false := (fun i => (hff _ i (show w.heap.size + 1 < _ by rw [World.size_alloc]; omega)).trans ((frozen_alloc_lt (show w.heap.size + 1 < w2.heap.size by omega)).trans (fz i))); have yP5 : w2.heap.size < w3.heap.size := (by omega); have P50 : w3.cell? ⟨w2.heap.size, 0, none⟩ = some (.int .i64 c) := (hc _ 0 (by simp)).trans (by simp); have P51 : w3.cell? ⟨w2.heap.size, 1, none⟩ = some (.int .i64 y) := (hc _ 1 (by simp)).trans (by simp); have P52 : w3.cell? ⟨w2.heap.size, 2, none⟩ = some (.slice a2 l.length cap2) := (hc _ 2 (by simp)).trans (by simp); replace HB : Hid (Below w.heap.size w w3) := (HB.out.alloc (by omega) _).trans (hb.mono (by rw [World.size_alloc]; omega)); have hz5 : w3.frozen? ⟨w2.heap.size, 2, none⟩ = false := (hff _ 2 (by simp)).trans (by simp); replace HO : Hid (Own w3 w1.heap.size (.slice a2 l.length cap2) l) := (HO.out.below ((Below.refl _ _).alloc (Nat.le_refl _) _)).below hb; replace F0 := fz 0; replace F1 := fz 1; replace F2 := fz 2; replace F3 := fz 3; clear hb hc hff)
          | (go_at_call 23; refine (sEncodeRecords_any _ rs _ (hr.out.below HB.out) hf).mono ?_; rintro e w4 ⟨v4, rfl, ho4, hb⟩; rw [hE] at ho4; obtain ⟨a4, cap4, rfl⟩ := ho4.shape; obtain ⟨hc, hff⟩ := bcell hb; have z4 : w3.heap.size ≤ w4.heap.size := hb.size; replace yP2 : w.heap.size < w4.heap.size := (by omega); replace P20 : w4.cell? ⟨w.heap.size, 0, none⟩ = some (.int .i64 c) := (hc _ 0 (show w.heap.size < _ by omega)).trans P20; replace P21 : w4.cell? ⟨w.heap.size, 1, none⟩ = some (.int .i64 y) := (hc _ 1 (show w.heap.size < _ by omega)).trans P21; replace P22 : w4.cell? ⟨w.heap.size, 2, none⟩ = some (.slice a l.length cap) := (hc _ 2 (show w.heap.size < _ by omega)).trans P22; replace yP4 : w.heap.size + 1 < w4.heap.size := (by omega); replace P40 : w4.cell? ⟨w.heap.size + 1, 0, none⟩ = some (.int .i64 0) := (hc _ 0 (show w.heap.size + 1 < _ by omega)).trans P40; replace P41 : w4.cell? ⟨w.heap.size + 1, 1, none⟩ = some (.int .i64 0) := (hc _ 1 (show w.heap.size + 1 < _ by omega)).trans P41; replace P42 : w4.cell? ⟨w.heap.size + 1, 2, none⟩ = some (.int .i64 0) := (hc _ 2 (show w.heap.size + 1 < _ by omega)).trans P42; replace P43 : w4.cell? ⟨w.heap.size + 1, 3, none⟩ = some (.slice none 0 0) := (hc _ 3 (show w.heap.size + 1 < _ by omega)).trans P43; replace fz : ∀ i, w4.frozen? ⟨w.heap.size + 1, i, none⟩ = false := (fun i => (hff _ i (show w.heap.size + 1 < _ by omega)).trans (fz i)); replace yP5 : w2.heap.size < w4.heap.size := (by omega); replace P50 : w4.cell? ⟨w2.heap.size, 0, none⟩ = some (.int .i64 c) := (hc _ 0 (show w2.heap.size < _ by omega)).trans P50; replace P51 : w4.cell? ⟨w2.heap.size, 1, none⟩ = some (.int .i64 y) := (hc _ 1 (show w2.heap.size < _ by omega)).trans P51; replace P52 : w4.cell? ⟨w2.heap.size, 2, none⟩ = some (.slice a2 l.length cap2) := (hc _ 2 (show w2.heap.size < _ by omega)).trans P52; replace HB : Hid (Below w.heap.size w w4) := HB.out.trans (hb.mono (by omega)); replace hz5 : w4.frozen? ⟨w2.heap.size, 2, none⟩ = false := (hff _ 2 (show w2.heap.size < _ by omega)).trans hz5; replace HO : Hid (Own w4 w1.heap.size (.slice a2 l.length cap2) l) := HO.out.below hb; have HE4 : Hid (Own w4 w3.heap.size (.slice a4 (framesL rs).length cap4) (framesL rs)) := ho4; replace F0 := fz 0; replace F1 := fz 1; replace F2 := fz 2; replace F3 := fz 3; clear hb hc hff ho4)
          | (at_builtin; refine wpl_append_own rfl (.tmp 32) (.tmp 33) rfl HO.out rfl HE4.out rfl (by unfold maxLen; omega) (by omega) (by omega) ?_; intro v5 w5 ho5 hg5; obtain ⟨a5, cap5, rfl⟩ := ho5.shape; have z5 : w4.heap.size ≤ w5.heap.size := hg5.g.size; have q0 : w5.cell? ⟨w2.heap.size, 0, none⟩ = some (.int .i64 c) := (hg5.cell (k := w2.heap.size) (o := 0) (by omega) (fun e => by have := (lt2 _ e).2; omega)).trans P50; have q1 : w5.cell? ⟨w2.heap.size, 1, none⟩ = some (.int .i64 y) := (hg5.cell (k := w2.heap.size) (o := 1) (by omega) (fun e => by have := (lt2 _ e).2; omega)).trans P51; have q2 : w5.cell? ⟨w2.heap.size, 2, none⟩ = some (.slice a2 l.length cap2) := (hg5.cell (k := w2.heap.size) (o := 2) (by omega) (fun e => by have := (lt2 _ e).2; omega)).trans P52; have r0 : w5.cell? ⟨w.heap.size + 1, 0, none⟩ = some (.int .i64 0) := (hg5.cell (k := w.heap.size + 1) (o := 0) (by omega) (fun e => by have := (lt2 _ e).1; omega)).trans P40; have r1 : w5.cell? ⟨w.heap.size + 1, 1, none⟩ = some (.int .i64 0) := (hg5.cell (k := w.heap.size + 1) (o := 1) (by omega) (fun e => by have := (lt2 _ e).1; omega)).trans P41; have r2 : w5.cell? ⟨w.heap.size + 1, 2, none⟩ = some (.int .i64 0) := (hg5.cell (k := w.heap.size + 1) (o := 2) (by omega) (fun e => by have := (lt2 _ e).1; omega)).trans P42; have r3 : w5.cell? ⟨w.heap.size + 1, 3, none⟩ = some (.slice none 0 0) := (hg5.cell (k := w.heap.size + 1) (o := 3) (by omega) (fun e => by have := (lt2 _ e).1; omega)).trans P43; have b5 := hg5.below HO.out (by omega); have q2' := World.cell?_setCell_same w5 ⟨w2.heap.size, 2, none⟩ (.slice a5 (l ++ framesL rs).length cap5) q2; have hz6 : w5.frozen? ⟨w2.heap.size, 2, none⟩ = false := (frozen_block (hg5.block (k := w2.heap.size) (by omega) (fun e => by have := (lt2 _ e).2; omega))).trans hz5; have f5 : ∀ i, w5.frozen? ⟨w.heap.size + 1, i, none⟩ = false := (fun i => (b5.frozen (p := ⟨w.heap.size + 1, i, none⟩) (show w.heap.size + 1 < w1.heap.size by omega)).trans (fz i)); have G0 := f5 0; have G1 := f5 1; have G2 := f5 2; have G3 := f5 3; have n5 := hg5.far (k := w2.heap.size) (by omega) (fun e => by have := (lt2 _ e).2; omega); have y5 : w2.heap.size < w5.heap.size := (by omega); have y4 : w.heap.size + 1 < w5.heap.size := (by omega)))
        rw [List.length_append] at ho5 ⊢
        have o5 := ho5.setFar (i := 2) (by rw [List.length_append] at n5; exact n5) (.slice a5 (l.length + (framesL rs).length) cap5)
        have R0 := (World.cell?_setCell_other w5 ⟨w2.heap.size, 2, none⟩ ⟨w.heap.size + 1, 0, none⟩ (.slice a5 (l.length + (framesL rs).length) cap5) (by intro h; injection h with h; omega)).trans r0
        have R1 := (World.cell?_setCell_other w5 ⟨w2.heap.size, 2, none⟩ ⟨w.heap.size + 1, 1, none⟩ (.slice a5 (l.length + (framesL rs).length) cap5) (by intro h; injection h with h; omega)).trans r1
        have R2 := (World.cell?_setCell_other w5 ⟨w2.heap.size, 2, none⟩ ⟨w.heap.size + 1, 2, none⟩ (.slice a5 (l.length + (framesL rs).length) cap5) (by intro h; injection h with h; omega)).trans r2
        have R3 := (World.cell?_setCell_other w5 ⟨w2.heap.size, 2, none⟩ ⟨w.heap.size + 1, 3, none⟩ (.slice a5 (l.length + (framesL rs).length) cap5) (by intro h; injection h with h; omega)).trans r3
        have B5 : Below w.heap.size w (w5.setCell ⟨w2.heap.size, 2, none⟩ (.slice a5 (l.length + (framesL rs).length) cap5)) := (HB.out.trans (b5.mono (by omega))).setCell (show w.heap.size ≤ w2.heap.size by omega) _
        clear P20 P21 P22 P40 P41 P42 P43 P50 P51 P52 r0 r1 r2 r3 q0 q1 q2 q2' F0 F1 F2 F3
        refine bodyPost_ret (v := .agg #[.int .i64 0, .int .i64 c, .int .i64 y, .slice a5 (l.length + (framesL rs).length) cap5]) (by simp [results, Tryd.results9, go_sem, R0, R1, R2, R3]) rfl ⟨_, _, rfl, ?_, ?_⟩
        · exact (own_low (show w.heap.size + 1 < w1.heap.size by omega) [.int .i64 0, .int .i64 c, .int .i64 y, .slice a5 (l.length + (framesL rs).length) cap5] 0 _ o5).le (by omega)
        · exact below_setCells' (show w.heap.size ≤ w.heap.size + 1 by omega) [.int .i64 0, .int .i64 c, .int .i64 y, .slice a5 (l.length + (framesL rs).length) cap5] 0 _ B5
end Go.Proofs.YtjoflnnomebkpaaDoor

/-
  hardChange.fits.
-/
namespace Go.Proofs.YtjoflnnomebkpaaDoor
open Go.RowKit
set_option linter.unusedVariables false
set_option linter.unusedSimpArgs false

set_option maxHeartbeats 2000000 in
set_option maxRecDepth 100000 in
theorem hardFits_any (tm vo : Int) (w : World) :
    Calls Tryd.prog 90 #[.agg #[.int .i64 tm, .int .i64 vo]] w fun e w' => e = .returned (.bool (inB tm 0 1073741824 && (inB vo 0 7 && (decide (0 < tm) || vo == 0)))) ∧ Below w.heap.size w w' := by
  have hb := (Below.refl w.heap.size w).alloc (Nat.le_refl _) (.cells #[.int .i64 tm, .int .i64 vo] 97)
  cases ha : inB tm 0 1073741824
  · go_enter Tryd.func90, Tryd.ntmps90
    go_wp2_with (go_at_call 84; refine (within_any _ _ _ _).mono ?_; rintro r w1 ⟨rfl, hw⟩; obtain rfl := hw.symm)
    go_ret
    exact ⟨ret_bool (by simp [ha]), hb⟩
  · cases hc : inB vo 0 7
    · go_enter Tryd.func90, Tryd.ntmps90
      go_wp2_with (go_at_call 84; refine (within_any _ _ _ _).mono ?_; rintro r w1 ⟨rfl, hw⟩; obtain rfl := hw.symm)
      go_ret
      exact ⟨ret_bool (by simp [ha, hc]), hb⟩
    · cases hv : (vo == 0)
      · go_enter Tryd.func90, Tryd.ntmps90
        go_wp2_with (go_at_call 84; refine (within_any _ _ _ _).mono ?_; rintro r w1 ⟨rfl, hw⟩; obtain rfl := hw.symm)
        go_ret
        exact ⟨ret_bool (by simp [ha, hc, hv]), hb⟩
      · go_enter Tryd.func90, Tryd.ntmps90
        go_wp2_with (go_at_call 84; refine (within_any _ _ _ _).mono ?_; rintro r w1 ⟨rfl, hw⟩; obtain rfl := hw.symm)
        go_ret
        exact ⟨ret_bool (by simp [ha, hc, hv]), hb⟩
end Go.Proofs.YtjoflnnomebkpaaDoor

/-
  The changes of impl: record; fits of a hard change.
-/
namespace Go.Proofs.YtjoflnnomebkpaaDoor
open Go.RowKit
set_option linter.unusedVariables false
set_option linter.unusedSimpArgs false

abbrev zCells : List Value := [.int .i64 0, .int .i64 0, .int .i64 0, .int .i64 0, .int .i64 0, .int .i64 0, .int .i64 0, .int .i64 0, .string ⟨#[]⟩, .string ⟨#[]⟩, .string ⟨#[]⟩]

set_option maxHeartbeats 2000000 in
set_option maxRecDepth 100000 in
theorem hardRecord_any (tm vo : Int) (w : World) :
    Calls Tryd.prog 92 #[.agg #[.int .i64 tm, .int .i64 vo]] w fun e w' => e = .returned (.agg #[.int .i64 1, .int .i64 tm, .int .i64 vo, .int .i64 0, .int .i64 0, .int .i64 0, .int .i64 0, .int .i64 0, .string ⟨#[]⟩, .string ⟨#[]⟩, .string ⟨#[]⟩]) ∧ Below w.heap.size w w' := by
  go_enter Tryd.func92, Tryd.ntmps92
  go_wp2
  exact bodyPost_ret (v := .agg #[.int .i64 1, .int .i64 tm, .int .i64 vo, .int .i64 0, .int .i64 0, .int .i64 0, .int .i64 0, .int .i64 0, .string ⟨#[]⟩, .string ⟨#[]⟩, .string ⟨#[]⟩]) (by simp [results, Tryd.results92, go_sem]) rfl
    ⟨rfl, ((Below.refl _ _).alloc (Nat.le_refl _) _).alloc (by simp) _⟩

set_option maxHeartbeats 2000000 in
set_option maxRecDepth 100000 in
theorem addRecord_any (ix : Int) (e : Ent) (w : World) :
    Calls Tryd.prog 94 #[.agg #[.int .i64 ix, .int .i64 e.t, .int .i64 e.cl, .int .i64 e.sq, .int .i64 e.op, .string e.k, .string e.v, .string e.o]] w fun x w' => x = .returned (.agg #[.int .i64 2, .int .i64 0, .int .i64 0, .int .i64 ix, .int .i64 e.t, .int .i64 e.cl, .int .i64 e.sq, .int .i64 e.op, .string e.k, .string e.v, .string e.o]) ∧ Below w.heap.size w w' := by
  go_enter Tryd.func94, Tryd.ntmps94
  go_wp2
  exact bodyPost_ret (v := .agg #[.int .i64 2, .int .i64 0, .int .i64 0, .int .i64 ix, .int .i64 e.t, .int .i64 e.cl, .int .i64 e.sq, .int .i64 e.op, .string e.k, .string e.v, .string e.o]) (by simp [results, Tryd.results94, go_sem]) rfl
    ⟨rfl, ((Below.refl _ _).alloc (Nat.le_refl _) _).alloc (by simp) _⟩

set_option maxHeartbeats 2000000 in
set_option maxRecDepth 100000 in
theorem cutRecord_any (ix : Int) (w : World) :
    Calls Tryd.prog 93 #[.agg #[.int .i64 ix]] w fun e w' => e = .returned (.agg #[.int .i64 3, .int .i64 0, .int .i64 0, .int .i64 ix, .int .i64 0, .int .i64 0, .int .i64 0, .int .i64 0, .string ⟨#[]⟩, .string ⟨#[]⟩, .string ⟨#[]⟩]) ∧ Below w.heap.size w w' := by
  go_enter Tryd.func93, Tryd.ntmps93
  go_wp2
  exact bodyPost_ret (v := .agg #[.int .i64 3, .int .i64 0, .int .i64 0, .int .i64 ix, .int .i64 0, .int .i64 0, .int .i64 0, .int .i64 0, .string ⟨#[]⟩, .string ⟨#[]⟩, .string ⟨#[]⟩]) (by simp [results, Tryd.results93, go_sem]) rfl
    ⟨rfl, ((Below.refl _ _).alloc (Nat.le_refl _) _).alloc (by simp) _⟩

end Go.Proofs.YtjoflnnomebkpaaDoor

/-
  The changes of impl: fits.
-/
namespace Go.Proofs.YtjoflnnomebkpaaDoor
open Go.RowKit
set_option linter.unusedVariables false
set_option linter.unusedSimpArgs false

set_option maxHeartbeats 2000000 in
set_option maxRecDepth 100000 in
theorem addFits_any (ix : Int) (e : Ent) (hf : e.fits) (w : World) :
    Calls Tryd.prog 168 #[.agg #[.int .i64 ix, .int .i64 e.t, .int .i64 e.cl, .int .i64 e.sq, .int .i64 e.op, .string e.k, .string e.v, .string e.o]] w fun x w' => x = .returned (.bool (inB ix 1 4096 && entB e)) ∧ Below w.heap.size w w' := by
  have hb0 := (Below.refl w.heap.size w).alloc (Nat.le_refl _) (.cells #[.int .i64 ix, .int .i64 e.t, .int .i64 e.cl, .int .i64 e.sq, .int .i64 e.op, .string e.k, .string e.v, .string e.o] 138)
  cases ha : inB ix 1 4096
  · go_enter Tryd.func168, Tryd.ntmps168
    go_wp2_with (go_at_call 84; refine (within_any _ _ _ _).mono ?_; rintro r w1 ⟨rfl, hw⟩; obtain rfl := hw.symm)
    go_ret
    exact ⟨ret_bool (by simp [ha]), hb0⟩
  · go_enter Tryd.func168, Tryd.ntmps168
    go_wp2_with (first
      | (go_at_call 84; refine (within_any _ _ _ _).mono ?_; rintro r w1 ⟨rfl, hw⟩; obtain rfl := hw.symm)
      | (go_at_call 115; refine (entryFits_any e hf _).mono ?_; rintro r w1 ⟨rfl, hb⟩))
    go_ret
    exact ⟨ret_bool (by simp [ha]), hb0.trans (hb.mono (by simp))⟩

theorem cutFits_any (ix : Int) (w : World) :
    Calls Tryd.prog 165 #[.agg #[.int .i64 ix]] w fun e w' => e = .returned (.bool (inB ix 0 4096)) ∧ Below w.heap.size w w' := by
  have hb0 := (Below.refl w.heap.size w).alloc (Nat.le_refl _) (.cells #[.int .i64 ix] 136)
  go_enter Tryd.func165, Tryd.ntmps165
  go_wp2_with (go_at_call 84; refine (within_any _ _ _ _).mono ?_; rintro r w1 ⟨rfl, hw⟩; obtain rfl := hw.symm)
  go_ret
  exact ⟨rfl, hb0⟩
end Go.Proofs.YtjoflnnomebkpaaDoor

/-
  The changes of impl: record, fits.
-/

/-
  The changes of impl: encode.
-/
namespace Go.Proofs.YtjoflnnomebkpaaDoor
open Go.RowKit
set_option linter.unusedVariables false
set_option linter.unusedSimpArgs false

set_option maxHeartbeats 4000000 in
set_option maxRecDepth 100000 in
theorem cutEncode_any (ix : Nat) (h1 : ix ≤ 4096) (w : World) :
    Calls Tryd.prog 164 #[.agg #[.int .i64 ix], .slice none 0 0] w fun e w' => ∃ v', e = .returned v' ∧ Own w' w.heap.size v' (13 :: numL ix) ∧ Below w.heap.size w w' := by
  have n1 := numL_len9 ix (by omega)
  go_enter Tryd.func164, Tryd.ntmps164
  go_wp2
  go_region_held3 (fun w' => w'.cell? ⟨w.heap.size, 0, none⟩ = some (.int .i64 ix)) (simp [*, go_sem, World.cell?_alloc_past])
    (first
      | ((refine stp_append rfl (.tmp 5) (.tmp 6) rfl (Own.nil _ w.heap.size) rfl (u := .slice (some ⟨w.heap.size + 1, 0, none⟩) 1 1) (l2 := [13]) ?u1 rfl (by simp) (by simp) ?u2 ?_; (case u1 => exact Bs.cell1 (by simp [go_sem]) (by omega)); (case u2 => simp; omega); intro v1 w1 ho1 hg1; have hz1 := hg1.g.size; simp at hz1; have hcc := fun (o : Nat) => hg1.cell (k := w.heap.size) (o := o) (by simp; omega) (by simp [Value.ownBlock]); have f1 : v1.ownBlock ≠ some w.heap.size := hg1.far (by simp; omega) (by simp [Value.ownBlock]); have hB1 := hg1.below (Own.nil _ w.heap.size) (by simp; omega)))
      | (go_at_call 160; (refine Calls.mono (putNumber_any _ [13] ix _ w.heap.size ?q1 ?q2 (by simp) (by omega)) ?_; (case q1 => exact ho1); (case q2 => omega); rintro e w2 ⟨v2, rfl, ho2, hg2⟩; have hdd := fun (o : Nat) => hg2.cell (k := w.heap.size) (o := o) (by omega) f1; have hB2 := hg2.below ho1 (by omega))))
  all_goals go_wp2
  all_goals go_ret
  all_goals refine ⟨_, rfl, by simpa using ho2, Below.trans ?_ (hB1.trans hB2)⟩
  all_goals repeat (first | exact Below.refl _ _ | refine Below.drew ?_ | refine Below.alloc ?_ (by simp; done) _ | refine Below.alloc ?_ (by simp; omega) _)

set_option maxHeartbeats 8000000 in
set_option maxRecDepth 100000 in
theorem addEncode_any (ix t cl sq op : Nat) (k vl o : ByteArray) (h1 : ix ≤ 4096) (h0 : t < 9223372036854775808) (h2 : cl < 9223372036854775808) (h3 : sq < 9223372036854775808) (h4 : op < 9223372036854775808) (hk : k.size ≤ 64) (hv : vl.size ≤ 64) (ho : o.size ≤ 64) (w : World) :
    Calls Tryd.prog 167 #[.agg #[.int .i64 ix, .int .i64 t, .int .i64 cl, .int .i64 sq, .int .i64 op, .string k, .string vl, .string o], .slice none 0 0] w fun e w' => ∃ v', e = .returned v' ∧ Own w' w.heap.size v' (12 :: (numL ix ++ entN t cl sq op k vl o)) ∧ Below w.heap.size w w' := by
  have n1 := numL_len9 ix (by omega)
  go_enter Tryd.func167, Tryd.ntmps167
  go_wp2
  go_region_held3 (fun w' => w'.cell? ⟨w.heap.size, 0, none⟩ = some (.int .i64 ix) ∧ w'.cell? ⟨w.heap.size, 1, none⟩ = some (.int .i64 t) ∧ w'.cell? ⟨w.heap.size, 2, none⟩ = some (.int .i64 cl) ∧ w'.cell? ⟨w.heap.size, 3, none⟩ = some (.int .i64 sq) ∧ w'.cell? ⟨w.heap.size, 4, none⟩ = some (.int .i64 op) ∧ w'.cell? ⟨w.heap.size, 5, none⟩ = some (.string k) ∧ w'.cell? ⟨w.heap.size, 6, none⟩ = some (.string vl) ∧ w'.cell? ⟨w.heap.size, 7, none⟩ = some (.string o)) (simp [*, go_sem, World.cell?_alloc_past])
    (first
      | ((refine stp_append rfl (.tmp 5) (.tmp 6) rfl (Own.nil _ w.heap.size) rfl (u := .slice (some ⟨w.heap.size + 1, 0, none⟩) 1 1) (l2 := [12]) ?u1 rfl (by simp) (by simp) ?u2 ?_; (case u1 => exact Bs.cell1 (by simp [go_sem]) (by omega)); (case u2 => simp; omega); intro v1 w1 ho1 hg1; have hz1 := hg1.g.size; simp at hz1; have hcc := fun (o : Nat) => hg1.cell (k := w.heap.size) (o := o) (by simp; omega) (by simp [Value.ownBlock]); have f1 : v1.ownBlock ≠ some w.heap.size := hg1.far (by simp; omega) (by simp [Value.ownBlock]); have hB1 := hg1.below (Own.nil _ w.heap.size) (by simp; omega)))
      | (go_at_call 160; (refine Calls.mono (putNumber_any _ [12] ix _ w.heap.size ?q1 ?q2 (by simp) (by omega)) ?_; (case q1 => exact ho1); (case q2 => omega); rintro e w2 ⟨v2, rfl, ho2, hg2⟩; have hz2 : w1.heap.size ≤ w2.heap.size := hg2.g.size; have hdd := fun (o : Nat) => hg2.cell (k := w.heap.size) (o := o) (show w.heap.size < w1.heap.size by omega) f1; have f2 : v2.ownBlock ≠ some w.heap.size := hg2.far (show w.heap.size < w1.heap.size by omega) f1; have hB2 := hg2.below ho1 (by omega)))
      | (go_at_call 170; (refine Calls.mono (putEntry_nat _ ([12] ++ numL ix) t cl sq op k vl o _ w.heap.size ?r1 ?r2 ?r3 h0 h2 h3 h4 hk hv ho) ?_; (case r1 => exact ho2); (case r2 => show w.heap.size ≤ w2.heap.size; omega); (case r3 => simp; omega); rintro e w3 ⟨v3, rfl, ho3, hg3⟩; have hee := fun (o : Nat) => hg3.cell (k := w.heap.size) (o := o) (show w.heap.size < w2.heap.size by omega) f2; have hB3 := hg3.below ho2 (show w.heap.size ≤ w2.heap.size by omega))))
  all_goals go_wp2
  all_goals go_ret
  all_goals refine ⟨_, rfl, by simpa using ho3, Below.trans ?_ (hB1.trans (hB2.trans hB3))⟩
  all_goals repeat (first | exact Below.refl _ _ | refine Below.drew ?_ | refine Below.alloc ?_ (by simp; done) _ | refine Below.alloc ?_ (by simp; omega) _)
end Go.Proofs.YtjoflnnomebkpaaDoor

/-
  impl.hardChange.encode.
-/
namespace Go.Proofs.YtjoflnnomebkpaaDoor
open Go.RowKit
set_option linter.unusedVariables false
set_option linter.unusedSimpArgs false

theorem Ints.two (w : World) (a b : Nat) : ∀ j, j < [a, b].length → (w.alloc (.cells #[.int .i64 a, .int .i64 b] 3)).cell? ⟨w.heap.size, j, none⟩ = some (.int .i64 ([a, b][j]?.getD 0 : Nat)) := by
  intro j hj
  rw [World.cell?_alloc_new]
  match j, hj with
  | 0, _ => rfl
  | 1, _ => rfl

theorem ints_two {w : World} {b a c : Nat} (h0 : w.cell? ⟨b, 0, none⟩ = some (.int .i64 a)) (h1 : w.cell? ⟨b, 1, none⟩ = some (.int .i64 c)) : ∀ j, j < [a, c].length → w.cell? ⟨b, j, none⟩ = some (.int .i64 ([a, c][j]?.getD 0 : Nat)) := by
  intro j hj
  match j, hj with
  | 0, _ => exact h0
  | 1, _ => exact h1

set_option maxHeartbeats 8000000 in
set_option maxRecDepth 100000 in
theorem hardEncode_any (tm vo : Nat) (h1 : tm ≤ 1073741824) (h2 : vo ≤ 7) (w : World) :
    Calls Tryd.prog 158 #[.agg #[.int .i64 tm, .int .i64 vo], .slice none 0 0] w fun e w' => ∃ v', e = .returned v' ∧ Own w' w.heap.size v' (11 :: (numL tm ++ numL vo)) ∧ Below w.heap.size w w' := by
  have n1 := numL_len9 tm (by omega)
  have n2 := numL_len9 vo (by omega)
  have hnm : Hid (∀ n ∈ [tm, vo], n < 9223372036854775808) := (by simp; omega : ∀ n ∈ [tm, vo], n < 9223372036854775808)
  go_enter Tryd.func158, Tryd.ntmps158
  go_wp2
  go_region_held3 (fun w' => w'.cell? ⟨w.heap.size, 0, none⟩ = some (.int .i64 tm) ∧ w'.cell? ⟨w.heap.size, 1, none⟩ = some (.int .i64 vo)) (simp [*, go_sem, World.cell?_alloc_past])
    (first
      | ((refine stp_append rfl (.tmp 5) (.tmp 6) rfl (Own.nil _ w.heap.size) rfl (u := .slice (some ⟨w.heap.size + 1, 0, none⟩) 1 1) (l2 := [11]) ?u1 rfl (by simp) (by simp) ?u2 ?_; (case u2 => (refine Nat.le_trans (show w.heap.size ≤ w.heap.size + 1 + 1 + 1 by omega) ?_; simp; done)); (case u1 => exact Bs.cell1 (by simp [go_sem]) (by omega)); intro v1 w1 ho1 hg1; have hz1 := hg1.g.size; simp at hz1; have hz1' : w.heap.size < w1.heap.size := (by omega); have hcc := fun (o : Nat) => hg1.cell (k := w.heap.size) (o := o) (by simp; omega) (by simp [Value.ownBlock]); have f1 : v1.ownBlock ≠ some w.heap.size := hg1.far (by simp; omega) (by simp [Value.ownBlock]); have hB1 := hg1.below (Own.nil _ w.heap.size) (by simp; omega); have j0 : w1.cell? ⟨w.heap.size + 1 + 1, 0, none⟩ = some (.int .i64 tm) := (hg1.cell (k := w.heap.size + 1 + 1) (o := 0) (by simp <;> omega) (by simp [Value.ownBlock])).trans (by simp [go_sem]); have j1 : w1.cell? ⟨w.heap.size + 1 + 1, 1, none⟩ = some (.int .i64 vo) := (hg1.cell (k := w.heap.size + 1 + 1) (o := 1) (by simp <;> omega) (by simp [Value.ownBlock])).trans (by simp [go_sem]); have f3 : v1.ownBlock ≠ some (w.heap.size + 1 + 1) := hg1.far (by simp <;> omega) (by simp [Value.ownBlock]); have HCB : Hid (Calls Tryd.prog 159 #[v1, .slice (some ⟨w.heap.size + 1 + 1, 0, none⟩) 2 2] w1 fun e w' => ∃ v', e = .returned v' ∧ Own w' w.heap.size v' ([11] ++ numsL [tm, vo]) ∧ Grew w1 v1 w' v') := putNumbers_any v1 [11] [tm, vo] (w.heap.size + 1 + 1) 2 _ w.heap.size ho1 (by omega) (by simp) hnm.out (by simp) (ints_two j0 j1) f3; clear f3))
      | ((refine stp_append rfl (.tmp 5) (.tmp 6) rfl (Own.nil _ w.heap.size) rfl (u := .slice (some ⟨w.heap.size + 1 + 1, 0, none⟩) 1 1) (l2 := [11]) ?u1 rfl (by simp) (by simp) ?u2 ?_; (case u2 => (refine Nat.le_trans (show w.heap.size ≤ w.heap.size + 1 + 1 + 1 by omega) ?_; simp; done)); (case u1 => exact Bs.cell1 (by simp [go_sem]) (by omega)); intro v1 w1 ho1 hg1; have hz1 := hg1.g.size; simp at hz1; have hz1' : w.heap.size < w1.heap.size := (by omega); have hcc := fun (o : Nat) => hg1.cell (k := w.heap.size) (o := o) (by simp; omega) (by simp [Value.ownBlock]); have f1 : v1.ownBlock ≠ some w.heap.size := hg1.far (by simp; omega) (by simp [Value.ownBlock]); have hB1 := hg1.below (Own.nil _ w.heap.size) (by simp; omega); have j0 : w1.cell? ⟨w.heap.size + 1, 0, none⟩ = some (.int .i64 tm) := (hg1.cell (k := w.heap.size + 1) (o := 0) (by simp <;> omega) (by simp [Value.ownBlock])).trans (by simp [go_sem]); have j1 : w1.cell? ⟨w.heap.size + 1, 1, none⟩ = some (.int .i64 vo) := (hg1.cell (k := w.heap.size + 1) (o := 1) (by simp <;> omega) (by simp [Value.ownBlock])).trans (by simp [go_sem]); have f3 : v1.ownBlock ≠ some (w.heap.size + 1) := hg1.far (by simp <;> omega) (by simp [Value.ownBlock]); have HCB : Hid (Calls Tryd.prog 159 #[v1, .slice (some ⟨w.heap.size + 1, 0, none⟩) 2 2] w1 fun e w' => ∃ v', e = .returned v' ∧ Own w' w.heap.size v' ([11] ++ numsL [tm, vo]) ∧ Grew w1 v1 w' v') := putNumbers_any v1 [11] [tm, vo] (w.heap.size + 1) 2 _ w.heap.size ho1 (by omega) (by simp) hnm.out (by simp) (ints_two j0 j1) f3; clear f3))
      | ((refine stp_append rfl (.tmp 5) (.tmp 6) rfl (Own.nil _ w.heap.size) rfl (u := .slice (some ⟨w.heap.size + 1, 0, none⟩) 1 1) (l2 := [11]) ?u1 rfl (by simp) (by simp) ?u2 ?_; (case u2 => simp; omega); (case u1 => exact Bs.cell1 (by simp [go_sem]) (by omega)); intro v1 w1 ho1 hg1; have hz1 := hg1.g.size; simp at hz1; have hz1' : w.heap.size < w1.heap.size := (by omega); have hcc := fun (o : Nat) => hg1.cell (k := w.heap.size) (o := o) (by simp; omega) (by simp [Value.ownBlock]); have f1 : v1.ownBlock ≠ some w.heap.size := hg1.far (by simp; omega) (by simp [Value.ownBlock]); have hB1 := hg1.below (Own.nil _ w.heap.size) (by simp; omega); have n1' := ho1.ne (Nat.le_refl w1.heap.size); have hI := Ints.two w1 tm vo; have hA : Own (w1.alloc (.cells #[.int .i64 tm, .int .i64 vo] 3)) w.heap.size v1 [11] := ho1.below ((Below.refl w1.heap.size w1).alloc (Nat.le_refl _) _); have HC : Hid (Calls Tryd.prog 159 #[v1, .slice (some ⟨w1.heap.size, 0, none⟩) 2 2] (w1.alloc (.cells #[.int .i64 tm, .int .i64 vo] 3)) fun e w' => ∃ v', e = .returned v' ∧ Own w' w.heap.size v' ([11] ++ numsL [tm, vo]) ∧ Grew (w1.alloc (.cells #[.int .i64 tm, .int .i64 vo] 3)) v1 w' v') := putNumbers_any v1 [11] [tm, vo] w1.heap.size 2 _ w.heap.size hA (by simp; omega) (by simp) hnm.out (by simp) hI n1'; clear hI))
      | (go_at_call 159; refine Calls.mono HCB.out ?_; rintro e w2 ⟨v2, rfl, ho2, hg2⟩; have hdd := fun (o : Nat) => hg2.cell (k := w.heap.size) (o := o) hz1' f1; have hB2 := hB1.trans (hg2.below ho1 (by omega)))
      | (go_at_call 159; refine Calls.mono HC.out ?_; rintro e w2 ⟨v2, rfl, ho2, hg2⟩; have hdd := fun (o : Nat) => hg2.cell (k := w.heap.size) (o := o) (by rw [World.size_alloc]; omega) f1; have hB2 := hB1.trans (((Below.refl _ _).alloc (by omega) _).trans (hg2.below hA (by rw [World.size_alloc]; omega)))))
  all_goals go_wp2
  all_goals go_ret
  all_goals refine ⟨_, rfl, by simpa [numsL] using ho2, Below.trans ?_ hB2⟩
  all_goals repeat (first | exact Below.refl _ _ | refine Below.drew ?_ | refine Below.alloc ?_ (Nat.le_refl _) _ | refine Below.alloc ?_ (by simp only [World.size_alloc]; omega) _)
end Go.Proofs.YtjoflnnomebkpaaDoor

/-
  impl.changeOf: what it answers.
-/
namespace Go.Proofs.YtjoflnnomebkpaaDoor
open Go.RowKit
set_option linter.unusedVariables false
set_option linter.unusedSimpArgs false

/-- the value of a sentinel; an error that wraps it -/
abbrev sentR (a : Addr) : Value := .iface 203 (.pointer (some a))
def chV (r : Rec) : Value := if r.ki = 1 then .iface 97 (.agg #[.int .i64 r.tm, .int .i64 r.vo]) else if r.ki = 2 then .iface 138 (.agg #[.int .i64 r.ix, .int .i64 r.e.t, .int .i64 r.e.cl, .int .i64 r.e.sq, .int .i64 r.e.op, .string r.e.k, .string r.e.v, .string r.e.o]) else .iface 136 (.agg #[.int .i64 r.ix])
def chAns (A : Addr) (r : Rec) : Value := if recB r = true then .tuple #[chV r, .nilIface] else .tuple #[.nilIface, .iface 124 (.agg #[sentR A, .int .i64 0])]
theorem ch_below {B : Nat} {w w' u : World} (h : Below B w u) (he : w'.heap = u.heap := by rfl) (h1 : w'.os = u.os := by rfl) (h2 : w'.tape = u.tape := by rfl) (h3 : w'.output = u.output := by rfl) : Below B w w' :=
  ⟨h1.trans h.os, h2.trans h.tape, h3.trans h.output, by rw [he]; exact h.size, fun k hk => by rw [he]; exact h.block k hk⟩
theorem ch_trans {B : Nat} {w0 w u w' : World} (h0 : Below B w0 w) (h : Below u.heap.size u w') (hB : B ≤ w.heap.size) (he : u.heap = w.heap := by rfl) (h1 : u.os = w.os := by rfl) (h2 : u.tape = w.tape := by rfl) (h3 : u.output = w.output := by rfl) : Below B w0 w' :=
  h0.trans ⟨h.os.trans h1, h.tape.trans h2, h.output.trans h3, by rw [← he]; exact h.size, fun k hk => by rw [← he]; exact h.block k (by rw [he]; omega)⟩
theorem meth_hard_record (x : Value) (w : World) : (method 344 97 x "loop.example/s01586/impl.record").run Tryd.prog w = .ok (92, x) w := by kernel_rfl
theorem meth_hard_fits (x : Value) (w : World) : (method 344 97 x "loop.example/s01586/impl.fits").run Tryd.prog w = .ok (90, x) w := by kernel_rfl
theorem meth_hard_encode (x : Value) (w : World) : (method 344 97 x "loop.example/s01586/impl.encode").run Tryd.prog w = .ok (158, x) w := by kernel_rfl
theorem meth_add_record (x : Value) (w : World) : (method 344 138 x "loop.example/s01586/impl.record").run Tryd.prog w = .ok (94, x) w := by kernel_rfl
theorem meth_add_fits (x : Value) (w : World) : (method 344 138 x "loop.example/s01586/impl.fits").run Tryd.prog w = .ok (168, x) w := by kernel_rfl
theorem meth_add_encode (x : Value) (w : World) : (method 344 138 x "loop.example/s01586/impl.encode").run Tryd.prog w = .ok (167, x) w := by kernel_rfl
theorem meth_cut_record (x : Value) (w : World) : (method 344 136 x "loop.example/s01586/impl.record").run Tryd.prog w = .ok (93, x) w := by kernel_rfl
theorem meth_cut_fits (x : Value) (w : World) : (method 344 136 x "loop.example/s01586/impl.fits").run Tryd.prog w = .ok (165, x) w := by kernel_rfl
theorem meth_cut_encode (x : Value) (w : World) : (method 344 136 x "loop.example/s01586/impl.encode").run Tryd.prog w = .ok (164, x) w := by kernel_rfl
end Go.Proofs.YtjoflnnomebkpaaDoor

/-
  impl.changeOf: a hard record.
-/
namespace Go.Proofs.YtjoflnnomebkpaaDoor
open Go.RowKit
set_option linter.unusedVariables false
set_option linter.unusedSimpArgs false

set_option maxHeartbeats 20000000 in
set_option maxRecDepth 100000 in
theorem changeOf_hard (tm vo ix t cl sq op : Int) (k v o : ByteArray) (hf : (⟨t, cl, sq, op, k, v, o⟩ : Ent).fits) (A : Addr) (w : World) (hG : w.cell? ⟨0, 0, none⟩ = some (sentR A)) :
    Calls Tryd.prog 82 #[.agg #[.int .i64 1, .int .i64 tm, .int .i64 vo, .int .i64 ix, .int .i64 t, .int .i64 cl, .int .i64 sq, .int .i64 op, .string k, .string v, .string o]] w fun x w' => x = .returned (chAns A ⟨1, tm, vo, ix, ⟨t, cl, sq, op, k, v, o⟩⟩) ∧ Below w.heap.size w w' := by
  have hgl := cell_lt hG
  by_cases hix : ix = 0
  · subst hix
    by_cases ht : t = 0
    · subst ht
      by_cases hcl : cl = 0
      · subst hcl
        by_cases hsq : sq = 0
        · subst hsq
          by_cases hop : op = 0
          · subst hop
            by_cases hk : k = .empty
            · subst hk
              by_cases hv : v = .empty
              · subst hv
                by_cases ho : o = .empty
                · subst ho
                  cases hF : (inB tm 0 1073741824 && (inB vo 0 7 && (decide (0 < tm) || vo == 0)))
                  · have hN : noEntB (⟨0, 0, 0, 0, .empty, .empty, .empty⟩ : Ent) = true := by rw [noEnt_iff]; rfl
                    have hR : recB (⟨1, tm, vo, 0, ⟨0, 0, 0, 0, .empty, .empty, .empty⟩⟩ : Rec) = false := by show (if (1 : Int) = 1 then ((0 : Int) == 0) && (noEntB _ && (inB tm 0 1073741824 && (inB vo 0 7 && (decide (0 < tm) || vo == 0)))) else _) = _; rw [if_pos rfl, hN, hF]; rfl
                    have hC : chAns A (⟨1, tm, vo, 0, ⟨0, 0, 0, 0, .empty, .empty, .empty⟩⟩ : Rec) = .tuple #[.nilIface, .iface 124 (.agg #[sentR A, .int .i64 0])] := by unfold chAns; rw [hR]; rfl
                    rw [hC]
                    clear hC hR
                    have hB0 : Hid (Below w.heap.size w (w.alloc (.cells #[.int .i64 1, .int .i64 tm, .int .i64 vo, .int .i64 0, .int .i64 0, .int .i64 0, .int .i64 0, .int .i64 0, .string .empty, .string .empty, .string .empty] 94))) := (Below.refl _ _).alloc (Nat.le_refl _) _
                    have m1 := fun x w => meth_hard_record x w
                    have m2 := fun x w => meth_hard_fits x w
                    go_enter Tryd.func82, Tryd.ntmps82
                    go_wp2
                    go_region_held3 (fun w' => w'.cell? ⟨w.heap.size, 0, none⟩ = some (.int .i64 1) ∧ w'.cell? ⟨w.heap.size, 1, none⟩ = some (.int .i64 tm) ∧ w'.cell? ⟨w.heap.size, 2, none⟩ = some (.int .i64 vo) ∧ w'.cell? ⟨w.heap.size, 3, none⟩ = some (.int .i64 0) ∧ w'.cell? ⟨w.heap.size, 4, none⟩ = some (.int .i64 0) ∧ w'.cell? ⟨w.heap.size, 5, none⟩ = some (.int .i64 0) ∧ w'.cell? ⟨w.heap.size, 6, none⟩ = some (.int .i64 0) ∧ w'.cell? ⟨w.heap.size, 7, none⟩ = some (.int .i64 0) ∧ w'.cell? ⟨w.heap.size, 8, none⟩ = some (.string .empty) ∧ w'.cell? ⟨w.heap.size, 9, none⟩ = some (.string .empty) ∧ w'.cell? ⟨w.heap.size, 10, none⟩ = some (.string .empty)) (simp [*, go_sem])
                      (first
                        | (go_at_call 92; refine (hardRecord_any tm vo _).mono ?_; rintro x w1 ⟨rfl, hb1⟩; have hz1 : w.heap.size < w1.heap.size := (by have := hb1.size; simp at this; omega); have q1 := fun (o : Nat) => (bcell hb1).1 w.heap.size o (by simp); have hG1 : w1.cell? ⟨0, 0, none⟩ = some (sentR A) := ((bcell hb1).1 _ 0 (by simp <;> omega)).trans (((bcell ((Below.refl w.heap.size w).alloc (Nat.le_refl _) (.cells #[.int .i64 1, .int .i64 tm, .int .i64 vo, .int .i64 0, .int .i64 0, .int .i64 0, .int .i64 0, .int .i64 0, .string .empty, .string .empty, .string .empty] 94))).1 _ 0 hgl).trans hG))
                        | (go_at_call 90; refine (hardFits_any tm vo _).mono ?_; rintro x w2 ⟨rfl, hb2⟩; have hz2 : w.heap.size < w2.heap.size := (by have := hb2.size; omega); have q2 := fun (o : Nat) => (bcell hb2).1 w.heap.size o hz1; have hG2 : w2.cell? ⟨0, 0, none⟩ = some (sentR A) := ((bcell hb2).1 _ 0 (by omega)).trans hG1; rw [hF]))
                    all_goals go_wp2
                    all_goals go_quiet (fail)
                    all_goals go_wp2
                    all_goals go_ret2
                    all_goals exact ⟨rfl, ch_below (ch_trans (ch_trans hB0.out hb1 (by simp)) hb2 (by omega))⟩
                  · have hN : noEntB (⟨0, 0, 0, 0, .empty, .empty, .empty⟩ : Ent) = true := by rw [noEnt_iff]; rfl
                    have hR : recB (⟨1, tm, vo, 0, ⟨0, 0, 0, 0, .empty, .empty, .empty⟩⟩ : Rec) = true := by show (if (1 : Int) = 1 then ((0 : Int) == 0) && (noEntB _ && (inB tm 0 1073741824 && (inB vo 0 7 && (decide (0 < tm) || vo == 0)))) else _) = _; rw [if_pos rfl, hN, hF]; rfl
                    have hC : chAns A (⟨1, tm, vo, 0, ⟨0, 0, 0, 0, .empty, .empty, .empty⟩⟩ : Rec) = .tuple #[.iface 97 (.agg #[.int .i64 tm, .int .i64 vo]), .nilIface] := by unfold chAns; rw [hR]; rfl
                    rw [hC]
                    clear hC hR
                    have hB0 : Hid (Below w.heap.size w (w.alloc (.cells #[.int .i64 1, .int .i64 tm, .int .i64 vo, .int .i64 0, .int .i64 0, .int .i64 0, .int .i64 0, .int .i64 0, .string .empty, .string .empty, .string .empty] 94))) := (Below.refl _ _).alloc (Nat.le_refl _) _
                    have m1 := fun x w => meth_hard_record x w
                    have m2 := fun x w => meth_hard_fits x w
                    go_enter Tryd.func82, Tryd.ntmps82
                    go_wp2
                    go_region_held3 (fun w' => w'.cell? ⟨w.heap.size, 0, none⟩ = some (.int .i64 1) ∧ w'.cell? ⟨w.heap.size, 1, none⟩ = some (.int .i64 tm) ∧ w'.cell? ⟨w.heap.size, 2, none⟩ = some (.int .i64 vo) ∧ w'.cell? ⟨w.heap.size, 3, none⟩ = some (.int .i64 0) ∧ w'.cell? ⟨w.heap.size, 4, none⟩ = some (.int .i64 0) ∧ w'.cell? ⟨w.heap.size, 5, none⟩ = some (.int .i64 0) ∧ w'.cell? ⟨w.heap.size, 6, none⟩ = some (.int .i64 0) ∧ w'.cell? ⟨w.heap.size, 7, none⟩ = some (.int .i64 0) ∧ w'.cell? ⟨w.heap.size, 8, none⟩ = some (.string .empty) ∧ w'.cell? ⟨w.heap.size, 9, none⟩ = some (.string .empty) ∧ w'.cell? ⟨w.heap.size, 10, none⟩ = some (.string .empty)) (simp [*, go_sem])
                      (first
                        | (go_at_call 92; refine (hardRecord_any tm vo _).mono ?_; rintro x w1 ⟨rfl, hb1⟩; have hz1 : w.heap.size < w1.heap.size := (by have := hb1.size; simp at this; omega); have q1 := fun (o : Nat) => (bcell hb1).1 w.heap.size o (by simp); have hG1 : w1.cell? ⟨0, 0, none⟩ = some (sentR A) := ((bcell hb1).1 _ 0 (by simp <;> omega)).trans (((bcell ((Below.refl w.heap.size w).alloc (Nat.le_refl _) (.cells #[.int .i64 1, .int .i64 tm, .int .i64 vo, .int .i64 0, .int .i64 0, .int .i64 0, .int .i64 0, .int .i64 0, .string .empty, .string .empty, .string .empty] 94))).1 _ 0 hgl).trans hG))
                        | (go_at_call 90; refine (hardFits_any tm vo _).mono ?_; rintro x w2 ⟨rfl, hb2⟩; have hz2 : w.heap.size < w2.heap.size := (by have := hb2.size; omega); have q2 := fun (o : Nat) => (bcell hb2).1 w.heap.size o hz1; have hG2 : w2.cell? ⟨0, 0, none⟩ = some (sentR A) := ((bcell hb2).1 _ 0 (by omega)).trans hG1; rw [hF]))
                    all_goals go_wp2
                    all_goals go_ret2
                    all_goals exact ⟨rfl, ch_below (ch_trans (ch_trans hB0.out hb1 (by simp)) hb2 (by omega))⟩
                · have hN : noEntB (⟨0, 0, 0, 0, .empty, .empty, o⟩ : Ent) = false := by
                    cases hB : noEntB (⟨0, 0, 0, 0, .empty, .empty, o⟩ : Ent)
                    · rfl
                    · rw [noEnt_iff] at hB; injection hB with e0 e1 e2 e3 e4 e5 e6; exact absurd e6 ho
                  have b_o := text_ne ho
                  have c_o := text_ne' ho
                  have d_o : ¬ ([] : List UInt8) = o.toList := fun e => b_o e.symm
                  have e_o : (([] : List UInt8) == o.toList) = false := by simpa using d_o
                  have hR : recB (⟨1, tm, vo, 0, ⟨0, 0, 0, 0, .empty, .empty, o⟩⟩ : Rec) = false := by simp [recB, hN]
                  have hC : chAns A (⟨1, tm, vo, 0, ⟨0, 0, 0, 0, .empty, .empty, o⟩⟩ : Rec) = .tuple #[.nilIface, .iface 124 (.agg #[sentR A, .int .i64 0])] := by unfold chAns; rw [hR]; rfl
                  rw [hC]
                  clear hC hR
                  have hB0 : Hid (Below w.heap.size w (w.alloc (.cells #[.int .i64 1, .int .i64 tm, .int .i64 vo, .int .i64 0, .int .i64 0, .int .i64 0, .int .i64 0, .int .i64 0, .string .empty, .string .empty, .string o] 94))) := (Below.refl _ _).alloc (Nat.le_refl _) _
                  have m1 := fun x w => meth_hard_record x w
                  have m2 := fun x w => meth_hard_fits x w
                  go_enter Tryd.func82, Tryd.ntmps82
                  go_wp2
                  first | (go_region_with (go_at_call 92; refine (hardRecord_any tm vo _).mono ?_; rintro x w1 ⟨rfl, hb1⟩; have hz1 : w.heap.size < w1.heap.size := (by have := hb1.size; simp at this; omega); have k0 : w1.cell? ⟨w.heap.size, 0, none⟩ = some (.int .i64 1) := ((bcell hb1).1 w.heap.size 0 (by simp)).trans (by simp [go_sem]); have k1 : w1.cell? ⟨w.heap.size, 1, none⟩ = some (.int .i64 tm) := ((bcell hb1).1 w.heap.size 1 (by simp)).trans (by simp [go_sem]); have k2 : w1.cell? ⟨w.heap.size, 2, none⟩ = some (.int .i64 vo) := ((bcell hb1).1 w.heap.size 2 (by simp)).trans (by simp [go_sem]); have k3 : w1.cell? ⟨w.heap.size, 3, none⟩ = some (.int .i64 0) := ((bcell hb1).1 w.heap.size 3 (by simp)).trans (by simp [go_sem]); have k4 : w1.cell? ⟨w.heap.size, 4, none⟩ = some (.int .i64 0) := ((bcell hb1).1 w.heap.size 4 (by simp)).trans (by simp [go_sem]); have k5 : w1.cell? ⟨w.heap.size, 5, none⟩ = some (.int .i64 0) := ((bcell hb1).1 w.heap.size 5 (by simp)).trans (by simp [go_sem]); have k6 : w1.cell? ⟨w.heap.size, 6, none⟩ = some (.int .i64 0) := ((bcell hb1).1 w.heap.size 6 (by simp)).trans (by simp [go_sem]); have k7 : w1.cell? ⟨w.heap.size, 7, none⟩ = some (.int .i64 0) := ((bcell hb1).1 w.heap.size 7 (by simp)).trans (by simp [go_sem]); have k8 : w1.cell? ⟨w.heap.size, 8, none⟩ = some (.string .empty) := ((bcell hb1).1 w.heap.size 8 (by simp)).trans (by simp [go_sem]); have k9 : w1.cell? ⟨w.heap.size, 9, none⟩ = some (.string .empty) := ((bcell hb1).1 w.heap.size 9 (by simp)).trans (by simp [go_sem]); have k10 : w1.cell? ⟨w.heap.size, 10, none⟩ = some (.string o) := ((bcell hb1).1 w.heap.size 10 (by simp)).trans (by simp [go_sem]); have hG1 : w1.cell? ⟨0, 0, none⟩ = some (sentR A) := ((bcell hb1).1 _ 0 (by simp <;> omega)).trans (((bcell ((Below.refl w.heap.size w).alloc (Nat.le_refl _) (.cells #[.int .i64 1, .int .i64 tm, .int .i64 vo, .int .i64 0, .int .i64 0, .int .i64 0, .int .i64 0, .int .i64 0, .string .empty, .string .empty, .string o] 94))).1 _ 0 hgl).trans hG))) | fail
                  all_goals go_wp2
                  all_goals go_quiet (fail)
                  all_goals go_wp2
                  all_goals go_ret2
                  all_goals exact ⟨rfl, ch_below (ch_trans hB0.out hb1 (by simp))⟩
              · have hN : noEntB (⟨0, 0, 0, 0, .empty, v, o⟩ : Ent) = false := by
                  cases hB : noEntB (⟨0, 0, 0, 0, .empty, v, o⟩ : Ent)
                  · rfl
                  · rw [noEnt_iff] at hB; injection hB with e0 e1 e2 e3 e4 e5 e6; exact absurd e5 hv
                have b_v := text_ne hv
                have c_v := text_ne' hv
                have d_v : ¬ ([] : List UInt8) = v.toList := fun e => b_v e.symm
                have e_v : (([] : List UInt8) == v.toList) = false := by simpa using d_v
                have hR : recB (⟨1, tm, vo, 0, ⟨0, 0, 0, 0, .empty, v, o⟩⟩ : Rec) = false := by simp [recB, hN]
                have hC : chAns A (⟨1, tm, vo, 0, ⟨0, 0, 0, 0, .empty, v, o⟩⟩ : Rec) = .tuple #[.nilIface, .iface 124 (.agg #[sentR A, .int .i64 0])] := by unfold chAns; rw [hR]; rfl
                rw [hC]
                clear hC hR
                have hB0 : Hid (Below w.heap.size w (w.alloc (.cells #[.int .i64 1, .int .i64 tm, .int .i64 vo, .int .i64 0, .int .i64 0, .int .i64 0, .int .i64 0, .int .i64 0, .string .empty, .string v, .string o] 94))) := (Below.refl _ _).alloc (Nat.le_refl _) _
                have m1 := fun x w => meth_hard_record x w
                have m2 := fun x w => meth_hard_fits x w
                go_enter Tryd.func82, Tryd.ntmps82
                go_wp2
                first | (go_region_with (go_at_call 92; refine (hardRecord_any tm vo _).mono ?_; rintro x w1 ⟨rfl, hb1⟩; have hz1 : w.heap.size < w1.heap.size := (by have := hb1.size; simp at this; omega); have k0 : w1.cell? ⟨w.heap.size, 0, none⟩ = some (.int .i64 1) := ((bcell hb1).1 w.heap.size 0 (by simp)).trans (by simp [go_sem]); have k1 : w1.cell? ⟨w.heap.size, 1, none⟩ = some (.int .i64 tm) := ((bcell hb1).1 w.heap.size 1 (by simp)).trans (by simp [go_sem]); have k2 : w1.cell? ⟨w.heap.size, 2, none⟩ = some (.int .i64 vo) := ((bcell hb1).1 w.heap.size 2 (by simp)).trans (by simp [go_sem]); have k3 : w1.cell? ⟨w.heap.size, 3, none⟩ = some (.int .i64 0) := ((bcell hb1).1 w.heap.size 3 (by simp)).trans (by simp [go_sem]); have k4 : w1.cell? ⟨w.heap.size, 4, none⟩ = some (.int .i64 0) := ((bcell hb1).1 w.heap.size 4 (by simp)).trans (by simp [go_sem]); have k5 : w1.cell? ⟨w.heap.size, 5, none⟩ = some (.int .i64 0) := ((bcell hb1).1 w.heap.size 5 (by simp)).trans (by simp [go_sem]); have k6 : w1.cell? ⟨w.heap.size, 6, none⟩ = some (.int .i64 0) := ((bcell hb1).1 w.heap.size 6 (by simp)).trans (by simp [go_sem]); have k7 : w1.cell? ⟨w.heap.size, 7, none⟩ = some (.int .i64 0) := ((bcell hb1).1 w.heap.size 7 (by simp)).trans (by simp [go_sem]); have k8 : w1.cell? ⟨w.heap.size, 8, none⟩ = some (.string .empty) := ((bcell hb1).1 w.heap.size 8 (by simp)).trans (by simp [go_sem]); have k9 : w1.cell? ⟨w.heap.size, 9, none⟩ = some (.string v) := ((bcell hb1).1 w.heap.size 9 (by simp)).trans (by simp [go_sem]); have k10 : w1.cell? ⟨w.heap.size, 10, none⟩ = some (.string o) := ((bcell hb1).1 w.heap.size 10 (by simp)).trans (by simp [go_sem]); have hG1 : w1.cell? ⟨0, 0, none⟩ = some (sentR A) := ((bcell hb1).1 _ 0 (by simp <;> omega)).trans (((bcell ((Below.refl w.heap.size w).alloc (Nat.le_refl _) (.cells #[.int .i64 1, .int .i64 tm, .int .i64 vo, .int .i64 0, .int .i64 0, .int .i64 0, .int .i64 0, .int .i64 0, .string .empty, .string v, .string o] 94))).1 _ 0 hgl).trans hG))) | fail
                all_goals go_wp2
                all_goals go_quiet (fail)
                all_goals go_wp2
                all_goals go_ret2
                all_goals exact ⟨rfl, ch_below (ch_trans hB0.out hb1 (by simp))⟩
            · have hN : noEntB (⟨0, 0, 0, 0, k, v, o⟩ : Ent) = false := by
                cases hB : noEntB (⟨0, 0, 0, 0, k, v, o⟩ : Ent)
                · rfl
                · rw [noEnt_iff] at hB; injection hB with e0 e1 e2 e3 e4 e5 e6; exact absurd e4 hk
              have b_k := text_ne hk
              have c_k := text_ne' hk
              have d_k : ¬ ([] : List UInt8) = k.toList := fun e => b_k e.symm
              have e_k : (([] : List UInt8) == k.toList) = false := by simpa using d_k
              have hR : recB (⟨1, tm, vo, 0, ⟨0, 0, 0, 0, k, v, o⟩⟩ : Rec) = false := by simp [recB, hN]
              have hC : chAns A (⟨1, tm, vo, 0, ⟨0, 0, 0, 0, k, v, o⟩⟩ : Rec) = .tuple #[.nilIface, .iface 124 (.agg #[sentR A, .int .i64 0])] := by unfold chAns; rw [hR]; rfl
              rw [hC]
              clear hC hR
              have hB0 : Hid (Below w.heap.size w (w.alloc (.cells #[.int .i64 1, .int .i64 tm, .int .i64 vo, .int .i64 0, .int .i64 0, .int .i64 0, .int .i64 0, .int .i64 0, .string k, .string v, .string o] 94))) := (Below.refl _ _).alloc (Nat.le_refl _) _
              have m1 := fun x w => meth_hard_record x w
              have m2 := fun x w => meth_hard_fits x w
              go_enter Tryd.func82, Tryd.ntmps82
              go_wp2
              first | (go_region_with (go_at_call 92; refine (hardRecord_any tm vo _).mono ?_; rintro x w1 ⟨rfl, hb1⟩; have hz1 : w.heap.size < w1.heap.size := (by have := hb1.size; simp at this; omega); have k0 : w1.cell? ⟨w.heap.size, 0, none⟩ = some (.int .i64 1) := ((bcell hb1).1 w.heap.size 0 (by simp)).trans (by simp [go_sem]); have k1 : w1.cell? ⟨w.heap.size, 1, none⟩ = some (.int .i64 tm) := ((bcell hb1).1 w.heap.size 1 (by simp)).trans (by simp [go_sem]); have k2 : w1.cell? ⟨w.heap.size, 2, none⟩ = some (.int .i64 vo) := ((bcell hb1).1 w.heap.size 2 (by simp)).trans (by simp [go_sem]); have k3 : w1.cell? ⟨w.heap.size, 3, none⟩ = some (.int .i64 0) := ((bcell hb1).1 w.heap.size 3 (by simp)).trans (by simp [go_sem]); have k4 : w1.cell? ⟨w.heap.size, 4, none⟩ = some (.int .i64 0) := ((bcell hb1).1 w.heap.size 4 (by simp)).trans (by simp [go_sem]); have k5 : w1.cell? ⟨w.heap.size, 5, none⟩ = some (.int .i64 0) := ((bcell hb1).1 w.heap.size 5 (by simp)).trans (by simp [go_sem]); have k6 : w1.cell? ⟨w.heap.size, 6, none⟩ = some (.int .i64 0) := ((bcell hb1).1 w.heap.size 6 (by simp)).trans (by simp [go_sem]); have k7 : w1.cell? ⟨w.heap.size, 7, none⟩ = some (.int .i64 0) := ((bcell hb1).1 w.heap.size 7 (by simp)).trans (by simp [go_sem]); have k8 : w1.cell? ⟨w.heap.size, 8, none⟩ = some (.string k) := ((bcell hb1).1 w.heap.size 8 (by simp)).trans (by simp [go_sem]); have k9 : w1.cell? ⟨w.heap.size, 9, none⟩ = some (.string v) := ((bcell hb1).1 w.heap.size 9 (by simp)).trans (by simp [go_sem]); have k10 : w1.cell? ⟨w.heap.size, 10, none⟩ = some (.string o) := ((bcell hb1).1 w.heap.size 10 (by simp)).trans (by simp [go_sem]); have hG1 : w1.cell? ⟨0, 0, none⟩ = some (sentR A) := ((bcell hb1).1 _ 0 (by simp <;> omega)).trans (((bcell ((Below.refl w.heap.size w).alloc (Nat.le_refl _) (.cells #[.int .i64 1, .int .i64 tm, .int .i64 vo, .int .i64 0, .int .i64 0, .int .i64 0, .int .i64 0, .int .i64 0, .string k, .string v, .string o] 94))).1 _ 0 hgl).trans hG))) | fail
              all_goals go_wp2
              all_goals go_quiet (fail)
              all_goals go_wp2
              all_goals go_ret2
              all_goals exact ⟨rfl, ch_below (ch_trans hB0.out hb1 (by simp))⟩
          · have hN : noEntB (⟨0, 0, 0, op, k, v, o⟩ : Ent) = false := by
              cases hB : noEntB (⟨0, 0, 0, op, k, v, o⟩ : Ent)
              · rfl
              · rw [noEnt_iff] at hB; injection hB with e0 e1 e2 e3 e4 e5 e6; exact absurd e3 hop
            have b_op : (op == 0) = false := by simpa using hop
            have d_op : ((0 : Int) == op) = false := by simpa using (fun e : (0 : Int) = op => hop e.symm)
            have hR : recB (⟨1, tm, vo, 0, ⟨0, 0, 0, op, k, v, o⟩⟩ : Rec) = false := by simp [recB, hN]
            have hC : chAns A (⟨1, tm, vo, 0, ⟨0, 0, 0, op, k, v, o⟩⟩ : Rec) = .tuple #[.nilIface, .iface 124 (.agg #[sentR A, .int .i64 0])] := by unfold chAns; rw [hR]; rfl
            rw [hC]
            clear hC hR
            have hB0 : Hid (Below w.heap.size w (w.alloc (.cells #[.int .i64 1, .int .i64 tm, .int .i64 vo, .int .i64 0, .int .i64 0, .int .i64 0, .int .i64 0, .int .i64 op, .string k, .string v, .string o] 94))) := (Below.refl _ _).alloc (Nat.le_refl _) _
            have m1 := fun x w => meth_hard_record x w
            have m2 := fun x w => meth_hard_fits x w
            go_enter Tryd.func82, Tryd.ntmps82
            go_wp2
            first | (go_region_with (go_at_call 92; refine (hardRecord_any tm vo _).mono ?_; rintro x w1 ⟨rfl, hb1⟩; have hz1 : w.heap.size < w1.heap.size := (by have := hb1.size; simp at this; omega); have k0 : w1.cell? ⟨w.heap.size, 0, none⟩ = some (.int .i64 1) := ((bcell hb1).1 w.heap.size 0 (by simp)).trans (by simp [go_sem]); have k1 : w1.cell? ⟨w.heap.size, 1, none⟩ = some (.int .i64 tm) := ((bcell hb1).1 w.heap.size 1 (by simp)).trans (by simp [go_sem]); have k2 : w1.cell? ⟨w.heap.size, 2, none⟩ = some (.int .i64 vo) := ((bcell hb1).1 w.heap.size 2 (by simp)).trans (by simp [go_sem]); have k3 : w1.cell? ⟨w.heap.size, 3, none⟩ = some (.int .i64 0) := ((bcell hb1).1 w.heap.size 3 (by simp)).trans (by simp [go_sem]); have k4 : w1.cell? ⟨w.heap.size, 4, none⟩ = some (.int .i64 0) := ((bcell hb1).1 w.heap.size 4 (by simp)).trans (by simp [go_sem]); have k5 : w1.cell? ⟨w.heap.size, 5, none⟩ = some (.int .i64 0) := ((bcell hb1).1 w.heap.size 5 (by simp)).trans (by simp [go_sem]); have k6 : w1.cell? ⟨w.heap.size, 6, none⟩ = some (.int .i64 0) := ((bcell hb1).1 w.heap.size 6 (by simp)).trans (by simp [go_sem]); have k7 : w1.cell? ⟨w.heap.size, 7, none⟩ = some (.int .i64 op) := ((bcell hb1).1 w.heap.size 7 (by simp)).trans (by simp [go_sem]); have k8 : w1.cell? ⟨w.heap.size, 8, none⟩ = some (.string k) := ((bcell hb1).1 w.heap.size 8 (by simp)).trans (by simp [go_sem]); have k9 : w1.cell? ⟨w.heap.size, 9, none⟩ = some (.string v) := ((bcell hb1).1 w.heap.size 9 (by simp)).trans (by simp [go_sem]); have k10 : w1.cell? ⟨w.heap.size, 10, none⟩ = some (.string o) := ((bcell hb1).1 w.heap.size 10 (by simp)).trans (by simp [go_sem]); have hG1 : w1.cell? ⟨0, 0, none⟩ = some (sentR A) := ((bcell hb1).1 _ 0 (by simp <;> omega)).trans (((bcell ((Below.refl w.heap.size w).alloc (Nat.le_refl _) (.cells #[.int .i64 1, .int .i64 tm, .int .i64 vo, .int .i64 0, .int .i64 0, .int .i64 0, .int .i64 0, .int .i64 op, .string k, .string v, .string o] 94))).1 _ 0 hgl).trans hG))) | fail
            all_goals go_wp2
            all_goals go_quiet (fail)
            all_goals go_wp2
            all_goals go_ret2
            all_goals exact ⟨rfl, ch_below (ch_trans hB0.out hb1 (by simp))⟩
        · have hN : noEntB (⟨0, 0, sq, op, k, v, o⟩ : Ent) = false := by
            cases hB : noEntB (⟨0, 0, sq, op, k, v, o⟩ : Ent)
            · rfl
            · rw [noEnt_iff] at hB; injection hB with e0 e1 e2 e3 e4 e5 e6; exact absurd e2 hsq
          have b_sq : (sq == 0) = false := by simpa using hsq
          have d_sq : ((0 : Int) == sq) = false := by simpa using (fun e : (0 : Int) = sq => hsq e.symm)
          have hR : recB (⟨1, tm, vo, 0, ⟨0, 0, sq, op, k, v, o⟩⟩ : Rec) = false := by simp [recB, hN]
          have hC : chAns A (⟨1, tm, vo, 0, ⟨0, 0, sq, op, k, v, o⟩⟩ : Rec) = .tuple #[.nilIface, .iface 124 (.agg #[sentR A, .int .i64 0])] := by unfold chAns; rw [hR]; rfl
          rw [hC]
          clear hC hR
          have hB0 : Hid (Below w.heap.size w (w.alloc (.cells #[.int .i64 1, .int .i64 tm, .int .i64 vo, .int .i64 0, .int .i64 0, .int .i64 0, .int .i64 sq, .int .i64 op, .string k, .string v, .string o] 94))) := (Below.refl _ _).alloc (Nat.le_refl _) _
          have m1 := fun x w => meth_hard_record x w
          have m2 := fun x w => meth_hard_fits x w
          go_enter Tryd.func82, Tryd.ntmps82
          go_wp2
          first | (go_region_with (go_at_call 92; refine (hardRecord_any tm vo _).mono ?_; rintro x w1 ⟨rfl, hb1⟩; have hz1 : w.heap.size < w1.heap.size := (by have := hb1.size; simp at this; omega); have k0 : w1.cell? ⟨w.heap.size, 0, none⟩ = some (.int .i64 1) := ((bcell hb1).1 w.heap.size 0 (by simp)).trans (by simp [go_sem]); have k1 : w1.cell? ⟨w.heap.size, 1, none⟩ = some (.int .i64 tm) := ((bcell hb1).1 w.heap.size 1 (by simp)).trans (by simp [go_sem]); have k2 : w1.cell? ⟨w.heap.size, 2, none⟩ = some (.int .i64 vo) := ((bcell hb1).1 w.heap.size 2 (by simp)).trans (by simp [go_sem]); have k3 : w1.cell? ⟨w.heap.size, 3, none⟩ = some (.int .i64 0) := ((bcell hb1).1 w.heap.size 3 (by simp)).trans (by simp [go_sem]); have k4 : w1.cell? ⟨w.heap.size, 4, none⟩ = some (.int .i64 0) := ((bcell hb1).1 w.heap.size 4 (by simp)).trans (by simp [go_sem]); have k5 : w1.cell? ⟨w.heap.size, 5, none⟩ = some (.int .i64 0) := ((bcell hb1).1 w.heap.size 5 (by simp)).trans (by simp [go_sem]); have k6 : w1.cell? ⟨w.heap.size, 6, none⟩ = some (.int .i64 sq) := ((bcell hb1).1 w.heap.size 6 (by simp)).trans (by simp [go_sem]); have k7 : w1.cell? ⟨w.heap.size, 7, none⟩ = some (.int .i64 op) := ((bcell hb1).1 w.heap.size 7 (by simp)).trans (by simp [go_sem]); have k8 : w1.cell? ⟨w.heap.size, 8, none⟩ = some (.string k) := ((bcell hb1).1 w.heap.size 8 (by simp)).trans (by simp [go_sem]); have k9 : w1.cell? ⟨w.heap.size, 9, none⟩ = some (.string v) := ((bcell hb1).1 w.heap.size 9 (by simp)).trans (by simp [go_sem]); have k10 : w1.cell? ⟨w.heap.size, 10, none⟩ = some (.string o) := ((bcell hb1).1 w.heap.size 10 (by simp)).trans (by simp [go_sem]); have hG1 : w1.cell? ⟨0, 0, none⟩ = some (sentR A) := ((bcell hb1).1 _ 0 (by simp <;> omega)).trans (((bcell ((Below.refl w.heap.size w).alloc (Nat.le_refl _) (.cells #[.int .i64 1, .int .i64 tm, .int .i64 vo, .int .i64 0, .int .i64 0, .int .i64 0, .int .i64 sq, .int .i64 op, .string k, .string v, .string o] 94))).1 _ 0 hgl).trans hG))) | fail
          all_goals go_wp2
          all_goals go_quiet (fail)
          all_goals go_wp2
          all_goals go_ret2
          all_goals exact ⟨rfl, ch_below (ch_trans hB0.out hb1 (by simp))⟩
      · have hN : noEntB (⟨0, cl, sq, op, k, v, o⟩ : Ent) = false := by
          cases hB : noEntB (⟨0, cl, sq, op, k, v, o⟩ : Ent)
          · rfl
          · rw [noEnt_iff] at hB; injection hB with e0 e1 e2 e3 e4 e5 e6; exact absurd e1 hcl
        have b_cl : (cl == 0) = false := by simpa using hcl
        have d_cl : ((0 : Int) == cl) = false := by simpa using (fun e : (0 : Int) = cl => hcl e.symm)
        have hR : recB (⟨1, tm, vo, 0, ⟨0, cl, sq, op, k, v, o⟩⟩ : Rec) = false := by simp [recB, hN]
        have hC : chAns A (⟨1, tm, vo, 0, ⟨0, cl, sq, op, k, v, o⟩⟩ : Rec) = .tuple #[.nilIface, .iface 124 (.agg #[sentR A, .int .i64 0])] := by unfold chAns; rw [hR]; rfl
        rw [hC]
        clear hC hR
        have hB0 : Hid (Below w.heap.size w (w.alloc (.cells #[.int .i64 1, .int .i64 tm, .int .i64 vo, .int .i64 0, .int .i64 0, .int .i64 cl, .int .i64 sq, .int .i64 op, .string k, .string v, .string o] 94))) := (Below.refl _ _).alloc (Nat.le_refl _) _
        have m1 := fun x w => meth_hard_record x w
        have m2 := fun x w => meth_hard_fits x w
        go_enter Tryd.func82, Tryd.ntmps82
        go_wp2
        first | (go_region_with (go_at_call 92; refine (hardRecord_any tm vo _).mono ?_; rintro x w1 ⟨rfl, hb1⟩; have hz1 : w.heap.size < w1.heap.size := (by have := hb1.size; simp at this; omega); have k0 : w1.cell? ⟨w.heap.size, 0, none⟩ = some (.int .i64 1) := ((bcell hb1).1 w.heap.size 0 (by simp)).trans (by simp [go_sem]); have k1 : w1.cell? ⟨w.heap.size, 1, none⟩ = some (.int .i64 tm) := ((bcell hb1).1 w.heap.size 1 (by simp)).trans (by simp [go_sem]); have k2 : w1.cell? ⟨w.heap.size, 2, none⟩ = some (.int .i64 vo) := ((bcell hb1).1 w.heap.size 2 (by simp)).trans (by simp [go_sem]); have k3 : w1.cell? ⟨w.heap.size, 3, none⟩ = some (.int .i64 0) := ((bcell hb1).1 w.heap.size 3 (by simp)).trans (by simp [go_sem]); have k4 : w1.cell? ⟨w.heap.size, 4, none⟩ = some (.int .i64 0) := ((bcell hb1).1 w.heap.size 4 (by simp)).trans (by simp [go_sem]); have k5 : w1.cell? ⟨w.heap.size, 5, none⟩ = some (.int .i64 cl) := ((bcell hb1).1 w.heap.size 5 (by simp)).trans (by simp [go_sem]); have k6 : w1.cell? ⟨w.heap.size, 6, none⟩ = some (.int .i64 sq) := ((bcell hb1).1 w.heap.size 6 (by simp)).trans (by simp [go_sem]); have k7 : w1.cell? ⟨w.heap.size, 7, none⟩ = some (.int .i64 op) := ((bcell hb1).1 w.heap.size 7 (by simp)).trans (by simp [go_sem]); have k8 : w1.cell? ⟨w.heap.size, 8, none⟩ = some (.string k) := ((bcell hb1).1 w.heap.size 8 (by simp)).trans (by simp [go_sem]); have k9 : w1.cell? ⟨w.heap.size, 9, none⟩ = some (.string v) := ((bcell hb1).1 w.heap.size 9 (by simp)).trans (by simp [go_sem]); have k10 : w1.cell? ⟨w.heap.size, 10, none⟩ = some (.string o) := ((bcell hb1).1 w.heap.size 10 (by simp)).trans (by simp [go_sem]); have hG1 : w1.cell? ⟨0, 0, none⟩ = some (sentR A) := ((bcell hb1).1 _ 0 (by simp <;> omega)).trans (((bcell ((Below.refl w.heap.size w).alloc (Nat.le_refl _) (.cells #[.int .i64 1, .int .i64 tm, .int .i64 vo, .int .i64 0, .int .i64 0, .int .i64 cl, .int .i64 sq, .int .i64 op, .string k, .string v, .string o] 94))).1 _ 0 hgl).trans hG))) | fail
        all_goals go_wp2
        all_goals go_quiet (fail)
        all_goals go_wp2
        all_goals go_ret2
        all_goals exact ⟨rfl, ch_below (ch_trans hB0.out hb1 (by simp))⟩
    · have hN : noEntB (⟨t, cl, sq, op, k, v, o⟩ : Ent) = false := by
        cases hB : noEntB (⟨t, cl, sq, op, k, v, o⟩ : Ent)
        · rfl
        · rw [noEnt_iff] at hB; injection hB with e0 e1 e2 e3 e4 e5 e6; exact absurd e0 ht
      have b_t : (t == 0) = false := by simpa using ht
      have d_t : ((0 : Int) == t) = false := by simpa using (fun e : (0 : Int) = t => ht e.symm)
      have hR : recB (⟨1, tm, vo, 0, ⟨t, cl, sq, op, k, v, o⟩⟩ : Rec) = false := by simp [recB, hN]
      have hC : chAns A (⟨1, tm, vo, 0, ⟨t, cl, sq, op, k, v, o⟩⟩ : Rec) = .tuple #[.nilIface, .iface 124 (.agg #[sentR A, .int .i64 0])] := by unfold chAns; rw [hR]; rfl
      rw [hC]
      clear hC hR
      have hB0 : Hid (Below w.heap.size w (w.alloc (.cells #[.int .i64 1, .int .i64 tm, .int .i64 vo, .int .i64 0, .int .i64 t, .int .i64 cl, .int .i64 sq, .int .i64 op, .string k, .string v, .string o] 94))) := (Below.refl _ _).alloc (Nat.le_refl _) _
      have m1 := fun x w => meth_hard_record x w
      have m2 := fun x w => meth_hard_fits x w
      go_enter Tryd.func82, Tryd.ntmps82
      go_wp2
      first | (go_region_with (go_at_call 92; refine (hardRecord_any tm vo _).mono ?_; rintro x w1 ⟨rfl, hb1⟩; have hz1 : w.heap.size < w1.heap.size := (by have := hb1.size; simp at this; omega); have k0 : w1.cell? ⟨w.heap.size, 0, none⟩ = some (.int .i64 1) := ((bcell hb1).1 w.heap.size 0 (by simp)).trans (by simp [go_sem]); have k1 : w1.cell? ⟨w.heap.size, 1, none⟩ = some (.int .i64 tm) := ((bcell hb1).1 w.heap.size 1 (by simp)).trans (by simp [go_sem]); have k2 : w1.cell? ⟨w.heap.size, 2, none⟩ = some (.int .i64 vo) := ((bcell hb1).1 w.heap.size 2 (by simp)).trans (by simp [go_sem]); have k3 : w1.cell? ⟨w.heap.size, 3, none⟩ = some (.int .i64 0) := ((bcell hb1).1 w.heap.size 3 (by simp)).trans (by simp [go_sem]); have k4 : w1.cell? ⟨w.heap.size, 4, none⟩ = some (.int .i64 t) := ((bcell hb1).1 w.heap.size 4 (by simp)).trans (by simp [go_sem]); have k5 : w1.cell? ⟨w.heap.size, 5, none⟩ = some (.int .i64 cl) := ((bcell hb1).1 w.heap.size 5 (by simp)).trans (by simp [go_sem]); have k6 : w1.cell? ⟨w.heap.size, 6, none⟩ = some (.int .i64 sq) := ((bcell hb1).1 w.heap.size 6 (by simp)).trans (by simp [go_sem]); have k7 : w1.cell? ⟨w.heap.size, 7, none⟩ = some (.int .i64 op) := ((bcell hb1).1 w.heap.size 7 (by simp)).trans (by simp [go_sem]); have k8 : w1.cell? ⟨w.heap.size, 8, none⟩ = some (.string k) := ((bcell hb1).1 w.heap.size 8 (by simp)).trans (by simp [go_sem]); have k9 : w1.cell? ⟨w.heap.size, 9, none⟩ = some (.string v) := ((bcell hb1).1 w.heap.size 9 (by simp)).trans (by simp [go_sem]); have k10 : w1.cell? ⟨w.heap.size, 10, none⟩ = some (.string o) := ((bcell hb1).1 w.heap.size 10 (by simp)).trans (by simp [go_sem]); have hG1 : w1.cell? ⟨0, 0, none⟩ = some (sentR A) := ((bcell hb1).1 _ 0 (by simp <;> omega)).trans (((bcell ((Below.refl w.heap.size w).alloc (Nat.le_refl _) (.cells #[.int .i64 1, .int .i64 tm, .int .i64 vo, .int .i64 0, .int .i64 t, .int .i64 cl, .int .i64 sq, .int .i64 op, .string k, .string v, .string o] 94))).1 _ 0 hgl).trans hG))) | fail
      all_goals go_wp2
      all_goals go_quiet (fail)
      all_goals go_wp2
      all_goals go_ret2
      all_goals exact ⟨rfl, ch_below (ch_trans hB0.out hb1 (by simp))⟩
  · have b_ix : (ix == 0) = false := by simpa using hix
    have d_ix : ((0 : Int) == ix) = false := by simpa using (fun e : (0 : Int) = ix => hix e.symm)
    have hR : recB (⟨1, tm, vo, ix, ⟨t, cl, sq, op, k, v, o⟩⟩ : Rec) = false := by simp [recB, hix]
    have hC : chAns A (⟨1, tm, vo, ix, ⟨t, cl, sq, op, k, v, o⟩⟩ : Rec) = .tuple #[.nilIface, .iface 124 (.agg #[sentR A, .int .i64 0])] := by unfold chAns; rw [hR]; rfl
    rw [hC]
    clear hC hR
    have hB0 : Hid (Below w.heap.size w (w.alloc (.cells #[.int .i64 1, .int .i64 tm, .int .i64 vo, .int .i64 ix, .int .i64 t, .int .i64 cl, .int .i64 sq, .int .i64 op, .string k, .string v, .string o] 94))) := (Below.refl _ _).alloc (Nat.le_refl _) _
    have m1 := fun x w => meth_hard_record x w
    have m2 := fun x w => meth_hard_fits x w
    go_enter Tryd.func82, Tryd.ntmps82
    go_wp2
    first | (go_region_with (go_at_call 92; refine (hardRecord_any tm vo _).mono ?_; rintro x w1 ⟨rfl, hb1⟩; have hz1 : w.heap.size < w1.heap.size := (by have := hb1.size; simp at this; omega); have k0 : w1.cell? ⟨w.heap.size, 0, none⟩ = some (.int .i64 1) := ((bcell hb1).1 w.heap.size 0 (by simp)).trans (by simp [go_sem]); have k1 : w1.cell? ⟨w.heap.size, 1, none⟩ = some (.int .i64 tm) := ((bcell hb1).1 w.heap.size 1 (by simp)).trans (by simp [go_sem]); have k2 : w1.cell? ⟨w.heap.size, 2, none⟩ = some (.int .i64 vo) := ((bcell hb1).1 w.heap.size 2 (by simp)).trans (by simp [go_sem]); have k3 : w1.cell? ⟨w.heap.size, 3, none⟩ = some (.int .i64 ix) := ((bcell hb1).1 w.heap.size 3 (by simp)).trans (by simp [go_sem]); have k4 : w1.cell? ⟨w.heap.size, 4, none⟩ = some (.int .i64 t) := ((bcell hb1).1 w.heap.size 4 (by simp)).trans (by simp [go_sem]); have k5 : w1.cell? ⟨w.heap.size, 5, none⟩ = some (.int .i64 cl) := ((bcell hb1).1 w.heap.size 5 (by simp)).trans (by simp [go_sem]); have k6 : w1.cell? ⟨w.heap.size, 6, none⟩ = some (.int .i64 sq) := ((bcell hb1).1 w.heap.size 6 (by simp)).trans (by simp [go_sem]); have k7 : w1.cell? ⟨w.heap.size, 7, none⟩ = some (.int .i64 op) := ((bcell hb1).1 w.heap.size 7 (by simp)).trans (by simp [go_sem]); have k8 : w1.cell? ⟨w.heap.size, 8, none⟩ = some (.string k) := ((bcell hb1).1 w.heap.size 8 (by simp)).trans (by simp [go_sem]); have k9 : w1.cell? ⟨w.heap.size, 9, none⟩ = some (.string v) := ((bcell hb1).1 w.heap.size 9 (by simp)).trans (by simp [go_sem]); have k10 : w1.cell? ⟨w.heap.size, 10, none⟩ = some (.string o) := ((bcell hb1).1 w.heap.size 10 (by simp)).trans (by simp [go_sem]); have hG1 : w1.cell? ⟨0, 0, none⟩ = some (sentR A) := ((bcell hb1).1 _ 0 (by simp <;> omega)).trans (((bcell ((Below.refl w.heap.size w).alloc (Nat.le_refl _) (.cells #[.int .i64 1, .int .i64 tm, .int .i64 vo, .int .i64 ix, .int .i64 t, .int .i64 cl, .int .i64 sq, .int .i64 op, .string k, .string v, .string o] 94))).1 _ 0 hgl).trans hG))) | fail
    all_goals go_wp2
    all_goals go_quiet (fail)
    all_goals go_wp2
    all_goals go_ret2
    all_goals exact ⟨rfl, ch_below (ch_trans hB0.out hb1 (by simp))⟩
end Go.Proofs.YtjoflnnomebkpaaDoor

/-
  impl.changeOf: an add record.
-/
namespace Go.Proofs.YtjoflnnomebkpaaDoor
open Go.RowKit
set_option linter.unusedVariables false
set_option linter.unusedSimpArgs false

set_option maxHeartbeats 20000000 in
set_option maxRecDepth 100000 in
theorem changeOf_add (tm vo ix t cl sq op : Int) (k v o : ByteArray) (hf : (⟨t, cl, sq, op, k, v, o⟩ : Ent).fits) (A : Addr) (w : World) (hG : w.cell? ⟨0, 0, none⟩ = some (sentR A)) :
    Calls Tryd.prog 82 #[.agg #[.int .i64 2, .int .i64 tm, .int .i64 vo, .int .i64 ix, .int .i64 t, .int .i64 cl, .int .i64 sq, .int .i64 op, .string k, .string v, .string o]] w fun x w' => x = .returned (chAns A ⟨2, tm, vo, ix, ⟨t, cl, sq, op, k, v, o⟩⟩) ∧ Below w.heap.size w w' := by
  have hgl := cell_lt hG
  by_cases htm : tm = 0
  · subst htm
    by_cases hvo : vo = 0
    · subst hvo
      cases hF : (inB ix 1 4096 && entB ⟨t, cl, sq, op, k, v, o⟩)
      · have hR : recB (⟨2, 0, 0, ix, ⟨t, cl, sq, op, k, v, o⟩⟩ : Rec) = false := by simp [recB, hF]
        have hC : chAns A (⟨2, 0, 0, ix, ⟨t, cl, sq, op, k, v, o⟩⟩ : Rec) = .tuple #[.nilIface, .iface 124 (.agg #[sentR A, .int .i64 0])] := by unfold chAns; rw [hR]; rfl
        rw [hC]
        clear hC hR
        have hB0 : Hid (Below w.heap.size w (w.alloc (.cells #[.int .i64 2, .int .i64 0, .int .i64 0, .int .i64 ix, .int .i64 t, .int .i64 cl, .int .i64 sq, .int .i64 op, .string k, .string v, .string o] 94))) := (Below.refl _ _).alloc (Nat.le_refl _) _
        have m1 := fun x w => meth_add_record x w
        have m2 := fun x w => meth_add_fits x w
        go_enter Tryd.func82, Tryd.ntmps82
        go_wp2
        go_region_held3 (fun w' => w'.cell? ⟨w.heap.size, 0, none⟩ = some (.int .i64 2) ∧ w'.cell? ⟨w.heap.size, 1, none⟩ = some (.int .i64 0) ∧ w'.cell? ⟨w.heap.size, 2, none⟩ = some (.int .i64 0) ∧ w'.cell? ⟨w.heap.size, 3, none⟩ = some (.int .i64 ix) ∧ w'.cell? ⟨w.heap.size, 4, none⟩ = some (.int .i64 t) ∧ w'.cell? ⟨w.heap.size, 5, none⟩ = some (.int .i64 cl) ∧ w'.cell? ⟨w.heap.size, 6, none⟩ = some (.int .i64 sq) ∧ w'.cell? ⟨w.heap.size, 7, none⟩ = some (.int .i64 op) ∧ w'.cell? ⟨w.heap.size, 8, none⟩ = some (.string k) ∧ w'.cell? ⟨w.heap.size, 9, none⟩ = some (.string v) ∧ w'.cell? ⟨w.heap.size, 10, none⟩ = some (.string o)) (simp [*, go_sem])
          (first
            | (go_at_call 94; refine (addRecord_any ix ⟨t, cl, sq, op, k, v, o⟩ _).mono ?_; rintro x w1 ⟨rfl, hb1⟩; have hz1 : w.heap.size < w1.heap.size := (by have := hb1.size; simp at this; omega); have q1 := fun (o : Nat) => (bcell hb1).1 w.heap.size o (by simp); have hG1 : w1.cell? ⟨0, 0, none⟩ = some (sentR A) := ((bcell hb1).1 _ 0 (by simp <;> omega)).trans (((bcell ((Below.refl w.heap.size w).alloc (Nat.le_refl _) (.cells #[.int .i64 2, .int .i64 0, .int .i64 0, .int .i64 ix, .int .i64 t, .int .i64 cl, .int .i64 sq, .int .i64 op, .string k, .string v, .string o] 94))).1 _ 0 hgl).trans hG))
            | (go_at_call 168; refine (addFits_any ix ⟨t, cl, sq, op, k, v, o⟩ hf _).mono ?_; rintro x w2 ⟨rfl, hb2⟩; have hz2 : w.heap.size < w2.heap.size := (by have := hb2.size; omega); have q2 := fun (o : Nat) => (bcell hb2).1 w.heap.size o hz1; have hG2 : w2.cell? ⟨0, 0, none⟩ = some (sentR A) := ((bcell hb2).1 _ 0 (by omega)).trans hG1; rw [hF]))
        all_goals go_wp2
        all_goals go_quiet (fail)
        all_goals go_wp2
        all_goals go_ret2
        all_goals exact ⟨rfl, ch_below (ch_trans (ch_trans hB0.out hb1 (by simp)) hb2 (by omega))⟩
      · have hR : recB (⟨2, 0, 0, ix, ⟨t, cl, sq, op, k, v, o⟩⟩ : Rec) = true := by simp [recB, hF]
        have hC : chAns A (⟨2, 0, 0, ix, ⟨t, cl, sq, op, k, v, o⟩⟩ : Rec) = .tuple #[.iface 138 (.agg #[.int .i64 ix, .int .i64 t, .int .i64 cl, .int .i64 sq, .int .i64 op, .string k, .string v, .string o]), .nilIface] := by unfold chAns; rw [hR]; rfl
        rw [hC]
        clear hC hR
        have hB0 : Hid (Below w.heap.size w (w.alloc (.cells #[.int .i64 2, .int .i64 0, .int .i64 0, .int .i64 ix, .int .i64 t, .int .i64 cl, .int .i64 sq, .int .i64 op, .string k, .string v, .string o] 94))) := (Below.refl _ _).alloc (Nat.le_refl _) _
        have m1 := fun x w => meth_add_record x w
        have m2 := fun x w => meth_add_fits x w
        go_enter Tryd.func82, Tryd.ntmps82
        go_wp2
        go_region_held3 (fun w' => w'.cell? ⟨w.heap.size, 0, none⟩ = some (.int .i64 2) ∧ w'.cell? ⟨w.heap.size, 1, none⟩ = some (.int .i64 0) ∧ w'.cell? ⟨w.heap.size, 2, none⟩ = some (.int .i64 0) ∧ w'.cell? ⟨w.heap.size, 3, none⟩ = some (.int .i64 ix) ∧ w'.cell? ⟨w.heap.size, 4, none⟩ = some (.int .i64 t) ∧ w'.cell? ⟨w.heap.size, 5, none⟩ = some (.int .i64 cl) ∧ w'.cell? ⟨w.heap.size, 6, none⟩ = some (.int .i64 sq) ∧ w'.cell? ⟨w.heap.size, 7, none⟩ = some (.int .i64 op) ∧ w'.cell? ⟨w.heap.size, 8, none⟩ = some (.string k) ∧ w'.cell? ⟨w.heap.size, 9, none⟩ = some (.string v) ∧ w'.cell? ⟨w.heap.size, 10, none⟩ = some (.string o)) (simp [*, go_sem])
          (first
            | (go_at_call 94; refine (addRecord_any ix ⟨t, cl, sq, op, k, v, o⟩ _).mono ?_; rintro x w1 ⟨rfl, hb1⟩; have hz1 : w.heap.size < w1.heap.size := (by have := hb1.size; simp at this; omega); have q1 := fun (o : Nat) => (bcell hb1).1 w.heap.size o (by simp); have hG1 : w1.cell? ⟨0, 0, none⟩ = some (sentR A) := ((bcell hb1).1 _ 0 (by simp <;> omega)).trans (((bcell ((Below.refl w.heap.size w).alloc (Nat.le_refl _) (.cells #[.int .i64 2, .int .i64 0, .int .i64 0, .int .i64 ix, .int .i64 t, .int .i64 cl, .int .i64 sq, .int .i64 op, .string k, .string v, .string o] 94))).1 _ 0 hgl).trans hG))
            | (go_at_call 168; refine (addFits_any ix ⟨t, cl, sq, op, k, v, o⟩ hf _).mono ?_; rintro x w2 ⟨rfl, hb2⟩; have hz2 : w.heap.size < w2.heap.size := (by have := hb2.size; omega); have q2 := fun (o : Nat) => (bcell hb2).1 w.heap.size o hz1; have hG2 : w2.cell? ⟨0, 0, none⟩ = some (sentR A) := ((bcell hb2).1 _ 0 (by omega)).trans hG1; rw [hF]))
        all_goals go_wp2
        all_goals go_ret2
        all_goals exact ⟨rfl, ch_below (ch_trans (ch_trans hB0.out hb1 (by simp)) hb2 (by omega))⟩
    · have b_vo : (vo == 0) = false := by simpa using hvo
      have d_vo : ((0 : Int) == vo) = false := by simpa using (fun e : (0 : Int) = vo => hvo e.symm)
      have hR : recB (⟨2, 0, vo, ix, ⟨t, cl, sq, op, k, v, o⟩⟩ : Rec) = false := by simp [recB, hvo]
      have hC : chAns A (⟨2, 0, vo, ix, ⟨t, cl, sq, op, k, v, o⟩⟩ : Rec) = .tuple #[.nilIface, .iface 124 (.agg #[sentR A, .int .i64 0])] := by unfold chAns; rw [hR]; rfl
      rw [hC]
      clear hC hR
      have hB0 : Hid (Below w.heap.size w (w.alloc (.cells #[.int .i64 2, .int .i64 0, .int .i64 vo, .int .i64 ix, .int .i64 t, .int .i64 cl, .int .i64 sq, .int .i64 op, .string k, .string v, .string o] 94))) := (Below.refl _ _).alloc (Nat.le_refl _) _
      have m1 := fun x w => meth_add_record x w
      have m2 := fun x w => meth_add_fits x w
      go_enter Tryd.func82, Tryd.ntmps82
      go_wp2
      first | (go_region_with (go_at_call 94; refine (addRecord_any ix ⟨t, cl, sq, op, k, v, o⟩ _).mono ?_; rintro x w1 ⟨rfl, hb1⟩; have hz1 : w.heap.size < w1.heap.size := (by have := hb1.size; simp at this; omega); have k0 : w1.cell? ⟨w.heap.size, 0, none⟩ = some (.int .i64 2) := ((bcell hb1).1 w.heap.size 0 (by simp)).trans (by simp [go_sem]); have k1 : w1.cell? ⟨w.heap.size, 1, none⟩ = some (.int .i64 0) := ((bcell hb1).1 w.heap.size 1 (by simp)).trans (by simp [go_sem]); have k2 : w1.cell? ⟨w.heap.size, 2, none⟩ = some (.int .i64 vo) := ((bcell hb1).1 w.heap.size 2 (by simp)).trans (by simp [go_sem]); have k3 : w1.cell? ⟨w.heap.size, 3, none⟩ = some (.int .i64 ix) := ((bcell hb1).1 w.heap.size 3 (by simp)).trans (by simp [go_sem]); have k4 : w1.cell? ⟨w.heap.size, 4, none⟩ = some (.int .i64 t) := ((bcell hb1).1 w.heap.size 4 (by simp)).trans (by simp [go_sem]); have k5 : w1.cell? ⟨w.heap.size, 5, none⟩ = some (.int .i64 cl) := ((bcell hb1).1 w.heap.size 5 (by simp)).trans (by simp [go_sem]); have k6 : w1.cell? ⟨w.heap.size, 6, none⟩ = some (.int .i64 sq) := ((bcell hb1).1 w.heap.size 6 (by simp)).trans (by simp [go_sem]); have k7 : w1.cell? ⟨w.heap.size, 7, none⟩ = some (.int .i64 op) := ((bcell hb1).1 w.heap.size 7 (by simp)).trans (by simp [go_sem]); have k8 : w1.cell? ⟨w.heap.size, 8, none⟩ = some (.string k) := ((bcell hb1).1 w.heap.size 8 (by simp)).trans (by simp [go_sem]); have k9 : w1.cell? ⟨w.heap.size, 9, none⟩ = some (.string v) := ((bcell hb1).1 w.heap.size 9 (by simp)).trans (by simp [go_sem]); have k10 : w1.cell? ⟨w.heap.size, 10, none⟩ = some (.string o) := ((bcell hb1).1 w.heap.size 10 (by simp)).trans (by simp [go_sem]); have hG1 : w1.cell? ⟨0, 0, none⟩ = some (sentR A) := ((bcell hb1).1 _ 0 (by simp <;> omega)).trans (((bcell ((Below.refl w.heap.size w).alloc (Nat.le_refl _) (.cells #[.int .i64 2, .int .i64 0, .int .i64 vo, .int .i64 ix, .int .i64 t, .int .i64 cl, .int .i64 sq, .int .i64 op, .string k, .string v, .string o] 94))).1 _ 0 hgl).trans hG))) | fail
      all_goals go_wp2
      all_goals go_quiet (fail)
      all_goals go_wp2
      all_goals go_ret2
      all_goals exact ⟨rfl, ch_below (ch_trans hB0.out hb1 (by simp))⟩
  · have b_tm : (tm == 0) = false := by simpa using htm
    have d_tm : ((0 : Int) == tm) = false := by simpa using (fun e : (0 : Int) = tm => htm e.symm)
    have hR : recB (⟨2, tm, vo, ix, ⟨t, cl, sq, op, k, v, o⟩⟩ : Rec) = false := by simp [recB, htm]
    have hC : chAns A (⟨2, tm, vo, ix, ⟨t, cl, sq, op, k, v, o⟩⟩ : Rec) = .tuple #[.nilIface, .iface 124 (.agg #[sentR A, .int .i64 0])] := by unfold chAns; rw [hR]; rfl
    rw [hC]
    clear hC hR
    have hB0 : Hid (Below w.heap.size w (w.alloc (.cells #[.int .i64 2, .int .i64 tm, .int .i64 vo, .int .i64 ix, .int .i64 t, .int .i64 cl, .int .i64 sq, .int .i64 op, .string k, .string v, .string o] 94))) := (Below.refl _ _).alloc (Nat.le_refl _) _
    have m1 := fun x w => meth_add_record x w
    have m2 := fun x w => meth_add_fits x w
    go_enter Tryd.func82, Tryd.ntmps82
    go_wp2
    first | (go_region_with (go_at_call 94; refine (addRecord_any ix ⟨t, cl, sq, op, k, v, o⟩ _).mono ?_; rintro x w1 ⟨rfl, hb1⟩; have hz1 : w.heap.size < w1.heap.size := (by have := hb1.size; simp at this; omega); have k0 : w1.cell? ⟨w.heap.size, 0, none⟩ = some (.int .i64 2) := ((bcell hb1).1 w.heap.size 0 (by simp)).trans (by simp [go_sem]); have k1 : w1.cell? ⟨w.heap.size, 1, none⟩ = some (.int .i64 tm) := ((bcell hb1).1 w.heap.size 1 (by simp)).trans (by simp [go_sem]); have k2 : w1.cell? ⟨w.heap.size, 2, none⟩ = some (.int .i64 vo) := ((bcell hb1).1 w.heap.size 2 (by simp)).trans (by simp [go_sem]); have k3 : w1.cell? ⟨w.heap.size, 3, none⟩ = some (.int .i64 ix) := ((bcell hb1).1 w.heap.size 3 (by simp)).trans (by simp [go_sem]); have k4 : w1.cell? ⟨w.heap.size, 4, none⟩ = some (.int .i64 t) := ((bcell hb1).1 w.heap.size 4 (by simp)).trans (by simp [go_sem]); have k5 : w1.cell? ⟨w.heap.size, 5, none⟩ = some (.int .i64 cl) := ((bcell hb1).1 w.heap.size 5 (by simp)).trans (by simp [go_sem]); have k6 : w1.cell? ⟨w.heap.size, 6, none⟩ = some (.int .i64 sq) := ((bcell hb1).1 w.heap.size 6 (by simp)).trans (by simp [go_sem]); have k7 : w1.cell? ⟨w.heap.size, 7, none⟩ = some (.int .i64 op) := ((bcell hb1).1 w.heap.size 7 (by simp)).trans (by simp [go_sem]); have k8 : w1.cell? ⟨w.heap.size, 8, none⟩ = some (.string k) := ((bcell hb1).1 w.heap.size 8 (by simp)).trans (by simp [go_sem]); have k9 : w1.cell? ⟨w.heap.size, 9, none⟩ = some (.string v) := ((bcell hb1).1 w.heap.size 9 (by simp)).trans (by simp [go_sem]); have k10 : w1.cell? ⟨w.heap.size, 10, none⟩ = some (.string o) := ((bcell hb1).1 w.heap.size 10 (by simp)).trans (by simp [go_sem]); have hG1 : w1.cell? ⟨0, 0, none⟩ = some (sentR A) := ((bcell hb1).1 _ 0 (by simp <;> omega)).trans (((bcell ((Below.refl w.heap.size w).alloc (Nat.le_refl _) (.cells #[.int .i64 2, .int .i64 tm, .int .i64 vo, .int .i64 ix, .int .i64 t, .int .i64 cl, .int .i64 sq, .int .i64 op, .string k, .string v, .string o] 94))).1 _ 0 hgl).trans hG))) | fail
    all_goals go_wp2
    all_goals go_quiet (fail)
    all_goals go_wp2
    all_goals go_ret2
    all_goals exact ⟨rfl, ch_below (ch_trans hB0.out hb1 (by simp))⟩
end Go.Proofs.YtjoflnnomebkpaaDoor
