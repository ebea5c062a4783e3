import Derived.Test.YtfcmffdljfljkaaRows
import Derived.WalkKit
import Derived.WalkSpells
import Derived.RowKit3
import Derived.Below
import Derived.Deep.Light
import Derived.Deep.QuietTactic
import Derived.BigQuiet
import Derived.Laws.OwnMore
import Derived.Laws.BitsAllLaws
import Derived.OwnWalk
import Derived.Lib.AppendStr
import Derived.Maps.AppendAt
import Derived.Deep.MidRow
import Derived.Deep.WholeRow
import Derived.Lib.SliceRun
import Derived.Deep.RegionLaw
import Derived.Maps.OwnSet
import Derived.Orders
import Derived.Laws.Cover3
import Derived.Deep.RegionHeld3
/-
  Small things that every walk wants.
-/
namespace Go.Proofs.Ytfcmffdljfljkaa
open Go.RowKit
set_option linter.unusedVariables false

theorem bcell {W w1 : World} (hb : Below W.heap.size W w1) : (∀ b o, b < W.heap.size → w1.cell? ⟨b, o, none⟩ = W.cell? ⟨b, o, none⟩) ∧ (∀ b o, b < W.heap.size → w1.frozen? ⟨b, o, none⟩ = W.frozen? ⟨b, o, none⟩) :=
  ⟨fun b o h => hb.cell (p := ⟨b, o, none⟩) h, fun b o h => hb.frozen (p := ⟨b, o, none⟩) h⟩

theorem ret_int {k : IntKind} {a b : Int} (h : a = b) : Ending.returned (.int k a) = .returned (.int k b) := by rw [h]

theorem ifc {α : Type} {p q : Prop} [Decidable p] [Decidable q] {a b c d : α} (h : p ↔ q) (h1 : a = c) (h2 : b = d) : (if p then a else b) = if q then c else d := by
  subst h1 h2
  by_cases hp : p
  · rw [if_pos hp, if_pos (h.1 hp)]
  · rw [if_neg hp, if_neg (fun hq => hp (h.2 hq))]
end Go.Proofs.Ytfcmffdljfljkaa

/-
  Byte slices: what a slice value holds; laws.toByteS, laws.eqByteS.
-/
namespace Go.Proofs.Ytfcmffdljfljkaa
open Go.RowKit
set_option linter.unusedVariables false

/-- the slice value v holds, in the world w, the bytes l -/
def Bs (w : World) (v : Value) (l : List Int) : Prop :=
  l.length ≤ maxLen ∧ (∀ x ∈ l, 0 ≤ x ∧ x ≤ 255) ∧
  ∃ a cap, v = .slice a l.length cap ∧ ∀ i, i < l.length → ∃ b off, a = some ⟨b, off, none⟩ ∧ ∀ j, j < l.length → w.cell? ⟨b, off + j, none⟩ = some (.int .u8 (l[j]?.getD 0))

theorem byte_at {l : List Int} (h : ∀ x ∈ l, 0 ≤ x ∧ x ≤ 255) (k : Nat) : 0 ≤ l[k]?.getD 0 ∧ l[k]?.getD 0 ≤ 255 := by
  rcases Nat.lt_or_ge k l.length with hk | hk
  · rw [List.getElem?_eq_getElem hk]; exact h _ (List.getElem_mem hk)
  · rw [List.getElem?_eq_none hk]; simp

theorem cell_lt {w : World} {b o : Nat} {v : Value} (h : w.cell? ⟨b, o, none⟩ = some v) : b < w.heap.size := by
  rcases Nat.lt_or_ge b w.heap.size with h' | h'
  · exact h'
  · rw [World.cell?, Array.getElem?_eq_none h'] at h; simp at h

theorem Bs.below {w w' : World} {v : Value} {l : List Int} (h : Bs w v l) (hb : Below w.heap.size w w') : Bs w' v l := by
  obtain ⟨hl, h8, a, cap, rfl, hc⟩ := h
  refine ⟨hl, h8, a, cap, rfl, fun i hi => ?_⟩
  obtain ⟨b, off, rfl, hj⟩ := hc i hi
  exact ⟨b, off, rfl, fun j hj' => by rw [hb.cell (cell_lt (hj j hj'))]; exact hj j hj'⟩


set_option maxHeartbeats 1000000 in
/-- two slices of the same bytes -/
theorem eqByteS_same (v u : Value) (l : List Int) (w : World) (hv : Bs w v l) (hu : Bs w u l) :
    Calls Try.prog 19 #[v, u] w fun e w' => e = .returned (.bool true) ∧ Below w.heap.size w w' := by
  obtain ⟨hl, h8, a, cap, rfl, hc⟩ := hv
  obtain ⟨_, _, a', cap', rfl, hc'⟩ := hu
  unfold maxLen at hl
  go_enter Try.func19, Try.ntmps19
  go_wp2
  go_loopw [5] (fun i wr => ∃ k : Nat, k ≤ l.length ∧ i = .int .i64 k ∧ ∃ n, wr = w.drewN n) (fun i _ => l.length - (intOf i).toNat)
  case atStart => exact ⟨0, Nat.zero_le _, rfl, 0, rfl⟩
  case round =>
    obtain ⟨k, hk, rfl, n, rfl⟩ := hrel
    by_cases hlt : k < l.length
    · obtain ⟨b, off, rfl, hcell⟩ := hc k hlt
      obtain ⟨b', off', rfl, hcell'⟩ := hc' k hlt
      have hck := hcell k hlt
      have hck' := hcell' k hlt
      clear hcell hcell' hc hc'
      go_wp2
      go_quiet (fail)
      go_wp2
      go_roundw
      case rel => exact ⟨k + 1, by omega, by go_num, _, rfl⟩
      case measure => simp [intOf]; omega
    · have e : k = l.length := by omega
      subst e
      go_wp2
      go_ret
      exact ⟨rfl, rfl, rfl, rfl, Nat.le_refl _, fun _ _ => rfl⟩
end Go.Proofs.Ytfcmffdljfljkaa

/-
  Byte slices that the call itself owns; append tq them.
-/
namespace Go.Proofs.Ytfcmffdljfljkaa
open Go.RowKit
set_option linter.unusedVariables false

theorem infoU8 : (Try.prog.info? 5).map (fun i => (i.zero, i.size, i.bytes)) = some (some (.int .u8 0), 1, 1) := by kernel_rfl

/-- the slice value v, in memory from block B on that is the call's own, holds the bytes l -/
def Own (w : World) (B : Nat) (v : Value) (l : List Int) : Prop :=
  (∀ x ∈ l, 0 ≤ x ∧ x ≤ 255) ∧ w.ownsRow B 5 1 v l.length (l.map (Value.int .u8))

theorem Own.nil (w : World) (B : Nat) : Own w B (.slice none 0 0) [] := ⟨by simp, by simpa using World.ownsRow_nil w B 5 1⟩

theorem Own.shape {w : World} {B : Nat} {v : Value} {l : List Int} (h : Own w B v l) : ∃ a cap, v = .slice a l.length cap := by
  rcases h.2.2 with ⟨rfl, h0⟩ | ⟨g, cap, cur, rfl, _⟩
  · exact ⟨none, 0, by rw [h0]⟩
  · exact ⟨_, _, rfl⟩

theorem Own.shape' {w : World} {B : Nat} {v : Value} {l : List Int} (h : Own w B v l) (hl : 0 < l.length) : ∃ g cap, v = .slice (some ⟨g, 0, none⟩) l.length cap := by
  rcases h.2.2 with ⟨rfl, h0⟩ | ⟨g, cap, cur, rfl, _⟩
  · omega
  · exact ⟨_, _, rfl⟩

theorem Own.le {w : World} {B B' : Nat} {v : Value} {l : List Int} (h : Own w B v l) (hb : B' ≤ B) : Own w B' v l := by
  refine ⟨h.1, h.2.1, ?_⟩
  rcases h.2.2 with h | ⟨g, cap, cur, hv, hg, r⟩
  · exact .inl h
  · exact .inr ⟨g, cap, cur, hv, Nat.le_trans hb hg, r⟩

theorem heap_lt {w : World} {g : Nat} {o : Obj} (h : w.heap[g]? = some o) : g < w.heap.size := by
  rcases Nat.lt_or_ge g w.heap.size with h' | h'
  · exact h'
  · rw [Array.getElem?_eq_none h'] at h; cases h

theorem Own.below {w w' : World} {B : Nat} {v : Value} {l : List Int} (h : Own w B v l) (hb : Below w.heap.size w w') : Own w' B v l := by
  refine ⟨h.1, h.2.1, ?_⟩
  rcases h.2.2 with h | ⟨g, cap, cur, hv, hg, hh, r⟩
  · exact .inl h
  · exact .inr ⟨g, cap, cur, hv, hg, (hb.block g (heap_lt hh)).trans hh, r⟩

theorem Own.block {w w' : World} {B : Nat} {v : Value} {l : List Int} (h : Own w B v l) (hb : ∀ k, v.ownBlock = some k → w'.heap[k]? = w.heap[k]?) : Own w' B v l := by
  refine ⟨h.1, h.2.1, ?_⟩
  rcases h.2.2 with h | ⟨g, cap, cur, hv, hg, hh, r⟩
  · exact .inl h
  · subst hv
    exact .inr ⟨g, cap, cur, rfl, hg, (hb g rfl).trans hh, r⟩

theorem cell_add (b o j : Nat) : (⟨b, o, none⟩ : Addr).add j = ⟨b, o + j, none⟩ := by
  unfold Addr.add
  split
  · next h => subst h; rfl
  · rfl

theorem Own.bs {w : World} {B : Nat} {v : Value} {l : List Int} (h : Own w B v l) (hl : l.length ≤ maxLen) : Bs w v l := by
  obtain ⟨a, cap, rfl⟩ := h.shape
  refine ⟨hl, h.1, a, cap, rfl, fun i hi => ?_⟩
  obtain ⟨g, cap', e⟩ := h.shape' (by omega)
  simp only [Value.slice.injEq] at e
  obtain ⟨rfl, _, rfl⟩ := e
  refine ⟨g, 0, rfl, fun j hj => ?_⟩
  have := h.2.cellAt j (by omega)
  rw [Nat.zero_add, this]
  simp [hj]

theorem Own.lit (w : World) (l : List Int) (cs : Array Value) (hc : cs.toList = l.map (Value.int .u8)) (h8 : ∀ x ∈ l, 0 ≤ x ∧ x ≤ 255) (hl : l.length ≤ maxLen) :
    Own (w.alloc (.cells cs 5)) w.heap.size (.slice (some ⟨w.heap.size, 0, none⟩) l.length l.length) l := by
  have hs : cs.size = l.length := by rw [← Array.length_toList, hc, List.length_map]
  refine ⟨h8, by simp, .inr ⟨w.heap.size, l.length, cs, rfl, Nat.le_refl _, ?_, Nat.le_refl _, hl, by omega, ?_⟩⟩
  · show (w.heap.push _)[_]? = _
    simp
  · rw [hc, List.take_of_length_le (by simp)]

/-- w' is w but for v's own row and new blocks; the new value v' lies in v's row or in a new block -/
structure Grew (w : World) (v : Value) (w' : World) (v' : Value) : Prop where
  g : w.grownBy w' v.ownBlock
  at' : v'.ownBlock = v.ownBlock ∨ ∃ k, v'.ownBlock = some k ∧ w.heap.size ≤ k

theorem Grew.refl (w : World) (v : Value) : Grew w v w v := ⟨⟨rfl, rfl, rfl, Nat.le_refl _, fun _ _ _ => rfl⟩, .inl rfl⟩
theorem Grew.trans {w w1 w2 : World} {v v1 v2 : Value} (h : Grew w v w1 v1) (k : Grew w1 v1 w2 v2) : Grew w v w2 v2 := by
  have hs := h.g.size
  refine ⟨⟨k.g.os.trans h.g.os, k.g.tape.trans h.g.tape, k.g.output.trans h.g.output, Nat.le_trans h.g.size k.g.size, fun i hi hne => ?_⟩, ?_⟩
  · refine (k.g.block i (by omega) ?_).trans (h.g.block i hi hne)
    rcases h.at' with e | ⟨j, e, hj⟩
    · rw [e]; exact hne
    · rw [e]; intro he; injection he with he; omega
  · rcases k.at' with e | ⟨j, e, hj⟩
    · rw [e]; exact h.at'
    · exact .inr ⟨j, e, by omega⟩
theorem Grew.alloc {w w' : World} {v v' : Value} (h : Grew w v w' v') (o : Obj) : Grew w v (w'.alloc o) v' :=
  h.trans ⟨World.grownBy_alloc _ _ _, .inl rfl⟩
theorem Grew.below {B : Nat} {w w' : World} {v v' : Value} {l : List Int} (h : Grew w v w' v') (hown : Own w B v l) (hB : B ≤ w.heap.size) : Below B w w' :=
  (Below.refl _ _).grown h.g hB (fun k hk => (hown.2.lt k hk).1)
/-- a block that is not v's own stays -/
theorem Grew.block {w w' : World} {v v' : Value} (h : Grew w v w' v') {k : Nat} (hk : k < w.heap.size) (hne : v.ownBlock ≠ some k) : w'.heap[k]? = w.heap[k]? := h.g.block k hk (fun e => hne e.symm)
theorem Grew.far {w w' : World} {v v' : Value} (h : Grew w v w' v') {k : Nat} (hk : k < w.heap.size) (hne : v.ownBlock ≠ some k) : v'.ownBlock ≠ some k := by
  rcases h.at' with e | ⟨j, e, hj⟩
  · rw [e]; exact hne
  · rw [e]; intro he; injection he with he; omega
theorem Grew.cell {w w' : World} {v v' : Value} (h : Grew w v w' v') {k o : Nat} (hk : k < w.heap.size) (hne : v.ownBlock ≠ some k) : w'.cell? ⟨k, o, none⟩ = w.cell? ⟨k, o, none⟩ := World.cell?_of_block (w := w) (h.block hk hne)
theorem Grew.of_below {w w' : World} {v : Value} (h : Below w.heap.size w w') : Grew w v w' v := ⟨⟨h.os, h.tape, h.output, h.size, fun k hk _ => h.block k hk⟩, .inl rfl⟩

set_option maxRecDepth 100000 in
theorem wpl_append {w : World} {ops : Array Oper} {rest : List Oper} {o : Oper} {a : Act} {Q : Exit → Act → World → Prop} (hgd : o.guard = none) (s x : Operand)
    (ho : o.op = .call { callee := .builtin .append, args := #[s, x], argTypes := #[35, 35] })
    {B : Nat} {v u : Value} {l l2 : List Int} (hown : Own w B v l) (hs : a.eval s = v) (hu : Bs w u l2) (hx : a.eval x = u) (hne : 0 < l2.length) (hlen : l.length + l2.length ≤ 1073741824) (hB : B ≤ w.heap.size)
    (h : ∀ v' w', Own w' B v' (l ++ l2) → Grew w v w' v' → wpList Try.prog ops Q rest (a.put o.dst v') w') : wpList Try.prog ops Q (o :: rest) a w := by
  obtain ⟨i0, hi, hz0, hz1, hz2⟩ := info_parts infoU8
  obtain ⟨_, h8, au, cu, rfl, hc⟩ := hu
  obtain ⟨b, off, rfl, hcell⟩ := hc 0 hne
  refine wpList_append_own_at w hgd s x 35 ho B 5 i0 (.int .u8 0) 1 1 Try.underlying35 hi hz0 hz1 hz2 rfl (by decide) v l.length _ hs hown.2 ⟨b, off, none⟩ l2.length cu (l2.map (Value.int .u8)) hx (by simp) ?_ ?_ (by unfold maxLen; omega) (by omega) hB ?_
  · intro j u hj
    rw [cell_add]
    rw [List.getElem?_map] at hj
    cases hk : l2[j]? with
    | none => rw [hk] at hj; cases hj
    | some y =>
      rw [hk] at hj
      have hjl : j < l2.length := by
        rcases Nat.lt_or_ge j l2.length with h' | h'
        · exact h'
        · rw [List.getElem?_eq_none h'] at hk; cases hk
      rw [hcell j hjl, hk]
      exact hj
  · intro u hu
    simp only [List.mem_map] at hu
    obtain ⟨y, _, rfl⟩ := hu
    rfl
  · intro v' w' h2 h3 _ h5
    refine h v' w' ⟨fun y hy => ?_, by simpa using h2⟩ ⟨h3, h5.imp id fun e => ⟨_, e, Nat.le_refl _⟩⟩
    rcases List.mem_append.1 hy with hy | hy
    · exact hown.1 y hy
    · exact h8 y hy

/-- the bytes of a string -/
def strL (s : ByteArray) : List Int := s.data.toList.map fun c => (c.toNat : Int)
theorem strL_len (s : ByteArray) : (strL s).length = s.size := by simp [strL]
theorem strL_byte (s : ByteArray) : ∀ x ∈ strL s, 0 ≤ x ∧ x ≤ 255 := by
  intro x hx
  simp only [strL, List.mem_map] at hx
  obtain ⟨c, _, rfl⟩ := hx
  have := c.toNat_lt
  omega

set_option maxRecDepth 100000 in
theorem wpl_append_str {w : World} {ops : Array Oper} {rest : List Oper} {o : Oper} {a : Act} {Q : Exit → Act → World → Prop} (hgd : o.guard = none) (sl x : Operand)
    (ho : o.op = .call { callee := .builtin .append, args := #[sl, x], argTypes := #[35, 9] })
    {B : Nat} {v : Value} {l : List Int} {t : ByteArray} (hown : Own w B v l) (hpos : 0 < l.length) (hs : a.eval sl = v) (hx : a.eval x = .string t) (hlen : l.length + t.size ≤ 1073741824) (hB : B ≤ w.heap.size)
    (h : ∀ v' w', Own w' B v' (l ++ strL t) → Grew w v w' v' → wpList Try.prog ops Q rest (a.put o.dst v') w') : wpList Try.prog ops Q (o :: rest) a w := by
  obtain ⟨i0, hi, hz0, hz1, hz2⟩ := info_parts infoU8
  refine wpList_plain hgd fun K hK => ?_
  obtain ⟨v', w', hr, h2, h3, h4⟩ := Lib.run_append_own_string (P := Try.prog) w B 35 9 o.type 5 i0 Try.underlying35 Try.underlying9 hi hz0 hz1 hz2 v l.length _ hown.2 t (by unfold maxLen; omega) (by omega) hB
  have hat : v'.ownBlock = v.ownBlock ∨ ∃ k, v'.ownBlock = some k ∧ w.heap.size ≤ k := by
    rcases hown.2.2 with ⟨_, h0⟩ | ⟨g, cap, cur, rfl, hbg, hg, hnc, hcm, hcs, htake⟩
    · omega
    · have hcs' : cur.size = cap := by simpa using hcs
      by_cases hroom : l.length + t.size ≤ cap
      · have hr2 := Lib.run_append_room_string (P := Try.prog) w 35 9 o.type 5 i0 Try.underlying35 Try.underlying9 hi hz1 g l.length cap cur hg t hroom (by omega)
        rw [hr2] at hr
        injection hr with e1 e2
        rw [← e1]
        exact .inl rfl
      · have holds := hown.2.cells (g := g) rfl
        have hr2 := Lib.run_append_grow_string (P := Try.prog) w 35 9 o.type 5 i0 (.int .u8 0) Try.underlying35 Try.underlying9 hi hz0 ⟨g, 0, none⟩ l.length cap (l.map (Value.int .u8)) (by rw [hz1]; simp) holds t (by omega) (by omega) (by rw [hz2]; exact growslice_fits (by omega) (by omega))
        rw [hr2] at hr
        injection hr with e1 e2
        rw [← e1]
        exact .inr ⟨_, rfl, Nat.le_refl _⟩
  unfold Oper.wp execOp
  simp only [ho, resolve, invoke, builtin, Sem.run_bind, Sem.run_pure, Result.andThen_ok, List.map_toArray, List.map_cons, List.map_nil, hs, hx, hr]
  refine hK _ _ (h v' w' ⟨fun y hy => ?_, ?_⟩ ⟨h3, hat⟩)
  · rcases List.mem_append.1 hy with hy | hy
    · exact hown.1 y hy
    · exact strL_byte t y hy
  · have e : (l ++ strL t).map (Value.int .u8) = l.map (Value.int .u8) ++ Lib.strCells t := by
      rw [List.map_append]
      congr 1
      simp [strL, Lib.strCells]
    rw [e, List.length_append, strL_len]
    exact h2
end Go.Proofs.Ytfcmffdljfljkaa

/-
  A byte set in a row of one's own.
-/
namespace Go.Proofs.Ytfcmffdljfljkaa
open Go.RowKit
set_option linter.unusedVariables false
set_option linter.unusedSimpArgs false

theorem Own.store {w : World} {B g cap : Nat} {l : List Int} (h : Own w B (.slice (some ⟨g, 0, none⟩) l.length cap) l) (j : Nat) (x : Int) (h8 : 0 ≤ x ∧ x ≤ 255) :
    Own (w.setCell ⟨g, j, none⟩ (.int .u8 x)) B (.slice (some ⟨g, 0, none⟩) l.length cap) (l.set j x) := by
  refine ⟨fun y hy => ?_, ?_⟩
  · rcases List.mem_or_eq_of_mem_set hy with hy | rfl
    · exact h.1 y hy
    · exact h8
  · have := (h.2.stored j (.int .u8 x)).1
    simpa [List.map_set] using this
end Go.Proofs.Ytfcmffdljfljkaa

/-
  Calls that turn one span of blocks alone.
-/
namespace Go.Proofs.Ytfcmffdljfljkaa
open Go.RowKit
set_option linter.unusedVariables false

theorem grown_set (w : World) (g j : Nat) (x : Value) (row : Option Nat) (hr : row = some g) : w.grownBy (w.setCell ⟨g, j, none⟩ x) row :=
  ⟨rfl, rfl, rfl, by simp [World.setCell], fun k _ hk => Below.heap_setCell _ _ _ _ (fun e => hk (by rw [hr, e]))⟩
theorem grown_trans {w w1 w2 : World} {row : Option Nat} (h : w.grownBy w1 row) (k : w1.grownBy w2 row) : w.grownBy w2 row :=
  ⟨k.os.trans h.os, k.tape.trans h.tape, k.output.trans h.output, Nat.le_trans h.size k.size, fun i hi hne => (k.block i (Nat.lt_of_lt_of_le hi h.size) hne).trans (h.block i hi hne)⟩
/-- of the blocks that were there, only those of the span [lo, hi) have turned -/
structure Turned (lo hi : Nat) (w w' : World) : Prop where
  os : w'.os = w.os
  tape : w'.tape = w.tape
  output : w'.output = w.output
  size : w.heap.size ≤ w'.heap.size
  block : ∀ k, k < w.heap.size → (k < lo ∨ hi ≤ k) → w'.heap[k]? = w.heap[k]?
theorem Turned.grown {w w' : World} {q lo hi : Nat} (h : w.grownBy w' (some q)) (h1 : lo ≤ q) (h2 : q < hi) : Turned lo hi w w' :=
  ⟨h.os, h.tape, h.output, h.size, fun k hk hn => h.block k hk (fun e => by injection e with e; omega)⟩
theorem Turned.rows {w w' : World} {row : Option Nat} {lo hi : Nat} (h : w.grownBy w' row) (h1 : ∀ k, row = some k → lo ≤ k ∧ k < hi) : Turned lo hi w w' :=
  ⟨h.os, h.tape, h.output, h.size, fun k hk hn => h.block k hk (fun e => by have := h1 k e.symm; omega)⟩
theorem Turned.of_below {w w' : World} (lo hi : Nat) (h : Below w.heap.size w w') : Turned lo hi w w' := ⟨h.os, h.tape, h.output, h.size, fun k hk _ => h.block k hk⟩
theorem Turned.trans {w w1 w2 : World} {lo hi : Nat} (h : Turned lo hi w w1) (k : Turned lo hi w1 w2) : Turned lo hi w w2 :=
  ⟨k.os.trans h.os, k.tape.trans h.tape, k.output.trans h.output, Nat.le_trans h.size k.size, fun i hi' hn => (k.block i (Nat.lt_of_lt_of_le hi' h.size) hn).trans (h.block i hi' hn)⟩
theorem Turned.wide {w w' : World} {lo hi lo' hi' : Nat} (h : Turned lo hi w w') (h1 : lo' ≤ lo) (h2 : hi ≤ hi') : Turned lo' hi' w w' :=
  ⟨h.os, h.tape, h.output, h.size, fun k hk hn => h.block k hk (by omega)⟩
theorem Turned.cell {w w' : World} {lo hi : Nat} (h : Turned lo hi w w') {b o : Nat} (hb : b < w.heap.size) (hn : b < lo ∨ hi ≤ b) : w'.cell? ⟨b, o, none⟩ = w.cell? ⟨b, o, none⟩ :=
  World.cell?_of_block (w := w) (h.block b hb hn)
theorem Turned.below {w w' : World} {lo hi B : Nat} (h : Turned lo hi w w') (hB : B ≤ lo) (hs : B ≤ w.heap.size) : Below B w w' :=
  ⟨h.os, h.tape, h.output, h.size, fun k hk => h.block k (by omega) (by omega)⟩
end Go.Proofs.Ytfcmffdljfljkaa

/-
  laws.markByteS, laws.heldByteS.
-/
namespace Go.Proofs.Ytfcmffdljfljkaa
open Go.RowKit
set_option linter.unusedVariables false

/-- the marks that markByteS writes -/
def marksL (k n : Nat) : List Int := (List.range n).map fun i => (((k + i) % 256 : Nat) : Int)
theorem marksL_len (k n : Nat) : (marksL k n).length = n := by simp [marksL]
theorem marksL_byte (k n : Nat) : ∀ x ∈ marksL k n, 0 ≤ x ∧ x ≤ 255 := by
  intro x hx
  simp only [marksL, List.mem_map] at hx
  obtain ⟨i, _, rfl⟩ := hx
  omega
theorem marksL_get (k n j : Nat) (h : j < n) : (marksL k n)[j]?.getD 0 = (((k + j) % 256 : Nat) : Int) := by
  simp [marksL, h]
theorem marks_step (k : Nat) (l : List Int) (j : Nat) (h : j < l.length) : (marksL k j ++ l.drop j).set j (((k + j) % 256 : Nat) : Int) = marksL k (j + 1) ++ l.drop (j + 1) := by
  have e : marksL k (j + 1) = marksL k j ++ [(((k + j) % 256 : Nat) : Int)] := by simp [marksL, List.range_succ]
  rw [e, List.set_append_right _ _ (by rw [marksL_len]; exact Nat.le_refl _), marksL_len, Nat.sub_self, List.drop_eq_getElem_cons h, List.set_cons_zero]
  simp

set_option maxHeartbeats 1000000 in
set_option maxRecDepth 100000 in
theorem markByteS_any (v : Value) (l : List Int) (k0 : Nat) (w : World) (B : Nat) (hv : Own w B v l) (hl : l.length ≤ 20000000) (hk0 : k0 ≤ 20000000) :
    Calls Try.prog 20 #[v, .int .i64 k0] w fun e w' => e = .returned (.int .i64 ((k0 + l.length : Nat) : Int)) ∧ Own w' B v (marksL k0 l.length) ∧ w.grownBy w' v.ownBlock := by
  obtain ⟨a, cap, rfl⟩ := hv.shape
  have hV : Hid (Own w B (.slice a l.length cap) l) := hv
  clear hv
  go_enter Try.func20, Try.ntmps20
  go_wp2
  go_loopw [1, 5] (fun c i wr => ∃ j : Nat, j ≤ l.length ∧ i = .int .i64 j ∧ c = .int .i64 ((k0 + j : Nat) : Int) ∧ Own wr B (.slice a l.length cap) (marksL k0 j ++ l.drop j) ∧ w.grownBy wr (Value.slice a l.length cap).ownBlock) (fun _ i _ => l.length - (intOf i).toNat)
  case atStart => exact ⟨0, Nat.zero_le _, rfl, by simp, by simpa [marksL] using hV.out, ⟨rfl, rfl, rfl, Nat.le_refl _, fun _ _ _ => rfl⟩⟩
  case round =>
    obtain ⟨j, hj, rfl, rfl, ho, hg⟩ := hrel
    have hlen : (marksL k0 j ++ l.drop j).length = l.length := by simp [marksL_len]; omega
    by_cases hlt : j < l.length
    · obtain ⟨g, cap', e⟩ := hV.out.shape' (by omega)
      simp only [Value.slice.injEq] at e
      obtain ⟨rfl, _, rfl⟩ := e
      have ho' : Own wr B (.slice (some ⟨g, 0, none⟩) (marksL k0 j ++ l.drop j).length cap) (marksL k0 j ++ l.drop j) := by rw [hlen]; exact ho
      have hst := ho'.store j (((k0 + j) % 256 : Nat) : Int) (by omega)
      rw [marks_step k0 l j hlt, hlen] at hst
      have HS : Hid (Own (wr.setCell ⟨g, j, none⟩ (.int .u8 (((k0 + j) % 256 : Nat) : Int))) B (.slice (some ⟨g, 0, none⟩) l.length cap) (marksL k0 (j + 1) ++ l.drop (j + 1))) := hst
      have hf := ho'.2.frozenAt j
      have hcell := ho'.2.cellAt j (by omega)
      obtain ⟨y, hy⟩ : ∃ y, wr.cell? ⟨g, j, none⟩ = some y := by
        rw [hcell]
        exact ⟨_, List.getElem?_eq_getElem (by rw [List.length_map]; omega)⟩
      have HG : Hid (w.grownBy wr (some g)) := hg
      clear hst hcell ho' ho hg hlen
      go_wp2
      go_roundw
      case rel => exact ⟨j + 1, by omega, by go_num, by go_num, by simpa using HS.out, grown_trans HG.out (grown_set _ _ _ _ _ rfl)⟩
      case measure => simp [intOf]; omega
    · have e : j = l.length := by omega
      subst e
      rw [List.drop_length, List.append_nil] at ho
      go_wp2
      go_ret
      exact ⟨rfl, ho, hg⟩

set_option maxHeartbeats 1000000 in
theorem heldByteS_any (v : Value) (k0 n : Nat) (w : World) (hv : Bs w v (marksL k0 n)) (hn : n ≤ 20000000) (hk0 : k0 ≤ 20000000) :
    Calls Try.prog 29 #[v, .int .i64 k0] w fun e w' => e = .returned (.int .i64 ((k0 + n : Nat) : Int)) ∧ w' = w := by
  obtain ⟨hl, h8, a, cap, rfl, hc⟩ := hv
  rw [marksL_len] at hc ⊢
  go_enter Try.func29, Try.ntmps29
  go_wp2
  go_loop [1, 5] (fun c i => ∃ j : Nat, j ≤ n ∧ i = .int .i64 j ∧ c = .int .i64 ((k0 + j : Nat) : Int)) (fun _ i => n - (intOf i).toNat)
  case atStart => exact ⟨0, Nat.zero_le _, rfl, by simp⟩
  case round =>
    obtain ⟨j, hj, rfl, rfl⟩ := hrel
    by_cases hlt : j < n
    · obtain ⟨b, off, rfl, hcell⟩ := hc j hlt
      have hcj := hcell j hlt
      rw [marksL_get k0 n j hlt] at hcj
      clear hcell hc
      go_wp2
      go_round
      case rel => exact ⟨j + 1, by omega, by go_num, by go_num⟩
      case measure => simp [intOf]; omega
    · have e : j = n := by omega
      subst e
      go_wp2
      go_ret
      exact ⟨rfl, rfl⟩

/-- a slice of the call's own stays where only rows from B1 on were written -/
theorem Own.far {w w' : World} {B B1 : Nat} {v : Value} {l : List Int} (h : Own w B v l) (hb : Below B1 w w') (hlt : ∀ k, v.ownBlock = some k → k < B1) : Own w' B v l := by
  refine ⟨h.1, h.2.1, ?_⟩
  rcases h.2.2 with h | ⟨g, cap, cur, hv, hg, hh, r⟩
  · exact .inl h
  · exact .inr ⟨g, cap, cur, hv, hg, (hb.block g (hlt g (by rw [hv]; rfl))).trans hh, r⟩
theorem Own.marked {w w' : World} {B : Nat} {v : Value} {l : List Int} (h : Own w B v l) (hg : w.grownBy w' v.ownBlock) (hB : B ≤ w.heap.size) : Below B w w' :=
  (Below.refl _ _).grown hg hB (fun k hk => (h.2.lt k hk).1)
end Go.Proofs.Ytfcmffdljfljkaa

/-
  What a law's walk carries: objects that lie in a span of blocks, and calls that turn one span alone.
-/
namespace Go.Proofs.Ytfcmffdljfljkaa
open Go.RowKit
set_option linter.unusedVariables false

/-- bytes of one's own in the span [lo, hi) -/
structure BytesN (lo hi : Nat) (w : World) (v : Value) (l : List Int) : Prop where
  own : Own w lo v l
  lt : ∀ k, v.ownBlock = some k → lo ≤ k ∧ k < hi
theorem BytesN.of {w : World} {lo : Nat} {v : Value} {l : List Int} (h : Own w lo v l) : BytesN lo w.heap.size w v l := ⟨h, fun k e => h.2.lt k e⟩
theorem BytesN.keep {w w' : World} {lo hi : Nat} {v : Value} {l : List Int} (h : BytesN lo hi w v l) (hk : ∀ k, lo ≤ k → k < hi → w'.heap[k]? = w.heap[k]?) : BytesN lo hi w' v l := by
  refine ⟨⟨h.own.1, h.own.2.1, ?_⟩, h.lt⟩
  rcases h.own.2.2 with h' | ⟨g, cap, cur, hv, hg', hh, r⟩
  · exact .inl h'
  · have hl := h.lt g (by rw [hv]; rfl)
    exact .inr ⟨g, cap, cur, hv, hg', (hk g hl.1 hl.2).trans hh, r⟩
theorem BytesN.bs {w : World} {lo hi : Nat} {v : Value} {l : List Int} (h : BytesN lo hi w v l) (hl : l.length ≤ maxLen) : Bs w v l := h.own.bs hl
theorem BytesN.wide {w : World} {lo hi lo' hi' : Nat} {v : Value} {l : List Int} (h : BytesN lo hi w v l) (h1 : lo' ≤ lo) (h2 : hi ≤ hi') : BytesN lo' hi' w v l :=
  ⟨h.own.le h1, fun k e => by have := h.lt k e; omega⟩
end Go.Proofs.Ytfcmffdljfljkaa

/-
  Rows of structs: what a slice of structs holds; room in a row.
-/
namespace Go.Proofs.Ytfcmffdljfljkaa
open Go.RowKit
set_option linter.unusedVariables false

/-! ### slices of structs, whatever the struct -/
theorem range_below {w w' : World} {b o : Nat} {cs : List Value} (h : w.rangeAt b o cs) (hb : Below w.heap.size w w') : w'.rangeAt b o cs := fun j v hj => (hb.cell (cell_lt (h j v hj))).trans (h j v hj)

/-- the slice value v holds, in the world w, the structs l, of m cells each -/
def Sl {α : Type} (cs : α → List Value) (m : Nat) (w : World) (v : Value) (l : List α) : Prop :=
  l.length ≤ maxLen ∧ ∃ a cap, v = .slice a l.length cap ∧ ∀ i, i < l.length → ∃ b off, a = some ⟨b, off, none⟩ ∧ ∀ j (h : j < l.length), w.rangeAt b (off + j * m) (cs l[j])

theorem Sl.below {α : Type} {cs : α → List Value} {m : Nat} {w w' : World} {v : Value} {l : List α} (h : Sl cs m w v l) (hb : Below w.heap.size w w') : Sl cs m w' v l := by
  obtain ⟨hl, a, cap, rfl, hc⟩ := h
  refine ⟨hl, a, cap, rfl, fun i hi => ?_⟩
  obtain ⟨b, off, rfl, hj⟩ := hc i hi
  exact ⟨b, off, rfl, fun j hj' => range_below (hj j hj') hb⟩

theorem there_below {w w' : World} {b o n : Nat} (h : w.there b o n) (hb : Below w.heap.size w w') (hlt : b < w.heap.size) : w'.there b o n := fun j hj => by
  rw [hb.cell (p := ⟨b, o + j, none⟩) hlt, hb.frozen (p := ⟨b, o + j, none⟩) hlt]; exact h j hj

theorem range_new' (w : World) (cs : List Value) (t : TypeId) : (w.alloc (.cells cs.toArray t)).rangeAt w.heap.size 0 cs := by
  intro j v hj
  rw [Nat.zero_add, World.cell?_alloc_new]
  simpa using hj
theorem there_new' (w : World) (cs : Array Value) (t : TypeId) : (w.alloc (.cells cs t)).there w.heap.size 0 cs.size := fun j hj => by
  refine ⟨?_, by simp⟩
  rw [Nat.zero_add, World.cell?_alloc_new, Array.getElem?_eq_getElem hj]; rfl
theorem below_setCells' {B g : Nat} {w0 : World} (hg : B ≤ g) : ∀ (vs : List Value) (o : Nat) (w : World), Below B w0 w → Below B w0 (w.setCells g o vs)
  | [], _, _, h => h
  | v :: vs, o, w, h => below_setCells' hg vs (o + 1) _ (h.setCell (show B ≤ (⟨g, o, none⟩ : Addr).block from hg) v)
theorem size_setCells' {g : Nat} : ∀ (vs : List Value) (o : Nat) (w : World), (w.setCells g o vs).heap.size = w.heap.size
  | [], _, _ => rfl
  | v :: vs, o, w => (size_setCells' vs (o + 1) _).trans (by simp [World.setCell])
theorem there_sub {w : World} {b n : Nat} (h : w.there b 0 n) (o k : Nat) (hk : o + k ≤ n) : w.there b o k := fun j hj => by
  have := h (o + j) (by omega)
  rwa [Nat.zero_add] at this

/-- what has been copied after k rounds -/
structure CopiedG {α : Type} (cs : α → List Value) (m : Nat) (w wr : World) (l : List α) (k : Nat) : Prop where
  below : Below w.heap.size w wr
  size : w.heap.size < wr.heap.size
  there : wr.there w.heap.size 0 (l.length * m)
  rows : ∀ j (h : j < l.length), j < k → wr.rangeAt w.heap.size (j * m) (cs l[j])

theorem CopiedG.start {α : Type} (cs : α → List Value) (m : Nat) (w : World) (l : List α) (z : Array Value) (t : TypeId) : CopiedG cs m w (w.alloc (.cells (madeCells z (l.length * m)) t)) l 0 :=
  ⟨(Below.refl _ _).alloc (Nat.le_refl _) _, by simp, by have h := there_new' w (madeCells z (l.length * m)) t; rwa [size_madeCells] at h, fun j _ h => absurd h (by omega)⟩
theorem CopiedG.later {α : Type} {cs : α → List Value} {m : Nat} {w wr w1 : World} {l : List α} {k : Nat} (h : CopiedG cs m w wr l k) (hb : Below wr.heap.size wr w1) : CopiedG cs m w w1 l k :=
  ⟨h.below.trans (hb.mono (Nat.le_of_lt h.size)), Nat.lt_of_lt_of_le h.size hb.size, fun j hj => by
    rw [hb.cell (p := ⟨w.heap.size, 0 + j, none⟩) h.size, hb.frozen (p := ⟨w.heap.size, 0 + j, none⟩) h.size]; exact h.there j hj, fun j hj hjk => range_below (h.rows j hj hjk) hb⟩
theorem row_le {j k n m : Nat} (h : j < k) (hk : k ≤ n) : j * m + m ≤ n * m := by
  have := Nat.mul_le_mul_right m (show j + 1 ≤ n by omega)
  rwa [Nat.succ_mul] at this
theorem CopiedG.step {α : Type} {cs : α → List Value} {m : Nat} {w wr : World} {l : List α} {k : Nat} (h : CopiedG cs m w wr l k) (hk : k < l.length) (hm : ∀ a, (cs a).length = m) :
    CopiedG cs m w (wr.setCells w.heap.size (k * m) (cs l[k])) l (k + 1) := by
  refine ⟨below_setCells' (Nat.le_refl _) _ _ _ h.below, by rw [size_setCells']; exact h.size, World.there_setCells h.there _ _ _, fun j hj hjk => ?_⟩
  by_cases e : j = k
  · subst e
    exact World.rangeAt_setCells_same _ _ _ _ (there_sub h.there _ _ (by rw [hm]; exact row_le hk (Nat.le_refl _)))
  · exact World.rangeAt_setCells_apart (h.rows j hj (by omega)) _ _ _ (.inr (.inl (by rw [hm]; exact row_le (show j < k by omega) (Nat.le_refl _))))
theorem CopiedG.sl {α : Type} {cs : α → List Value} {m : Nat} {w wr : World} {l : List α} (h : CopiedG cs m w wr l l.length) (hl : l.length ≤ maxLen) : Sl cs m wr (.slice (some ⟨w.heap.size, 0, none⟩) l.length l.length) l :=
  ⟨hl, _, _, rfl, fun i hi => ⟨_, _, rfl, fun j hj => by rw [Nat.zero_add]; exact h.rows j hj hj⟩⟩

theorem there_set' {w : World} {b n : Nat} (h : w.there b 0 n) (b' j : Nat) (x : Value) : (w.setCell ⟨b', j, none⟩ x).there b 0 n := World.there_setCells h b' j [x]
theorem there_get' {w : World} {b n : Nat} (h : w.there b 0 n) (i : Nat) (hi : i < n) : ∃ y, w.cell? ⟨b, i, none⟩ = some y := by
  have := (h i hi).1
  rw [Nat.zero_add] at this
  exact Option.isSome_iff_exists.1 this
theorem there_free' {w : World} {b n : Nat} (h : w.there b 0 n) (i : Nat) (hi : i < n) : w.frozen? ⟨b, i, none⟩ = false := by
  have := (h i hi).2
  rwa [Nat.zero_add] at this
theorem there_block' {w w' : World} {b o n : Nat} (h : w.there b o n) (hb : w'.heap[b]? = w.heap[b]?) : w'.there b o n := fun j hj => by
  obtain ⟨h1, h2⟩ := h j hj
  refine ⟨?_, ?_⟩
  · rw [World.cell?_of_block (w := w) hb]; exact h1
  · simpa [World.frozen?, hb] using h2

end Go.Proofs.Ytfcmffdljfljkaa

/-
  Packets: what a slice of packets holds; packets in memory of one's own, the bytes of each in a block of its own; append tq them.
-/
namespace Go.Proofs.Ytfcmffdljfljkaa
open Go.RowKit
set_option linter.unusedVariables false
set_option linter.unusedSimpArgs false

/-- a packet -/
structure Pkt where
  id : Int
  fr : Int
  tq : Int
  bs : List Int
/-- a packet and the slice value of its bytes -/
abbrev Pk := Pkt × Value

def pkC (p : Pk) : List Value := [.int .i64 p.1.id, .int .i64 p.1.fr, .int .i64 p.1.tq, p.2]
def pksC : List Pk → List Value
  | [] => []
  | p :: l => pkC p ++ pksC l
theorem pksC_app (l k : List Pk) : pksC (l ++ k) = pksC l ++ pksC k := by
  induction l with
  | nil => rfl
  | cons e l ih => rw [List.cons_append, pksC, ih, pksC, List.append_assoc]
theorem pksC_len (l : List Pk) : (pksC l).length = l.length * 4 := by
  induction l with
  | nil => rfl
  | cons e l ih => rw [pksC, List.length_append, ih, List.length_cons]; simp [pkC]; omega
theorem pksC_get (l : List Pk) : ∀ (j : Nat) (h : j < l.length) (i : Nat), i < 4 → (pksC l)[j * 4 + i]? = (pkC l[j])[i]? := by
  induction l with
  | nil => intro j h; simp at h
  | cons e l ih =>
    intro j h i hi
    have h4 : (pkC e).length = 4 := rfl
    cases j with
    | zero => rw [pksC, List.getElem?_append_left (by rw [h4]; omega)]; simp
    | succ j =>
      rw [pksC, List.getElem?_append_right (by rw [h4]; omega), h4, show (j + 1) * 4 + i - 4 = j * 4 + i by omega, ih j (by simpa using h) i hi]
      simp

/-- the four cells of a packet -/
def PkAt (w : World) (b off : Nat) (p : Pk) : Prop :=
  w.cell? ⟨b, off, none⟩ = some (.int .i64 p.1.id) ∧ w.cell? ⟨b, off + 1, none⟩ = some (.int .i64 p.1.fr) ∧ w.cell? ⟨b, off + 2, none⟩ = some (.int .i64 p.1.tq) ∧ w.cell? ⟨b, off + 3, none⟩ = some p.2
theorem PkAt.below {w w' : World} {b off : Nat} {p : Pk} (h : PkAt w b off p) (hb : Below w.heap.size w w') : PkAt w' b off p := by
  obtain ⟨h0, h1, h2, h3⟩ := h
  have hl := cell_lt h0
  exact ⟨(hb.cell hl).trans h0, (hb.cell hl).trans h1, (hb.cell hl).trans h2, (hb.cell hl).trans h3⟩
theorem PkAt.block {w w' : World} {b off : Nat} {p : Pk} (h : PkAt w b off p) (hb : w'.heap[b]? = w.heap[b]?) : PkAt w' b off p := by
  obtain ⟨h0, h1, h2, h3⟩ := h
  have c : ∀ o, w'.cell? ⟨b, o, none⟩ = w.cell? ⟨b, o, none⟩ := fun o => World.cell?_of_block (w := w) hb
  exact ⟨(c _).trans h0, (c _).trans h1, (c _).trans h2, (c _).trans h3⟩

/-- the slice value v holds the packets l -/
def Pks (w : World) (v : Value) (l : List Pk) : Prop :=
  l.length ≤ maxLen ∧ (∀ p ∈ l, Bs w p.2 p.1.bs) ∧
  ∃ a cap, v = .slice a l.length cap ∧ ∀ i, i < l.length → ∃ b off, a = some ⟨b, off, none⟩ ∧ ∀ j (h : j < l.length), PkAt w b (off + j * 4) l[j]
theorem Pks.below {w w' : World} {v : Value} {l : List Pk} (h : Pks w v l) (hb : Below w.heap.size w w') : Pks w' v l := by
  obtain ⟨hl, hf, a, cap, rfl, hc⟩ := h
  refine ⟨hl, fun p hp => (hf p hp).below hb, a, cap, rfl, fun i hi => ?_⟩
  obtain ⟨b, off, rfl, hj⟩ := hc i hi
  exact ⟨b, off, rfl, fun j hj' => (hj j hj').below hb⟩

/-- no block of two -/
def Far (x y : Value) : Prop := ∀ k, x.ownBlock = some k → y.ownBlock ≠ some k

theorem lt_keepP {w w' : World} {q : Nat} (hb : w'.heap[q]? = w.heap[q]?) (h : q < w.heap.size) : q < w'.heap.size := by
  rcases Nat.lt_or_ge q w'.heap.size with h' | h'
  · exact h'
  · rw [Array.getElem?_eq_none h', Array.getElem?_eq_getElem h] at hb
    cases hb

/-- packets of one's own in the span [lo, hi), their bytes each in a block of its own -/
structure PksR (lo hi : Nat) (w : World) (v : Value) (l : List Pk) : Prop where
  len : l.length ≤ maxLen
  sh : ∃ a cap, v = .slice a l.length cap
  row : 0 < l.length → ∃ q cap, v = .slice (some ⟨q, 0, none⟩) l.length cap ∧ lo ≤ q ∧ q < hi ∧ q < w.heap.size ∧ w.there q 0 (l.length * 4) ∧ (∀ j (h : j < l.length), PkAt w q (j * 4) l[j]) ∧ ∀ p ∈ l, p.2.ownBlock ≠ some q
  bytes : ∀ p ∈ l, BytesN lo hi w p.2 p.1.bs ∧ p.1.bs.length ≤ maxLen
  apart : l.Pairwise fun x y => Far x.2 y.2
theorem PksR.keep {w w' : World} {lo hi : Nat} {v : Value} {l : List Pk} (h : PksR lo hi w v l) (hk : ∀ k, lo ≤ k → k < hi → w'.heap[k]? = w.heap[k]?) : PksR lo hi w' v l := by
  refine ⟨h.len, h.sh, fun h0 => ?_, fun p hp => ⟨(h.bytes p hp).1.keep hk, (h.bytes p hp).2⟩, h.apart⟩
  obtain ⟨q, cap, e, h1, h2, h3, h4, h5, h6⟩ := h.row h0
  have hb := hk q h1 h2
  exact ⟨q, cap, e, h1, h2, lt_keepP hb h3, there_block' h4 hb, fun j hj => (h5 j hj).block hb, h6⟩
theorem PksR.wide {w : World} {lo hi lo' hi' : Nat} {v : Value} {l : List Pk} (h : PksR lo hi w v l) (h1 : lo' ≤ lo) (h2 : hi ≤ hi') : PksR lo' hi' w v l := by
  refine ⟨h.len, h.sh, fun h0 => ?_, fun p hp => ⟨(h.bytes p hp).1.wide h1 h2, (h.bytes p hp).2⟩, h.apart⟩
  obtain ⟨q, cap, e, g1, g2, r⟩ := h.row h0
  exact ⟨q, cap, e, by omega, by omega, r⟩
theorem PksR.pks {w : World} {lo hi : Nat} {v : Value} {l : List Pk} (h : PksR lo hi w v l) : Pks w v l := by
  refine ⟨h.len, fun p hp => (h.bytes p hp).1.bs (h.bytes p hp).2, ?_⟩
  obtain ⟨a, cap, e⟩ := h.sh
  refine ⟨a, cap, e, fun i hi => ?_⟩
  obtain ⟨q, cap', e', g1, g2, g3, g4, g5, _⟩ := h.row (by omega)
  rw [e] at e'
  injection e' with e1 _ _
  exact ⟨q, 0, e1, fun j hj => by rw [Nat.zero_add]; exact g5 j hj⟩

/-- packets of one's own from block B on, tq be appended tq -/
structure OwnP (w : World) (B : Nat) (v : Value) (l : List Pk) : Prop where
  row : w.ownsRow B 60 4 v l.length (pksC l)
  bytes : ∀ p ∈ l, Own w B p.2 p.1.bs ∧ p.1.bs.length ≤ maxLen
  off : ∀ p ∈ l, Far p.2 v
  apart : l.Pairwise fun x y => Far x.2 y.2
theorem OwnP.nil (w : World) (B : Nat) : OwnP w B (.slice none 0 0) [] := ⟨World.ownsRow_nil w B _ 4, by simp, by simp, .nil⟩
theorem OwnP.shape {w : World} {B : Nat} {v : Value} {l : List Pk} (h : OwnP w B v l) : ∃ a cap, v = .slice a l.length cap := by
  rcases h.row.2 with ⟨rfl, h0⟩ | ⟨g, cap, cur, rfl, _⟩
  · exact ⟨none, 0, by rw [h0]⟩
  · exact ⟨_, _, rfl⟩
theorem OwnP.shape' {w : World} {B : Nat} {v : Value} {l : List Pk} (h : OwnP w B v l) (hl : 0 < l.length) : ∃ g cap, v = .slice (some ⟨g, 0, none⟩) l.length cap := by
  rcases h.row.2 with ⟨rfl, h0⟩ | ⟨g, cap, cur, rfl, _⟩
  · omega
  · exact ⟨_, _, rfl⟩
theorem OwnP.keep {w w' : World} {B : Nat} {v : Value} {l : List Pk} (h : OwnP w B v l) (hk : ∀ k, B ≤ k → k < w.heap.size → w'.heap[k]? = w.heap[k]?) : OwnP w' B v l := by
  refine ⟨⟨h.row.1, ?_⟩, fun p hp => ⟨(h.bytes p hp).1.block fun k e => ?_, (h.bytes p hp).2⟩, h.off, h.apart⟩
  · rcases h.row.2 with h' | ⟨g, cap, cur, hv, hg, hh, r⟩
    · exact .inl h'
    · exact .inr ⟨g, cap, cur, hv, hg, (hk g hg (heap_lt hh)).trans hh, r⟩
  · have := (h.bytes p hp).1.2.lt k e
    exact hk k this.1 this.2
theorem OwnP.below {w w' : World} {B : Nat} {v : Value} {l : List Pk} (h : OwnP w B v l) (hb : Below w.heap.size w w') : OwnP w' B v l := h.keep fun k _ hk => hb.block k hk
theorem OwnP.le {w : World} {B B' : Nat} {v : Value} {l : List Pk} (h : OwnP w B v l) (hb : B' ≤ B) : OwnP w B' v l := by
  refine ⟨⟨h.row.1, ?_⟩, fun p hp => ⟨(h.bytes p hp).1.le hb, (h.bytes p hp).2⟩, h.off, h.apart⟩
  rcases h.row.2 with h' | ⟨g, cap, cur, hv, hg, r⟩
  · exact .inl h'
  · exact .inr ⟨g, cap, cur, hv, Nat.le_trans hb hg, r⟩
theorem OwnP.at_ {w : World} {B g cap : Nat} {l : List Pk} (h : OwnP w B (.slice (some ⟨g, 0, none⟩) l.length cap) l) (j : Nat) (hj : j < l.length) : PkAt w g (j * 4) l[j] := by
  have c : ∀ i, i < 4 → w.cell? ⟨g, j * 4 + i, none⟩ = (pkC l[j])[i]? := fun i hi => by
    rw [World.ownsRow.cellAt h.row (j * 4 + i) (by omega)]
    exact pksC_get l j hj i hi
  exact ⟨c 0 (by omega), c 1 (by omega), c 2 (by omega), c 3 (by omega)⟩
theorem OwnP.there {w : World} {B g cap : Nat} {l : List Pk} (h : OwnP w B (.slice (some ⟨g, 0, none⟩) l.length cap) l) : w.there g 0 (l.length * 4) := fun j hj => by
  rw [Nat.zero_add]
  refine ⟨?_, World.ownsRow.frozenAt h.row j⟩
  rw [World.ownsRow.cellAt h.row j (by omega), List.getElem?_eq_getElem (by rw [pksC_len]; exact hj)]; rfl
theorem OwnP.r {w : World} {B : Nat} {v : Value} {l : List Pk} (h : OwnP w B v l) (hl : l.length ≤ maxLen) : PksR B w.heap.size w v l := by
  refine ⟨hl, h.shape, fun h0 => ?_, fun p hp => ⟨.of (h.bytes p hp).1, (h.bytes p hp).2⟩, h.apart⟩
  obtain ⟨g, cap, rfl⟩ := h.shape' h0
  have hlt := World.ownsRow.lt h.row g rfl
  exact ⟨g, cap, rfl, hlt.1, hlt.2, hlt.2, h.there, fun j hj => h.at_ j hj, fun p hp e => h.off p hp g e rfl⟩

theorem infoPk : (Try.prog.info? 60).map (fun i => (i.zero, i.size, i.bytes)) = some (some (.agg #[.int .i64 0, .int .i64 0, .int .i64 0, .slice none 0 0]), 4, 48) := by kernel_rfl

theorem growP {B : Nat} {w w' : World} {v v' : Value} {l : List Pk} (h : Grew w v w' v') (hown : OwnP w B v l) (hB : B ≤ w.heap.size) : Below B w w' :=
  (Below.refl _ _).grown h.g hB (fun k hk => (World.ownsRow.lt hown.row k hk).1)

set_option maxRecDepth 100000 in
theorem wpl_appendP {w : World} {ops : Array Oper} {rest : List Oper} {o : Oper} {a : Act} {Q : Exit → Act → World → Prop} (hgd : o.guard = none) (s x : Operand)
    (ho : o.op = .call { callee := .builtin .append, args := #[s, x], argTypes := #[27, 27] })
    {B N : Nat} {v : Value} {l : List Pk} (p : Pk) (hown : OwnP w B v l) (hs : a.eval s = v) (b c : Nat) (hu : PkAt w b 0 p) (hx : a.eval x = .slice (some ⟨b, 0, none⟩) 1 c)
    (hp : Own w N p.2 p.1.bs) (hpl : p.1.bs.length ≤ maxLen) (hBN : B ≤ N) (hN : (∀ k, v.ownBlock = some k → k < N) ∧ ∀ p' ∈ l, ∀ k, p'.2.ownBlock = some k → k < N) (hone : p.2.oneCell' = true)
    (hlen : l.length ≤ 1100000) (hB : B ≤ w.heap.size)
    (h : ∀ v' w', OwnP w' B v' (l ++ [p]) → Grew w v w' v' → wpList Try.prog ops Q rest (a.put o.dst v') w') : wpList Try.prog ops Q (o :: rest) a w := by
  obtain ⟨i0, hi, hz0, hz1, hz2⟩ := info_parts infoPk
  obtain ⟨u0, u1, u2, u3⟩ := hu
  refine wpList_append_own_at w hgd s x 27 ho B 60 i0 _ 4 48 Try.underlying27 hi hz0 hz1 hz2 rfl (by decide) v l.length _ hs hown.row ⟨b, 0, none⟩ 1 c (pkC p) hx rfl ?_ ?_ (by unfold maxLen; omega) (by omega) hB ?_
  · intro j u hj
    rw [cell_add, Nat.zero_add]
    have hj7 : j < 4 := (List.getElem?_eq_some_iff.1 hj).1
    rcases (show j = 0 ∨ j = 1 ∨ j = 2 ∨ j = 3 by omega) with rfl | rfl | rfl | rfl
    · exact u0.trans hj
    · exact u1.trans hj
    · exact u2.trans hj
    · exact u3.trans hj
  · intro u hu
    simp only [pkC, List.mem_cons, List.not_mem_nil, or_false] at hu
    rcases hu with rfl | rfl | rfl | rfl
    · rfl
    · rfl
    · rfl
    · exact hone
  · intro v' w' h2 h3 _ h5
    have hg : Grew w v w' v' := ⟨h3, h5.imp id fun e => ⟨_, e, Nat.le_refl _⟩⟩
    have hpv : Far p.2 v := fun k e1 e2 => by
      have h1 := (hp.2.lt k e1).1
      have h2 := hN.1 k e2
      omega
    have keepB : ∀ (u : Value) (bs : List Int), Own w B u bs → Far u v → Own w' B u bs ∧ Far u v' := fun u bs hb hf => by
      refine ⟨hb.block fun k e => hg.block (hb.2.lt k e).2 (hf k e), fun k e => hg.far (hb.2.lt k e).2 (hf k e)⟩
    refine h v' w' ⟨by rw [pksC_app]; simpa [pksC] using h2, fun y hy => ?_, fun y hy => ?_, ?_⟩ hg
    · rcases List.mem_append.1 hy with hy | hy
      · exact ⟨(keepB _ _ (hown.bytes y hy).1 (hown.off y hy)).1, (hown.bytes y hy).2⟩
      · rw [List.mem_singleton.1 hy]; exact ⟨(keepB _ _ (hp.le hBN) hpv).1, hpl⟩
    · rcases List.mem_append.1 hy with hy | hy
      · exact (keepB _ _ (hown.bytes y hy).1 (hown.off y hy)).2
      · rw [List.mem_singleton.1 hy]; exact (keepB _ _ (hp.le hBN) hpv).2
    · refine List.pairwise_append.2 ⟨hown.apart, List.pairwise_singleton _ _, fun x hx y hy k e1 e2 => ?_⟩
      rw [List.mem_singleton.1 hy] at e2
      have h1 := hN.2 x hx k e1
      have h2 := (hp.2.lt k e2).1
      omega
/-- all its blocks lie below the heap's end -/
theorem OwnP.lts {w : World} {B : Nat} {v : Value} {l : List Pk} (h : OwnP w B v l) : (∀ k, v.ownBlock = some k → k < w.heap.size) ∧ ∀ p' ∈ l, ∀ k, p'.2.ownBlock = some k → k < w.heap.size :=
  ⟨fun k e => (World.ownsRow.lt h.row k e).2, fun p hp k e => ((h.bytes p hp).1.2.lt k e).2⟩
end Go.Proofs.Ytfcmffdljfljkaa

/-
  laws.szByteS.
-/
namespace Go.Proofs.Ytfcmffdljfljkaa
open Go.RowKit
set_option linter.unusedVariables false

set_option maxHeartbeats 1000000 in
theorem szByteS_any (a : Option Addr) (n cap : Nat) (k : Nat) (hk : k ≤ 1048576) (hn : n ≤ maxLen) (w : World) :
    Calls Try.prog 105 #[.slice a n cap, .int .i64 k] w fun e w' => e = .returned (.int .i64 (if n ≤ k then ((k - n : Nat) : Int) else -1)) ∧ w' = w := by
  unfold maxLen at hn
  by_cases h : n ≤ k
  · rw [if_pos h]
    have e : ((k - n : Nat) : Int) = (k : Int) - n := by omega
    rw [e]
    go_enter Try.func105, Try.ntmps105
    go_wp2
    go_ret
    exact ⟨rfl, rfl⟩
  · rw [if_neg h]
    have h' : (k : Int) < n := by omega
    go_enter Try.func105, Try.ntmps105
    go_wp2
    go_ret
    exact ⟨rfl, rfl⟩

end Go.Proofs.Ytfcmffdljfljkaa

/-
  A list of ints as a law takes it: sz, tq, eq.
-/
namespace Go.Proofs.Ytfcmffdljfljkaa
open Go.RowKit
set_option linter.unusedVariables false
set_option linter.unusedSimpArgs false

/-- a slice of ints that holds l -/
def Ix (w : World) (v : Value) (l : List Int) : Prop :=
  l.length ≤ maxLen ∧ ∃ a cap, v = .slice a l.length cap ∧ ∀ i, i < l.length → ∃ b off, a = some ⟨b, off, none⟩ ∧ ∀ j (h : j < l.length), w.cell? ⟨b, off + j, none⟩ = some (.int .i64 l[j])
theorem Ix.below {w w' : World} {v : Value} {l : List Int} (h : Ix w v l) (hb : Below w.heap.size w w') : Ix w' v l := by
  obtain ⟨hl, a, cap, rfl, hc⟩ := h
  refine ⟨hl, a, cap, rfl, fun i hi => ?_⟩
  obtain ⟨b, off, rfl, hj⟩ := hc i hi
  exact ⟨b, off, rfl, fun j hj' => (hb.cell (p := ⟨b, off + j, none⟩) (cell_lt (hj j hj'))).trans (hj j hj')⟩
theorem Ix.nil (w : World) : Ix w (.slice none 0 0) [] := ⟨by simp [maxLen], _, _, rfl, fun i hi => absurd hi (by simp)⟩
/-- ints in memory of one's own: one block of the span -/
structure IntsN (lo hi : Nat) (w : World) (q : Nat) (l : List Int) : Prop where
  ix : Ix w (.slice (some ⟨q, 0, none⟩) l.length l.length) l
  room : w.there q 0 l.length
  lo : lo ≤ q
  hi : q < hi
  in_ : q < w.heap.size
theorem IntsN.keep {w w' : World} {lo hi q : Nat} {l : List Int} (h : IntsN lo hi w q l) (hk : ∀ k, lo ≤ k → k < hi → w'.heap[k]? = w.heap[k]?) : IntsN lo hi w' q l := by
  have hb := hk q h.lo h.hi
  refine ⟨?_, there_block' h.room hb, h.lo, h.hi, ?_⟩
  · obtain ⟨hl, a, cap, e, hc⟩ := h.ix
    injection e with e1 e2 e3
    subst e1 e3
    refine ⟨hl, _, _, rfl, fun i hi' => ?_⟩
    obtain ⟨b, off, e', hr⟩ := hc i hi'
    refine ⟨b, off, e', fun j hj => ?_⟩
    injection e' with e'
    injection e' with e4 e5
    subst e4
    rw [World.cell?_of_block (w := w) hb]
    exact hr j hj
  · rcases Nat.lt_or_ge q w'.heap.size with h' | h'
    · exact h'
    · rw [Array.getElem?_eq_none h'] at hb
      have := h.in_
      rw [Array.getElem?_eq_getElem this] at hb
      cases hb
theorem IntsN.wide {w : World} {lo hi lo' hi' q : Nat} {l : List Int} (h : IntsN lo hi w q l) (h1 : lo' ≤ lo) (h2 : hi ≤ hi') : IntsN lo' hi' w q l := ⟨h.ix, h.room, Nat.le_trans h1 h.lo, Nat.lt_of_lt_of_le h.hi h2, h.in_⟩

set_option maxHeartbeats 1000000 in
theorem szIntS_left (v : Value) (l : List Int) (w : World) (hv : Ix w v l) (left : Int) (h0 : 0 ≤ left) (h1 : left ≤ 1048576) :
    Calls Try.prog 39 #[v, .int .i64 left] w fun r w' => (∃ s : Int, r = .returned (.int .i64 s) ∧ s ≤ 1048576 ∧ (0 ≤ s → l.length ≤ 1048576)) ∧ w' = w := by
  obtain ⟨hl, a, cap, rfl, hc⟩ := hv
  unfold maxLen at hl
  clear hc
  by_cases h : (l.length : Int) ≤ left
  · go_enter Try.func39, Try.ntmps39
    go_wp2
    go_ret
    exact ⟨⟨_, rfl, by omega, by omega⟩, rfl⟩
  · go_enter Try.func39, Try.ntmps39
    go_wp2
    go_ret
    exact ⟨⟨_, rfl, by omega, by omega⟩, rfl⟩

/-- a copy under way -/
structure CopI (w wr : World) (l : List Int) (k : Nat) : Prop where
  below : Below w.heap.size w wr
  size : w.heap.size < wr.heap.size
  there : wr.there w.heap.size 0 l.length
  rows : ∀ j (h : j < l.length), j < k → wr.cell? ⟨w.heap.size, j, none⟩ = some (.int .i64 l[j])
theorem infoInt : (Try.prog.info? 3).map (fun i => (i.zero, i.size, i.bytes)) = some (some (.int .i64 0), 1, 8) := by kernel_rfl

set_option maxHeartbeats 2000000 in
set_option maxRecDepth 100000 in
theorem toIntS_u (v : Value) (l : List Int) (w : World) (hv : Ix w v l) (hl' : l.length ≤ 1048576) :
    Calls Try.prog 45 #[v] w fun x w' => ∃ q, x = .returned (.slice (some ⟨q, 0, none⟩) l.length l.length) ∧ IntsN w.heap.size w'.heap.size w' q l ∧ Below w.heap.size w w' := by
  obtain ⟨hl, a, cap, rfl, hc⟩ := hv
  obtain ⟨i0, hi, hz0, hz1, hz2⟩ := info_parts infoInt
  have hmk : ∀ u : World, (Instr.makeSlice 23 (.int .i64 (l.length : Int)) (.int .i64 (l.length : Int))).run Try.prog u =
      .ok (.slice (some ⟨u.heap.size, 0, none⟩) l.length l.length) (u.alloc (.cells (madeCells #[.int .i64 0] l.length) 3)) := fun u => by
    have h := run_make (P := Try.prog) u 23 3 i0 (.int .i64 0) Try.underlying23 hi hz0 .i64 .i64 (l.length : Int) (l.length : Int) (by omega) (Int.le_refl _) (by rw [hz2]; omega) (by omega)
    simpa [hz1, Value.cells] using h
  go_enter Try.func45, Try.ntmps45
  go_wp2
  go_loopw [4] (fun i wr => ∃ k : Nat, k ≤ l.length ∧ i = .int .i64 k ∧ CopI w wr l k) (fun i _ => l.length - (intOf i).toNat)
  case atStart => exact ⟨0, Nat.zero_le _, rfl, ⟨(Below.refl _ _).alloc (Nat.le_refl _) _, by simp, by have h := there_new' w (madeCells #[.int .i64 0] l.length) 3; rwa [size_madeCells] at h, fun j _ h => absurd h (by omega)⟩⟩
  case round =>
    obtain ⟨k, hk, rfl, hC⟩ := hrel
    have hz := hC.size
    by_cases hlt : k < l.length
    · obtain ⟨b, off, rfl, hcell⟩ := hc k hlt
      have hck : wr.cell? ⟨b, off + k, none⟩ = some (.int .i64 l[k]) := (hC.below.cell (p := ⟨b, off + k, none⟩) (cell_lt (hcell k hlt))).trans (hcell k hlt)
      obtain ⟨y, hy⟩ := there_get' hC.there k hlt
      have hyf := there_free' hC.there k hlt
      have HC : Hid (CopI w (wr.setCell ⟨w.heap.size, k, none⟩ (.int .i64 l[k])) l (k + 1)) := ⟨hC.below.setCell (Nat.le_refl _) _, by simpa [World.setCell] using hC.size, there_set' hC.there _ _ _, fun j hj hjk => by
        by_cases e : j = k
        · subst e
          exact World.cell?_setCell_same wr ⟨w.heap.size, j, none⟩ _ hy
        · rw [World.cell?_setCell_other wr ⟨w.heap.size, k, none⟩ ⟨w.heap.size, j, none⟩ _ (by intro h; injection h with h1 h2; omega)]
          exact hC.rows j hj (by omega)⟩
      clear hcell hC hc
      generalize l[k] = e at *
      go_wp2
      go_roundw
      case rel => exact ⟨k + 1, by omega, by go_num, HC.out⟩
      case measure => simp [intOf]; omega
    · have e : k = l.length := by omega
      subst e
      go_wp2
      go_ret
      exact ⟨w.heap.size, rfl, ⟨⟨hl, _, _, rfl, fun i hi' => ⟨_, _, rfl, fun j hj => by rw [Nat.zero_add]; exact hC.rows j hj hj⟩⟩, hC.there, Nat.le_refl _, hC.size, hC.size⟩, hC.below⟩

set_option maxHeartbeats 2000000 in
set_option maxRecDepth 100000 in
theorem eqIntS_same (v u : Value) (l : List Int) (w : World) (hv : Ix w v l) (hu : Ix w u l) :
    Calls Try.prog 51 #[v, u] w fun r w' => r = .returned (.bool true) ∧ Below w.heap.size w w' := by
  obtain ⟨hl, a, cap, rfl, hc⟩ := hv
  obtain ⟨_, a', cap', rfl, hc'⟩ := hu
  unfold maxLen at hl
  go_enter Try.func51, Try.ntmps51
  go_wp2
  go_loopw [5] (fun i wr => ∃ k : Nat, k ≤ l.length ∧ i = .int .i64 k ∧ ∃ n, wr = w.drewN n) (fun i _ => l.length - (intOf i).toNat)
  case atStart => exact ⟨0, Nat.zero_le _, rfl, 0, rfl⟩
  case round =>
    obtain ⟨k, hk, rfl, n, rfl⟩ := hrel
    by_cases hlt : k < l.length
    · obtain ⟨b, off, rfl, hcell⟩ := hc k hlt
      obtain ⟨b', off', rfl, hcell'⟩ := hc' k hlt
      have hck := hcell k hlt
      have hck' := hcell' k hlt
      clear hcell hcell' hc hc'
      go_wp2
      go_quiet (fail)
      go_wp2
      go_roundw
      case rel => exact ⟨k + 1, by omega, by go_num, _, rfl⟩
      case measure => simp [intOf]; omega
    · have e : k = l.length := by omega
      subst e
      go_wp2
      go_ret
      exact ⟨rfl, rfl, rfl, rfl, Nat.le_refl _, fun _ _ => rfl⟩
end Go.Proofs.Ytfcmffdljfljkaa

/-
  laws.szPacket, szPacketS, szBag.
-/
namespace Go.Proofs.Ytfcmffdljfljkaa
open Go.RowKit
set_option linter.unusedVariables false
set_option linter.unusedSimpArgs false

/-- what packets say -/
def cont (l : List Pk) : List Pkt := l.map Prod.fst
theorem cont_len (l : List Pk) : (cont l).length = l.length := by simp [cont]
/-- how many bytes they bear -/
def bulk : List Pkt → Nat
  | [] => 0
  | p :: l => p.bs.length + bulk l
theorem bulk_app (l k : List Pkt) : bulk (l ++ k) = bulk l + bulk k := by
  induction l with
  | nil => simp [bulk]
  | cons p l ih => rw [List.cons_append, bulk, ih, bulk]; omega
theorem bulk_take (l : List Pk) (k : Nat) (h : k < l.length) : bulk (cont (l.take (k + 1))) = bulk (cont (l.take k)) + l[k].1.bs.length := by
  rw [List.take_succ_eq_append_getElem h, cont, List.map_append, bulk_app]
  rfl
theorem bulk_mem {l : List Pkt} {p : Pkt} (h : p ∈ l) : p.bs.length ≤ bulk l := by
  induction l with
  | nil => cases h
  | cons q l ih =>
    rw [bulk]
    rcases List.mem_cons.1 h with rfl | h
    · omega
    · have := ih h; omega
theorem bulk_take_le (l : List Pk) (k : Nat) : bulk (cont (l.take k)) ≤ bulk (cont l) := by
  have h : bulk (cont l) = bulk (cont (l.take k)) + bulk (cont (l.drop k)) := by
    rw [← bulk_app, cont, cont, cont, ← List.map_append, List.take_append_drop]
  omega
theorem Pks.bs {w : World} {v : Value} {l : List Pk} (h : Pks w v l) (k : Nat) (hk : k < l.length) : Bs w l[k].2 l[k].1.bs := h.2.1 _ (List.getElem_mem hk)
theorem Bs.sh {w : World} {v : Value} {l : List Int} (h : Bs w v l) : ∃ a cap, v = .slice a l.length cap := by
  obtain ⟨_, _, a, cap, e, _⟩ := h
  exact ⟨a, cap, e⟩

set_option maxHeartbeats 1000000 in
theorem szPacket_any (i f t : Int) (a : Option Addr) (n cap k : Nat) (hk : k ≤ 1048576) (hn : n ≤ maxLen) (w : World) :
    Calls Try.prog 83 #[.agg #[.int .i64 i, .int .i64 f, .int .i64 t, .slice a n cap], .int .i64 k] w fun e w' => e = .returned (.int .i64 (if n ≤ k then ((k - n : Nat) : Int) else -1)) ∧ Below w.heap.size w w' := by
  have hb0 : Hid (Below w.heap.size w (w.alloc (.cells #[.int .i64 i, .int .i64 f, .int .i64 t, .slice a n cap] 115))) := (Below.refl _ _).alloc (Nat.le_refl _) _
  by_cases h : n ≤ k
  · rw [if_pos h]
    go_enter Try.func83, Try.ntmps83
    go_wp2_with (go_at_call 105; refine (szByteS_any a n cap k hk hn _).mono ?_; rintro e w1 ⟨rfl, rfl⟩; rw [if_pos h])
    go_ret
    exact ⟨rfl, hb0.out⟩
  · rw [if_neg h]
    go_enter Try.func83, Try.ntmps83
    go_wp2_with (go_at_call 105; refine (szByteS_any a n cap k hk hn _).mono ?_; rintro e w1 ⟨rfl, rfl⟩; rw [if_neg h])
    go_ret
    exact ⟨rfl, hb0.out⟩

set_option maxHeartbeats 2000000 in
theorem szPacketS_u (v : Value) (l : List Pk) (w : World) (hv : Pks w v l) (left : Nat) (h1 : left ≤ 1048576) :
    Calls Try.prog 38 #[v, .int .i64 left] w fun r w' =>
      ((∃ s : Nat, r = .returned (.int .i64 s) ∧ s + l.length + bulk (cont l) = left) ∨ r = .returned (.int .i64 (-1))) ∧ Below w.heap.size w w' := by
  have HV : Hid (Pks w v l) := hv
  obtain ⟨hl, _, a, cap, rfl, hc⟩ := hv
  unfold maxLen at hl
  by_cases hll : l.length ≤ left
  · have HL : Hid (((left - l.length : Nat) : Int) = (left : Int) - l.length) := by show _ = _; omega
    go_enter Try.func38, Try.ntmps38
    go_wp2
    go_loopw [1, 5] (fun s i wr => ∃ (k x : Nat), k ≤ l.length ∧ i = .int .i64 k ∧ s = .int .i64 (x : Int) ∧ x + l.length + bulk (cont (l.take k)) = left ∧ Below w.heap.size w wr) (fun _ i _ => l.length - (intOf i).toNat)
    case atStart => exact ⟨0, left - l.length, Nat.zero_le _, rfl, by rw [HL.out], by simp [cont, bulk]; omega, Below.refl _ _⟩
    case round =>
      obtain ⟨k, x, hk, rfl, rfl, hx, hB⟩ := hrel
      by_cases hlt : k < l.length
      · obtain ⟨b, off, rfl, hj⟩ := hc k hlt
        obtain ⟨c0, c1, c2, c3⟩ := (hj k hlt).below hB
        obtain ⟨a', cap', e3⟩ := (HV.out.bs k hlt).sh
        have hnn : l[k].1.bs.length ≤ maxLen := (HV.out.bs k hlt).1
        have HBT : Hid (bulk (cont (l.take (k + 1))) = bulk (cont (l.take k)) + l[k].1.bs.length) := bulk_take l k hlt
        rw [e3] at c3
        have hsz := hB.size
        clear hc hj e3
        generalize l[k] = p at *
        by_cases hn : p.1.bs.length ≤ x
        · have HN : Hid (((x - p.1.bs.length : Nat) : Int) = (x : Int) - p.1.bs.length) := by show _ = _; omega
          go_wp2_with (go_at_call 83; refine (szPacket_any _ _ _ _ _ _ x (by omega) hnn _).mono ?_; rintro r w1 ⟨rfl, hb⟩; rw [if_pos hn])
          go_roundw
          case rel => exact ⟨k + 1, x - p.1.bs.length, by omega, by go_num, rfl, by have := HBT.out; omega, hB.trans (hb.mono (by omega))⟩
          case measure => simp [intOf]; omega
        · go_wp2_with (go_at_call 83; refine (szPacket_any _ _ _ _ _ _ x (by omega) hnn _).mono ?_; rintro r w1 ⟨rfl, hb⟩; rw [if_neg hn])
          go_ret
          exact ⟨.inr rfl, hB.trans (hb.mono (by omega))⟩
      · obtain rfl : k = l.length := by omega
        rw [List.take_length] at hx
        go_wp2
        go_ret
        exact ⟨.inl ⟨_, rfl, hx⟩, hB⟩
  · go_enter Try.func38, Try.ntmps38
    go_wp2
    go_ret
    exact ⟨.inr rfl, Below.refl _ _⟩

set_option maxHeartbeats 2000000 in
theorem szBag_u (n : Int) (v u : Value) (l : List Pk) (ws : List Int) (w : World) (hv : Pks w v l) (hu : Ix w u ws) :
    Calls Try.prog 8 #[.agg #[.int .i64 n, v, u], .int .i64 1048576] w fun r w' =>
      (∃ s : Int, r = .returned (.int .i64 s) ∧ s ≤ 1048576 ∧ (0 ≤ s → l.length + bulk (cont l) ≤ 1048576 ∧ ws.length ≤ 1048576)) ∧ Below w.heap.size w w' := by
  have HV : Hid (∀ w', Below w.heap.size w w' → Calls Try.prog 38 #[v, .int .i64 1048576] w' fun r w'' => ((∃ s : Nat, r = .returned (.int .i64 s) ∧ s + l.length + bulk (cont l) = 1048576) ∨ r = .returned (.int .i64 (-1))) ∧ Below w'.heap.size w' w'') := fun w' hb => szPacketS_u v l w' (hv.below hb) 1048576 (by omega)
  have HU : Hid (∀ w', Below w.heap.size w w' → ∀ s : Nat, s ≤ 1048576 → Calls Try.prog 39 #[u, .int .i64 s] w' fun r w'' => (∃ s : Int, r = .returned (.int .i64 s) ∧ s ≤ 1048576 ∧ (0 ≤ s → ws.length ≤ 1048576)) ∧ w'' = w') := fun w' hb s hs => szIntS_left u ws w' (hu.below hb) s (by omega) (by omega)
  obtain ⟨_, _, a, cap, rfl, _⟩ := hv
  obtain ⟨_, a', cap', rfl, _⟩ := hu
  have hb0 : Hid (Below w.heap.size w (w.alloc (.cells #[.int .i64 n, .slice a l.length cap, .slice a' ws.length cap'] 25))) := (Below.refl _ _).alloc (Nat.le_refl _) _
  go_enter Try.func8, Try.ntmps8
  go_wp2_with (first
    | (go_at_call 38; refine (HV.out _ hb0.out).mono ?_; rintro r w1 ⟨hr, hb1⟩; have HB1 : Hid (Below w.heap.size w w1) := hb0.out.trans (hb1.mono (by simp)); have hcc := (bcell hb1).1; clear hb1; rcases hr with ⟨s, rfl, hs⟩ | rfl)
    | (go_at_call 39; refine (HU.out _ HB1.out s (by omega)).mono ?_; rintro r w2 ⟨⟨s2, rfl, hs2, hs3⟩, rfl⟩))
  · go_ret
    exact ⟨⟨_, rfl, by omega, by omega⟩, HB1.out⟩
  · go_ret
    exact ⟨⟨_, rfl, by omega, fun _ => by omega⟩, HB1.out⟩
  · go_ret
    exact ⟨⟨_, rfl, by omega, by omega⟩, HB1.out⟩
end Go.Proofs.Ytfcmffdljfljkaa

/-
  Bytes that the call lays itself: one, none.
-/
namespace Go.Proofs.Ytfcmffdljfljkaa
open Go.RowKit
set_option linter.unusedVariables false

theorem Bs.one (w : World) (x : Int) (h : 0 ≤ x ∧ x ≤ 255) : Bs (w.alloc (.cells #[.int .u8 x] 5)) (.slice (some ⟨w.heap.size, 0, none⟩) 1 1) [x] := by
  have := (Own.lit w [x] #[.int .u8 x] rfl (by simpa using h) (by simp [maxLen])).bs (by simp [maxLen])
  simpa using this

theorem Own.lit0 (w : World) : Own (w.alloc (.cells #[] 5)) w.heap.size (.slice (some ⟨w.heap.size, 0, none⟩) 0 0) [] := Own.lit w [] #[] rfl (by simp) (by simp)

theorem Own.ne {w : World} {B : Nat} {v : Value} {l : List Int} (h : Own w B v l) {k : Nat} (hk : w.heap.size ≤ k) : v.ownBlock ≠ some k := by
  intro e
  have := (h.2.lt k e).2
  omega

end Go.Proofs.Ytfcmffdljfljkaa

/-
  slices.Clone of bytes; spec.l1copy.
-/
namespace Go.Proofs.Ytfcmffdljfljkaa
open Go.RowKit
set_option linter.unusedVariables false

set_option maxRecDepth 100000 in
/-- append of nothing, or of bytes that lie somewhere -/
theorem wpl_append_at {w : World} {ops : Array Oper} {rest : List Oper} {o : Oper} {a : Act} {Q : Exit → Act → World → Prop} (hgd : o.guard = none) (s x : Operand)
    (ho : o.op = .call { callee := .builtin .append, args := #[s, x], argTypes := #[35, 35] })
    {B : Nat} {v : Value} {l l2 : List Int} {b off cu : Nat} (hown : Own w B v l) (hs : a.eval s = v) (hu : Bs w (.slice (some ⟨b, off, none⟩) l2.length cu) l2) (hx : a.eval x = .slice (some ⟨b, off, none⟩) l2.length cu) (hlen : l.length + l2.length ≤ 1073741824) (hB : B ≤ w.heap.size)
    (h : ∀ v' w', Own w' B v' (l ++ l2) → Grew w v w' v' → wpList Try.prog ops Q rest (a.put o.dst v') w') : wpList Try.prog ops Q (o :: rest) a w := by
  obtain ⟨i0, hi, hz0, hz1, hz2⟩ := info_parts infoU8
  obtain ⟨_, h8, au, cu', e, hc⟩ := hu
  refine wpList_append_own_at w hgd s x 35 ho B 5 i0 (.int .u8 0) 1 1 Try.underlying35 hi hz0 hz1 hz2 rfl (by decide) v l.length _ hs hown.2 ⟨b, off, none⟩ l2.length cu (l2.map (Value.int .u8)) hx (by simp) ?_ ?_ (by unfold maxLen; omega) (by omega) hB ?_
  · intro j u hj
    rw [cell_add]
    rw [List.getElem?_map] at hj
    cases hk : l2[j]? with
    | none => rw [hk] at hj; cases hj
    | some y =>
      rw [hk] at hj
      have hjl : j < l2.length := by
        rcases Nat.lt_or_ge j l2.length with h' | h'
        · exact h'
        · rw [List.getElem?_eq_none h'] at hk; cases hk
      obtain ⟨b', off', e', hcell⟩ := hc j hjl
      injection e with e1 e2 e3
      rw [← e1] at e'
      injection e' with e'
      injection e' with f1 f2 f3
      subst f1 f2
      rw [hcell j hjl, hk]
      exact hj
  · intro u hu
    simp only [List.mem_map] at hu
    obtain ⟨y, _, rfl⟩ := hu
    rfl
  · intro v' w' h2 h3 _ h5
    refine h v' w' ⟨fun y hy => ?_, by simpa using h2⟩ ⟨h3, h5.imp id fun e => ⟨_, e, Nat.le_refl _⟩⟩
    rcases List.mem_append.1 hy with hy | hy
    · exact hown.1 y hy
    · exact h8 y hy

set_option maxHeartbeats 1000000 in
set_option maxRecDepth 100000 in
theorem clone_any (b off cap : Nat) (l : List Int) (w : World) (hv : Bs w (.slice (some ⟨b, off, none⟩) l.length cap) l) (hl : l.length ≤ 1048576) :
    Calls Try.prog 91 #[.slice (some ⟨b, off, none⟩) l.length cap] w fun e w' => ∃ a' cap', e = .returned (.slice a' l.length cap') ∧ Own w' w.heap.size (.slice a' l.length cap') l ∧ Below w.heap.size w w' := by
  have h0 := Own.lit0 w
  have hv' : Hid (Bs (w.alloc (.cells #[] 5)) (.slice (some ⟨b, off, none⟩) l.length cap) l) := hv.below ((Below.refl _ _).alloc (Nat.le_refl _) _)
  have hnil : ∀ u : World, (binOp .eql 35 (.slice (some ⟨b, off, none⟩) l.length cap) (.slice none 0 0)).run Try.prog u = .ok (.bool false) u := fun u => by
    rw [Lib.run_eql_slice_nil u 35 5 (some ⟨b, off, none⟩) l.length cap 0 0 Try.underlying35]; rfl
  go_enter Try.func91, Try.ntmps91
  go_wp2_with (at_builtin; refine wpl_append_at rfl (.tmp 5) (.tmp 6) rfl h0 rfl hv'.out rfl (by simp; omega) (by simp) ?_; intro v3 w3 ho3 hg3; have hB3 := hg3.below h0 (by simp))
  go_ret
  rw [List.nil_append] at ho3
  obtain ⟨a', cap', rfl⟩ := ho3.shape
  exact ⟨_, _, rfl, ho3, ((Below.refl _ _).alloc (Nat.le_refl _) _).trans hB3⟩

theorem Own.setLow {w : World} {B : Nat} {v : Value} {l : List Int} (h : Own w B v l) {b i : Nat} (hb : b < B) (x : Value) : Own (w.setCell ⟨b, i, none⟩ x) B v l := by
  refine ⟨h.1, h.2.1, ?_⟩
  rcases h.2.2 with h | ⟨g, cap, cur, hv, hg, hh, r⟩
  · exact .inl h
  · exact .inr ⟨g, cap, cur, hv, hg, (Below.heap_setCell _ _ _ _ (fun e => by simp only at e; omega)).trans hh, r⟩
end Go.Proofs.Ytfcmffdljfljkaa

/-
  spec.l1copy.
-/
namespace Go.Proofs.Ytfcmffdljfljkaa
open Go.RowKit
set_option linter.unusedVariables false

set_option maxHeartbeats 1000000 in
set_option maxRecDepth 100000 in
theorem l1copy_any (a : Option Addr) (cap : Nat) (l : List Int) (w : World) (hv : Bs w (.slice a l.length cap) l) (hl : l.length ≤ 1048576) :
    Calls Try.prog 57 #[.slice a l.length cap] w fun e w' => ∃ a' cap', e = .returned (.slice a' l.length cap') ∧ Own w' w.heap.size (.slice a' l.length cap') l ∧ Below w.heap.size w w' := by
  have h0 := Own.lit0 w
  obtain ⟨hm, h8, a', cap', e, hc⟩ := hv
  injection e with e1 e2 e3
  subst e1 e3
  clear e2
  have h0' : Hid (Own (w.alloc (.cells #[] 5)) w.heap.size (.slice (some ⟨w.heap.size, 0, none⟩) 0 0) (l.take 0)) := h0
  clear h0
  go_enter Try.func57, Try.ntmps57
  go_wp2
  go_loopw [3, 4] (fun o i wr => ∃ k : Nat, k ≤ l.length ∧ i = .int .i64 k ∧ Own wr w.heap.size o (l.take k) ∧ Below w.heap.size w wr) (fun _ i _ => l.length - (intOf i).toNat)
  case atStart => exact ⟨0, Nat.zero_le _, rfl, h0'.out, (Below.refl _ _).alloc (Nat.le_refl _) _⟩
  case round =>
    obtain ⟨k, hk, rfl, ho, hb⟩ := hrel
    by_cases hlt : k < l.length
    · obtain ⟨b, off, rfl, hcell⟩ := hc k hlt
      have hck : wr.cell? ⟨b, off + k, none⟩ = some (.int .u8 (l[k]?.getD 0)) := by rw [hb.cell (cell_lt (hcell k hlt))]; exact hcell k hlt
      have h8k := byte_at h8 k
      have hlk : (l.take k).length = k := by rw [List.length_take]; omega
      have e1 : l.take (k + 1) = l.take k ++ [l[k]?.getD 0] := by rw [List.take_succ_eq_append_getElem hlt, List.getElem?_eq_getElem hlt]; rfl
      have HT : Hid (l.take (k + 1) = l.take k ++ [l[k]?.getD 0]) := e1
      have hz := hb.size
      clear hcell h8 hc e1
      generalize l[k]?.getD 0 = z at hck h8k HT
      obtain ⟨z0, z1⟩ := h8k
      go_wp2_with (at_builtin; refine wpl_append rfl (.tmp 12) (.tmp 17) rfl (ho.below ((Below.refl _ _).alloc (Nat.le_refl _) _)) rfl (Bs.one _ z ⟨z0, z1⟩) rfl (by simp) (by simp; omega) (by simp; omega) ?_; intro v2 w2 ho2 hg2)
      go_roundw
      case rel => exact ⟨k + 1, by omega, by go_num, by rw [HT.out]; exact ho2, hb.trans (((Below.refl _ _).alloc (by omega) _).trans (hg2.below (ho.below ((Below.refl _ _).alloc (Nat.le_refl _) _)) (by simp; omega)))⟩
      case measure => simp [intOf]; omega
    · have e : l.take k = l := List.take_of_length_le (by omega)
      rw [e] at ho
      obtain ⟨a', cap', rfl⟩ := ho.shape
      go_wp2
      go_ret
      exact ⟨_, _, rfl, ho, hb⟩

end Go.Proofs.Ytfcmffdljfljkaa

/-
  laws.toByteS: a copy that the call owns; slices.Clone of bytes; spec.l1copy.
-/
namespace Go.Proofs.Ytfcmffdljfljkaa
open Go.RowKit
set_option linter.unusedVariables false

theorem infoByte : (Try.prog.info? 5).map (fun i => (i.zero, i.size, i.bytes)) = some (some (.int .u8 0), 1, 1) := by kernel_rfl

theorem copy_step (l : List Int) (k : Nat) (h : k < l.length) : (l.take k ++ List.replicate (l.length - k) 0).set k (l[k]?.getD 0) = l.take (k + 1) ++ List.replicate (l.length - (k + 1)) 0 := by
  have hk : (l.take k).length = k := by rw [List.length_take]; omega
  have e : l.length - k = (l.length - (k + 1)) + 1 := by omega
  rw [List.set_append_right _ _ (by omega), hk, Nat.sub_self, e, List.replicate_succ, List.set_cons_zero]
  rw [List.getElem?_eq_getElem h, Option.getD_some, show l.take (k + 1) = l.take k ++ [l[k]] by rw [List.take_succ_eq_append_getElem h], List.append_assoc]
  rfl

theorem take_byte {l : List Int} (h8 : ∀ x ∈ l, 0 ≤ x ∧ x ≤ 255) (k n : Nat) : ∀ x ∈ l.take k ++ List.replicate n 0, 0 ≤ x ∧ x ≤ 255 := by
  intro x hx
  rcases List.mem_append.1 hx with h | h
  · exact h8 x (List.mem_of_mem_take h)
  · have := List.eq_of_mem_replicate h; omega

set_option maxHeartbeats 1000000 in
set_option maxRecDepth 100000 in
theorem toByteS_own (v : Value) (l : List Int) (w : World) (hv : Bs w v l) (hl' : l.length ≤ 1048576) :
    Calls Try.prog 16 #[v] w fun e w' => ∃ q, e = .returned (.slice (some ⟨q, 0, none⟩) l.length l.length) ∧ w.heap.size ≤ q ∧ q < w'.heap.size ∧ Own w' w.heap.size (.slice (some ⟨q, 0, none⟩) l.length l.length) l ∧ Below w.heap.size w w' := by
  obtain ⟨hl, h8, a, cap, rfl, hc⟩ := hv
  obtain ⟨i0, hi, hz0, hz1, hz2⟩ := info_parts infoByte
  have hmk : ∀ u : World, (Instr.makeSlice 35 (.int .i64 (l.length : Int)) (.int .i64 (l.length : Int))).run Try.prog u =
      .ok (.slice (some ⟨u.heap.size, 0, none⟩) l.length l.length) (u.alloc (.cells (madeCells #[.int .u8 0] l.length) 5)) := fun u => by
    have h := run_make (P := Try.prog) u 35 5 i0 (.int .u8 0) Try.underlying35 hi hz0 .i64 .i64 (l.length : Int) (l.length : Int) (by omega) (Int.le_refl _) (by rw [hz2]; omega) (by omega)
    simpa [hz1, Value.cells] using h
  have H0 : Hid (Own (w.alloc (.cells (madeCells #[.int .u8 0] l.length) 5)) w.heap.size (.slice (some ⟨w.heap.size, 0, none⟩) l.length l.length) (l.take 0 ++ List.replicate (l.length - 0) 0)) := by
    have h := Own.lit w (List.replicate l.length 0) (madeCells #[.int .u8 0] l.length) (by rw [toList_madeCells_one]; simp) (by intro x hx; have := List.eq_of_mem_replicate hx; omega) (by simpa using hl)
    show Own _ _ _ _
    simpa using h
  go_enter Try.func16, Try.ntmps16
  go_wp2
  go_loopw [4] (fun i wr => ∃ k : Nat, k ≤ l.length ∧ i = .int .i64 k ∧ Own wr w.heap.size (.slice (some ⟨w.heap.size, 0, none⟩) l.length l.length) (l.take k ++ List.replicate (l.length - k) 0) ∧ Below w.heap.size w wr ∧ w.heap.size < wr.heap.size) (fun i _ => l.length - (intOf i).toNat)
  case atStart => exact ⟨0, Nat.zero_le _, rfl, H0.out, (Below.refl _ _).alloc (Nat.le_refl _) _, by simp⟩
  case round =>
    obtain ⟨k, hk, rfl, ho, hb, hz⟩ := hrel
    by_cases hlt : k < l.length
    · obtain ⟨b, off, rfl, hcell⟩ := hc k hlt
      have hlen : (l.take k ++ List.replicate (l.length - k) 0).length = l.length := by simp; omega
      have hck : wr.cell? ⟨b, off + k, none⟩ = some (.int .u8 (l[k]?.getD 0)) := by rw [hb.cell (cell_lt (hcell k hlt))]; exact hcell k hlt
      have ho' : Own wr w.heap.size (.slice (some ⟨w.heap.size, 0, none⟩) (l.take k ++ List.replicate (l.length - k) 0).length l.length) (l.take k ++ List.replicate (l.length - k) 0) := by rw [hlen]; exact ho
      have hst := ho'.store k (l[k]?.getD 0) (byte_at h8 k)
      rw [copy_step l k hlt, hlen] at hst
      have HS : Hid (Own (wr.setCell ⟨w.heap.size, k, none⟩ (.int .u8 (l[k]?.getD 0))) w.heap.size (.slice (some ⟨w.heap.size, 0, none⟩) l.length l.length) (l.take (k + 1) ++ List.replicate (l.length - (k + 1)) 0)) := hst
      have hf := ho'.2.frozenAt k
      have hcell' := ho'.2.cellAt k (by omega)
      obtain ⟨y, hy⟩ : ∃ y, wr.cell? ⟨w.heap.size, k, none⟩ = some y := by
        rw [hcell']
        exact ⟨_, List.getElem?_eq_getElem (by rw [List.length_map]; omega)⟩
      have HB : Hid (Below w.heap.size w (wr.setCell ⟨w.heap.size, k, none⟩ (.int .u8 (l[k]?.getD 0)))) := hb.setCell (Nat.le_refl _) _
      clear hcell hcell' ho ho' hst hb hlen h8 hc
      generalize l[k]?.getD 0 = cc at hck HS HB
      go_wp2
      go_roundw
      case rel => exact ⟨k + 1, by omega, by go_num, HS.out, HB.out, by simpa [World.setCell] using hz⟩
      case measure => simp [intOf]; omega
    · have e : k = l.length := by omega
      subst e
      simp only [List.take_length, Nat.sub_self, List.replicate_zero, List.append_nil] at ho
      go_wp2
      go_ret
      exact ⟨_, rfl, Nat.le_refl _, hz, ho, hb⟩

end Go.Proofs.Ytfcmffdljfljkaa

/-
  spec.l1copy, beside laws.toByteS.
-/

/-
  laws.toPacket, toPacketS: copies in memory of their own.
-/
namespace Go.Proofs.Ytfcmffdljfljkaa
open Go.RowKit
set_option linter.unusedVariables false
set_option linter.unusedSimpArgs false

set_option maxHeartbeats 2000000 in
set_option maxRecDepth 100000 in
theorem toPacket_any (i f t : Int) (a : Option Addr) (cap : Nat) (l : List Int) (w : World) (hv : Bs w (.slice a l.length cap) l) (hl : l.length ≤ 1048576) :
    Calls Try.prog 84 #[.agg #[.int .i64 i, .int .i64 f, .int .i64 t, .slice a l.length cap]] w fun e w' => ∃ q, e = .returned (.agg #[.int .i64 i, .int .i64 f, .int .i64 t, .slice (some ⟨q, 0, none⟩) l.length l.length]) ∧ Own w' w.heap.size (.slice (some ⟨q, 0, none⟩) l.length l.length) l ∧ Below w.heap.size w w' := by
  have HT : Hid (∀ w', Below w.heap.size w w' → Calls Try.prog 16 #[.slice a l.length cap] w' fun e w'' => ∃ q, e = .returned (.slice (some ⟨q, 0, none⟩) l.length l.length) ∧ w'.heap.size ≤ q ∧ q < w''.heap.size ∧ Own w'' w'.heap.size (.slice (some ⟨q, 0, none⟩) l.length l.length) l ∧ Below w'.heap.size w' w'') := fun w' hb => toByteS_own _ l w' (hv.below hb) hl
  clear hv
  have hb0 : Hid (Below w.heap.size w (((w.alloc (.cells #[.int .i64 i, .int .i64 f, .int .i64 t, .slice a l.length cap] 115)).alloc (.cells #[.int .i64 0, .int .i64 0, .int .i64 0, .slice none 0 0] 60)).alloc (.cells #[.int .i64 i, .int .i64 f, .int .i64 t, .slice none 0 0] 60))) := (((Below.refl _ _).alloc (Nat.le_refl _) _).alloc (by simp) _).alloc (by simp; omega) _
  go_enter Try.func84, Try.ntmps84
  go_wp2_with (go_at_call 16; refine (HT.out _ hb0.out).mono ?_; rintro e w1 ⟨q, rfl, hq1, hq2, ho1, hb1⟩; obtain ⟨hcc, hff⟩ := bcell hb1; have hz1 := hb1.size; simp at hz1 hq1; have r0 : w1.cell? ⟨w.heap.size + 1, 0, none⟩ = some (.int .i64 0) := (hcc _ 0 (by simp)).trans (by simp [go_sem]); have r1 : w1.cell? ⟨w.heap.size + 1, 1, none⟩ = some (.int .i64 0) := (hcc _ 1 (by simp)).trans (by simp [go_sem]); have r2 : w1.cell? ⟨w.heap.size + 1, 2, none⟩ = some (.int .i64 0) := (hcc _ 2 (by simp)).trans (by simp [go_sem]); have r3 : w1.cell? ⟨w.heap.size + 1, 3, none⟩ = some (.slice none 0 0) := (hcc _ 3 (by simp)).trans (by simp [go_sem]); have q0 : w1.cell? ⟨w.heap.size + 2, 0, none⟩ = some (.int .i64 i) := (hcc _ 0 (by simp)).trans (by simp [go_sem]); have q1 : w1.cell? ⟨w.heap.size + 2, 1, none⟩ = some (.int .i64 f) := (hcc _ 1 (by simp)).trans (by simp [go_sem]); have q2 : w1.cell? ⟨w.heap.size + 2, 2, none⟩ = some (.int .i64 t) := (hcc _ 2 (by simp)).trans (by simp [go_sem]); have q3 : w1.cell? ⟨w.heap.size + 2, 3, none⟩ = some (.slice none 0 0) := (hcc _ 3 (by simp)).trans (by simp [go_sem]))
  refine bodyPost_ret (v := .agg #[.int .i64 i, .int .i64 f, .int .i64 t, .slice (some ⟨q, 0, none⟩) l.length l.length]) (by simp [results, Try.results84, go_sem, r0, r1, r2, r3]) rfl ⟨q, rfl, ?_, ?_⟩
  · exact (((((ho1.setLow (b := w.heap.size + 1 + 1) (by simp) _).setLow (b := w.heap.size + 1) (by simp) _).setLow (b := w.heap.size + 1) (by simp) _).setLow (b := w.heap.size + 1) (by simp) _).setLow (b := w.heap.size + 1) (by simp) _).le (by simp; omega)
  · exact (((((hb0.out.trans (hb1.mono (by simp; omega))).setCell (show w.heap.size ≤ w.heap.size + 1 + 1 by omega) _).setCell (Nat.le_succ _) _).setCell (Nat.le_succ _) _).setCell (Nat.le_succ _) _).setCell (Nat.le_succ _) _

/-- a copy under way -/
structure CopP (w wr : World) (l L : List Pk) (k : Nat) : Prop where
  below : Below w.heap.size w wr
  size : w.heap.size < wr.heap.size
  there : wr.there w.heap.size 0 (l.length * 4)
  len : L.length = k
  con : cont L = cont (l.take k)
  rows : ∀ j (h : j < L.length), PkAt wr w.heap.size (j * 4) L[j]
  bytes : ∀ p ∈ L, Own wr (w.heap.size + 1) p.2 p.1.bs
  apart : L.Pairwise fun x y => Far x.2 y.2
theorem CopP.later {w wr w1 : World} {l L : List Pk} {k : Nat} (h : CopP w wr l L k) (hb : Below wr.heap.size wr w1) : CopP w w1 l L k :=
  ⟨h.below.trans (hb.mono (Nat.le_of_lt h.size)), Nat.lt_of_lt_of_le h.size hb.size, there_below h.there hb h.size, h.len, h.con, fun j hj => (h.rows j hj).below hb, fun p hp => (h.bytes p hp).below hb, h.apart⟩
theorem PkAt.set {w : World} {q off : Nat} {p : Pk} (h : PkAt w q off p) (o : Nat) (x : Value) (ho : off + 4 ≤ o) : PkAt (w.setCell ⟨q, o, none⟩ x) q off p := by
  obtain ⟨h0, h1, h2, h3⟩ := h
  have c : ∀ j, j < 4 → (w.setCell ⟨q, o, none⟩ x).cell? ⟨q, off + j, none⟩ = w.cell? ⟨q, off + j, none⟩ := fun j hj => World.cell?_setCell_other w _ _ _ (by intro e; injection e with _ h2 _; omega)
  exact ⟨(c 0 (by omega)).trans h0, (c 1 (by omega)).trans h1, (c 2 (by omega)).trans h2, (c 3 (by omega)).trans h3⟩
theorem four_at {w : World} {q o : Nat} {a b c d : Value} (h : w.there q o 4) :
    ∃ u, u = ((((w.setCell ⟨q, o, none⟩ a).setCell ⟨q, o + 1, none⟩ b).setCell ⟨q, o + 2, none⟩ c).setCell ⟨q, o + 3, none⟩ d) ∧ u.cell? ⟨q, o, none⟩ = some a ∧ u.cell? ⟨q, o + 1, none⟩ = some b ∧ u.cell? ⟨q, o + 2, none⟩ = some c ∧ u.cell? ⟨q, o + 3, none⟩ = some d := by
  have hr := World.rangeAt_setCells_same w q o [a, b, c, d] (by simpa using h)
  refine ⟨_, rfl, hr 0 a rfl, hr 1 b rfl, hr 2 c rfl, hr 3 d rfl⟩
theorem CopP.step {w w0 wr : World} {l L : List Pk} {k : Nat} (h : CopP w wr l L k) (hk : k < l.length) (u : Value) (hu : Own wr w0.heap.size u l[k].1.bs) (hL : ∀ p ∈ L, ∀ j, p.2.ownBlock = some j → j < w0.heap.size) (hw : w.heap.size < w0.heap.size) :
    CopP w ((((wr.setCell ⟨w.heap.size, k * 4, none⟩ (.int .i64 l[k].1.id)).setCell ⟨w.heap.size, k * 4 + 1, none⟩ (.int .i64 l[k].1.fr)).setCell ⟨w.heap.size, k * 4 + 2, none⟩ (.int .i64 l[k].1.tq)).setCell ⟨w.heap.size, k * 4 + 3, none⟩ u) l (L ++ [(l[k].1, u)]) (k + 1) := by
  have hle : w.heap.size ≤ w.heap.size := Nat.le_refl _
  have hb : ∀ (v : Value) (x : World) (bs : List Int) (o : Nat) (y : Value), Own x (w.heap.size + 1) v bs → Own (x.setCell ⟨w.heap.size, o, none⟩ y) (w.heap.size + 1) v bs := fun v x bs o y ho => ho.setLow (by omega) _
  refine ⟨(((h.below.setCell hle _).setCell hle _).setCell hle _).setCell hle _, by simpa [World.setCell] using h.size, there_set' (there_set' (there_set' (there_set' h.there _ _ _) _ _ _) _ _ _) _ _ _, by rw [List.length_append, h.len]; rfl, ?_, fun j hj => ?_, fun p hp => ?_, ?_⟩
  · rw [List.take_succ_eq_append_getElem hk]
    simp only [cont, List.map_append] at *
    rw [show L.map Prod.fst = (l.take k).map Prod.fst from h.con]; rfl
  · rw [List.length_append, h.len] at hj
    rcases Nat.lt_or_ge j k with hj' | hj'
    · have hjl : j < L.length := by rw [h.len]; exact hj'
      rw [List.getElem_append_left hjl]
      exact ((((h.rows j hjl).set _ _ (by omega)).set _ _ (by omega)).set _ _ (by omega)).set _ _ (by omega)
    · have hjk : j = k := by simp at hj; omega
      subst hjk
      rw [List.getElem_append_right (by rw [h.len]; exact Nat.le_refl _)]
      simp only [h.len, Nat.sub_self, List.getElem_cons_zero]
      obtain ⟨x, hx, h0, h1, h2, h3⟩ := four_at (w := wr) (q := w.heap.size) (o := j * 4) (a := .int .i64 l[j].1.id) (b := .int .i64 l[j].1.fr) (c := .int .i64 l[j].1.tq) (d := u) (there_sub h.there _ _ (by omega))
      subst hx
      exact ⟨h0, h1, h2, h3⟩
  · rcases List.mem_append.1 hp with hp | hp
    · exact hb _ _ _ _ _ (hb _ _ _ _ _ (hb _ _ _ _ _ (hb _ _ _ _ _ (h.bytes p hp))))
    · rw [List.mem_singleton.1 hp]
      exact hb _ _ _ _ _ (hb _ _ _ _ _ (hb _ _ _ _ _ (hb _ _ _ _ _ (hu.le hw))))
  · refine List.pairwise_append.2 ⟨h.apart, List.pairwise_singleton _ _, fun x hx y hy j e1 e2 => ?_⟩
    rw [List.mem_singleton.1 hy] at e2
    have h1 := hL x hx j e1
    have h2 := (hu.2.lt j e2).1
    omega
theorem CopP.lts {w wr : World} {l L : List Pk} {k : Nat} (h : CopP w wr l L k) : ∀ p ∈ L, ∀ j, p.2.ownBlock = some j → j < wr.heap.size := fun p hp j e => ((h.bytes p hp).2.lt j e).2
theorem CopP.r {w wr : World} {l L : List Pk} (h : CopP w wr l L l.length) (hl : l.length ≤ maxLen) (hbl : ∀ p ∈ l, p.1.bs.length ≤ maxLen) : PksR w.heap.size wr.heap.size wr (.slice (some ⟨w.heap.size, 0, none⟩) l.length l.length) L := by
  have e : L.length = l.length := h.len
  refine ⟨by omega, by rw [e]; exact ⟨_, _, rfl⟩, fun h0 => ?_, fun p hp => ⟨.of ((h.bytes p hp).le (Nat.le_succ _)), ?_⟩, h.apart⟩
  · exact ⟨w.heap.size, l.length, by rw [e], Nat.le_refl _, h.size, h.size, by rw [e]; exact h.there, fun j hj => h.rows j (by omega), fun p hp e => by have := ((h.bytes p hp).2.lt _ e).1; omega⟩
  · have hm : p.1 ∈ cont l := by
      have : p.1 ∈ cont L := List.mem_map_of_mem hp
      rwa [h.con, List.take_length] at this
    obtain ⟨p', hp', e'⟩ := List.mem_map.1 hm
    rw [← e']; exact hbl p' hp'

set_option maxHeartbeats 4000000 in
set_option maxRecDepth 100000 in
theorem toPacketS_u (v : Value) (l : List Pk) (w : World) (hv : Pks w v l) (hl' : l.length ≤ 1048576) (hbl : ∀ p ∈ l, p.1.bs.length ≤ 1048576) :
    Calls Try.prog 44 #[v] w fun r w' => ∃ q L, r = .returned (.slice (some ⟨q, 0, none⟩) l.length l.length) ∧ cont L = cont l ∧ PksR w.heap.size w'.heap.size w' (.slice (some ⟨q, 0, none⟩) l.length l.length) L ∧ Below w.heap.size w w' := by
  have HV : Hid (Pks w v l) := hv
  obtain ⟨hl, _, a, cap, rfl, hc⟩ := hv
  obtain ⟨i0, hi, hz0, hz1, hz2⟩ := info_parts infoPk
  have hmk : ∀ u : World, (Instr.makeSlice 27 (.int .i64 (l.length : Int)) (.int .i64 (l.length : Int))).run Try.prog u =
      .ok (.slice (some ⟨u.heap.size, 0, none⟩) l.length l.length) (u.alloc (.cells (madeCells #[.int .i64 0, .int .i64 0, .int .i64 0, .slice none 0 0] (l.length * 4)) 60)) := fun u => by
    have h := run_make (P := Try.prog) u 27 60 i0 _ Try.underlying27 hi hz0 .i64 .i64 (l.length : Int) (l.length : Int) (by omega) (Int.le_refl _) (by rw [hz2]; omega) (by omega)
    simpa [hz1, Value.cells] using h
  go_enter Try.func44, Try.ntmps44
  go_wp2
  go_loopw [4] (fun i wr => ∃ (k : Nat) (L : List Pk), k ≤ l.length ∧ i = .int .i64 k ∧ CopP w wr l L k) (fun i _ => l.length - (intOf i).toNat)
  case atStart => exact ⟨0, [], Nat.zero_le _, rfl, ⟨(Below.refl _ _).alloc (Nat.le_refl _) _, by simp, by have h := there_new' w (madeCells #[.int .i64 0, .int .i64 0, .int .i64 0, .slice none 0 0] (l.length * 4)) 60; rwa [size_madeCells] at h, rfl, rfl, fun j hj => absurd hj (by simp), fun p hp => absurd hp (by simp), .nil⟩⟩
  case round =>
    obtain ⟨k, L, hk, rfl, hC⟩ := hrel
    have hsz := hC.size
    by_cases hlt : k < l.length
    · obtain ⟨b, off, rfl, hcell⟩ := hc k hlt
      obtain ⟨c0, c1, c2, c3⟩ := (hcell k hlt).below hC.below
      have hbs : Bs wr l[k].2 l[k].1.bs := (HV.out.bs k hlt).below hC.below
      obtain ⟨a', cap', e3⟩ := hbs.sh
      rw [e3] at c3 hbs
      have hbk := hbl _ (List.getElem_mem hlt)
      have HC : Hid (CopP w wr l L k) := hC
      have HS : Hid (∀ w1 u, CopP w w1 l L k → Own w1 wr.heap.size u l[k].1.bs → CopP w ((((w1.setCell ⟨w.heap.size, k * 4, none⟩ (.int .i64 l[k].1.id)).setCell ⟨w.heap.size, k * 4 + 1, none⟩ (.int .i64 l[k].1.fr)).setCell ⟨w.heap.size, k * 4 + 2, none⟩ (.int .i64 l[k].1.tq)).setCell ⟨w.heap.size, k * 4 + 3, none⟩ u) l (L ++ [(l[k].1, u)]) (k + 1)) := fun w1 u h1 hu => h1.step hlt u hu hC.lts hC.size
      clear hcell hc hC e3 hbl
      generalize l[k] = p at *
      go_wp2_with (go_at_call 84; refine (toPacket_any _ _ _ _ _ _ _ hbs hbk).mono ?_; rintro r w1 ⟨q, rfl, ho1, hb1⟩; have HC1 : Hid (CopP w w1 l L k) := HC.out.later hb1; obtain ⟨y0, d0⟩ := there_get' HC1.out.there (k * 4) (by omega); obtain ⟨y1, d1⟩ := there_get' HC1.out.there (k * 4 + 1) (by omega); obtain ⟨y2, d2⟩ := there_get' HC1.out.there (k * 4 + 2) (by omega); obtain ⟨y3, d3⟩ := there_get' HC1.out.there (k * 4 + 3) (by omega); have f0 := there_free' HC1.out.there (k * 4) (by omega); have f1 := there_free' HC1.out.there (k * 4 + 1) (by omega); have f2 := there_free' HC1.out.there (k * 4 + 2) (by omega); have f3 := there_free' HC1.out.there (k * 4 + 3) (by omega); clear c0 c1 c2 c3 hb1)
      go_roundw
      case rel => exact ⟨k + 1, _, by omega, by go_num, HS.out _ _ HC1.out ho1⟩
      case measure => simp [intOf]; omega
    · have e : k = l.length := by omega
      subst e
      have hc' : cont L = cont l := by rw [hC.con, List.take_length]
      go_wp2
      go_ret
      exact ⟨_, L, rfl, hc', hC.r hl fun p hp => (by have := hbl p hp; unfold maxLen; omega), hC.below⟩
end Go.Proofs.Ytfcmffdljfljkaa

/-
  laws.markPacketS, heldPacketS: what is marked is held.
-/
namespace Go.Proofs.Ytfcmffdljfljkaa
open Go.RowKit
set_option linter.unusedVariables false
set_option linter.unusedSimpArgs false

/-- how many marks packets take -/
def mkN (l : List Pkt) : Nat := 3 * l.length + bulk l
def mkPk (k : Nat) (p : Pkt) : Pkt := ⟨k, (k + 1 : Nat), (k + 2 : Nat), marksL (k + 3) p.bs.length⟩
def mkPs : Nat → List Pk → List Pk
  | _, [] => []
  | k, p :: l => (mkPk k p.1, p.2) :: mkPs (k + 3 + p.1.bs.length) l
theorem mkPs_len (l : List Pk) : ∀ k, (mkPs k l).length = l.length := by
  induction l with
  | nil => intro k; rfl
  | cons p l ih => intro k; rw [mkPs, List.length_cons, ih, List.length_cons]
theorem mkN_app (l m : List Pk) : mkN (cont (l ++ m)) = mkN (cont l) + mkN (cont m) := by
  simp only [mkN, cont, List.map_append, bulk_app, List.length_append]; omega
theorem mkPs_app (l m : List Pk) : ∀ k, mkPs k (l ++ m) = mkPs k l ++ mkPs (k + mkN (cont l)) m := by
  induction l with
  | nil => intro k; simp [mkPs, mkN, cont, bulk]
  | cons p l ih =>
    intro k
    rw [List.cons_append, mkPs, ih, mkPs, List.cons_append]
    congr 3
    simp [mkN, cont, bulk]; omega
theorem mkN_take (l : List Pk) (j : Nat) (h : j < l.length) : mkN (cont (l.take (j + 1))) = mkN (cont (l.take j)) + 3 + l[j].1.bs.length := by
  rw [List.take_succ_eq_append_getElem h, mkN_app]
  simp [mkN, cont, bulk]; omega
theorem mkN_take_le (l : List Pk) (j : Nat) : mkN (cont (l.take j)) ≤ mkN (cont l) := by
  have := bulk_take_le l j
  simp only [mkN, cont_len, List.length_take]; omega
theorem mkPs_step (k : Nat) (l : List Pk) (j : Nat) (h : j < l.length) :
    (mkPs k (l.take j) ++ l.drop j).set j (mkPk (k + mkN (cont (l.take j))) l[j].1, l[j].2) = mkPs k (l.take (j + 1)) ++ l.drop (j + 1) := by
  have hl : (mkPs k (l.take j)).length = j := by rw [mkPs_len, List.length_take]; omega
  rw [List.set_append_right _ _ (by omega), hl, Nat.sub_self, List.drop_eq_getElem_cons h, List.set_cons_zero, List.take_succ_eq_append_getElem h, mkPs_app]
  simp [mkPs]
theorem mk_at (k : Nat) (l : List Pk) (j : Nat) (h : j < l.length) (h' : j < (mkPs k (l.take j) ++ l.drop j).length) : (mkPs k (l.take j) ++ l.drop j)[j] = l[j] := by
  have hl : (mkPs k (l.take j)).length = j := by rw [mkPs_len, List.length_take]; omega
  rw [List.getElem_append_right (by omega)]
  simp [hl]
theorem mkPs_get (k : Nat) (l : List Pk) (j : Nat) (h : j < l.length) (h' : j < (mkPs k l).length) : (mkPs k l)[j] = (mkPk (k + mkN (cont (l.take j))) l[j].1, l[j].2) := by
  have e : mkPs k l = mkPs k (l.take j) ++ mkPs (k + mkN (cont (l.take j))) (l.drop j) := by rw [← mkPs_app, List.take_append_drop]
  have hl : (mkPs k (l.take j)).length = j := by rw [mkPs_len, List.length_take]; omega
  have e2 : (mkPs k l)[j]? = some (mkPk (k + mkN (cont (l.take j))) l[j].1, l[j].2) := by
    rw [e, List.getElem?_append_right (by omega), hl, Nat.sub_self, List.drop_eq_getElem_cons h]
    rfl
  exact (List.getElem?_eq_some_iff.1 e2).2

theorem setO {w : World} {q o o' : Nat} {x : Value} (h : o ≠ o') : (w.setCell ⟨q, o, none⟩ x).cell? ⟨q, o', none⟩ = w.cell? ⟨q, o', none⟩ := World.cell?_setCell_other w _ _ _ (by intro e; injection e with _ h2 _; omega)
theorem markByteS_z (v : Value) (l : List Int) (z : Int) (k0 : Nat) (hz : z = (k0 : Int)) (w : World) (B : Nat) (hv : Own w B v l) (hl : l.length ≤ 20000000) (hk0 : k0 ≤ 20000000) :
    Calls Try.prog 20 #[v, .int .i64 z] w fun e w' => e = .returned (.int .i64 ((k0 + l.length : Nat) : Int)) ∧ Own w' B v (marksL k0 l.length) ∧ w.grownBy w' v.ownBlock := by subst hz; exact markByteS_any v l k0 w B hv hl hk0
theorem heldByteS_z (v : Value) (z : Int) (k0 n : Nat) (hz : z = (k0 : Int)) (w : World) (hv : Bs w v (marksL k0 n)) (hn : n ≤ 20000000) (hk0 : k0 ≤ 20000000) :
    Calls Try.prog 29 #[v, .int .i64 z] w fun e w' => e = .returned (.int .i64 ((k0 + n : Nat) : Int)) ∧ w' = w := by subst hz; exact heldByteS_any v k0 n w hv hn hk0

/-- the three numbers of packet j are written, then its bytes -/
theorem PksR.put {w w' : World} {lo hi q : Nat} {cap : Nat} {l : List Pk} (h : PksR lo hi w (.slice (some ⟨q, 0, none⟩) l.length cap) l) (j : Nat) (hj : j < l.length) (i f t : Int) (bs : List Int) (hbl : bs.length ≤ maxLen)
    (hg : ((((w.setCell ⟨q, j * 4, none⟩ (.int .i64 i)).setCell ⟨q, j * 4 + 1, none⟩ (.int .i64 f)).setCell ⟨q, j * 4 + 2, none⟩ (.int .i64 t))).grownBy w' l[j].2.ownBlock) (ho : Own w' lo l[j].2 bs) :
    PksR lo hi w' (.slice (some ⟨q, 0, none⟩) l.length cap) (l.set j (⟨i, f, t, bs⟩, l[j].2)) := by
  obtain ⟨q', cap', e, h1, h2, h3, h4, h5, h6⟩ := h.row (by omega)
  injection e with e1 _ e3
  injection e1 with e1
  injection e1 with e1
  subst e1 e3
  have hjm : l[j] ∈ l := List.getElem_mem hj
  have hqj : l[j].2.ownBlock ≠ some q := h6 _ hjm
  have hbq : w'.heap[q]? = _ := hg.block q (by simpa [World.setCell] using h3) (fun e => hqj e.symm)
  have hoth : ∀ k, k < w.heap.size → k ≠ q → l[j].2.ownBlock ≠ some k → w'.heap[k]? = w.heap[k]? := fun k hk hne hn => by
    rw [hg.block k (by simpa [World.setCell] using hk) (fun e => hn e.symm)]
    rw [Below.heap_setCell _ _ _ _ (by simpa using hne), Below.heap_setCell _ _ _ _ (by simpa using hne), Below.heap_setCell _ _ _ _ (by simpa using hne)]
  have hblk : l[j].2.ownBlock = (l.set j ((⟨i, f, t, bs⟩ : Pkt), l[j].2))[j]?.bind fun p => p.2.ownBlock := by simp [hj]
  have hmem : ∀ p ∈ l.set j ((⟨i, f, t, bs⟩ : Pkt), l[j].2), (∃ p' ∈ l, p'.2 = p.2) := fun p hp => by
    rcases List.mem_or_eq_of_mem_set hp with hp | rfl
    · exact ⟨p, hp, rfl⟩
    · exact ⟨l[j], hjm, rfl⟩
  have hap : ∀ a b (ha : a < l.length) (hb : b < l.length), a ≠ b → Far l[a].2 l[b].2 := fun a b ha hb hne => by
    rcases Nat.lt_or_ge a b with h' | h'
    · exact List.pairwise_iff_getElem.1 h.apart a b ha hb h'
    · intro k e1 e2
      exact List.pairwise_iff_getElem.1 h.apart b a hb ha (by omega) k e2 e1
  refine ⟨by rw [List.length_set]; exact h.len, by rw [List.length_set]; exact ⟨_, _, rfl⟩, fun _ => ⟨q, cap, by rw [List.length_set], h1, h2, lt_keepP hbq (by simpa [World.setCell] using h3), ?_, fun a ha => ?_, fun p hp => ?_⟩, fun p hp => ?_, ?_⟩
  · rw [List.length_set]
    exact there_block' (there_set' (there_set' (there_set' h4 _ _ _) _ _ _) _ _ _) hbq
  · have ha' : a < l.length := by simpa using ha
    refine PkAt.block ?_ hbq
    by_cases e : a = j
    · subst e
      rw [List.getElem_set_self]
      obtain ⟨c0, c1, c2, c3⟩ := h5 a ha'
      have hr := World.rangeAt_setCells_same w q (a * 4) [.int .i64 i, .int .i64 f, .int .i64 t] (there_sub h4 _ _ (by simp; omega))
      refine ⟨hr 0 _ rfl, hr 1 _ rfl, hr 2 _ rfl, ?_⟩
      rw [setO (by omega), setO (by omega), setO (by omega)]
      exact c3
    · rw [List.getElem_set_ne (fun e' => e e'.symm)]
      obtain ⟨c0, c1, c2, c3⟩ := h5 a ha'
      have hh : ∀ s, s < 4 → ((((w.setCell ⟨q, j * 4, none⟩ (.int .i64 i)).setCell ⟨q, j * 4 + 1, none⟩ (.int .i64 f)).setCell ⟨q, j * 4 + 2, none⟩ (.int .i64 t))).cell? ⟨q, a * 4 + s, none⟩ = w.cell? ⟨q, a * 4 + s, none⟩ := fun s hs => by
        rw [setO (by omega), setO (by omega), setO (by omega)]
      exact ⟨(hh 0 (by omega)).trans c0, (hh 1 (by omega)).trans c1, (hh 2 (by omega)).trans c2, (hh 3 (by omega)).trans c3⟩
  · obtain ⟨p', hp', e⟩ := hmem p hp
    rw [← e]; exact h6 p' hp'
  · obtain ⟨a, ha, rfl⟩ := List.mem_iff_getElem.1 hp
    have ha' : a < l.length := by simpa using ha
    by_cases e : a = j
    · subst e
      rw [List.getElem_set_self]
      exact ⟨⟨ho, (h.bytes _ hjm).1.lt⟩, hbl⟩
    · rw [List.getElem_set_ne (fun e' => e e'.symm)]
      have ham : l[a] ∈ l := List.getElem_mem ha'
      obtain ⟨hb1, hb2⟩ := h.bytes _ ham
      refine ⟨⟨hb1.own.block fun k ek => hoth k (hb1.own.2.lt k ek).2 (fun e' => h6 _ ham (by rw [ek, e'])) (hap a j ha' hj e k ek), hb1.lt⟩, hb2⟩
  · rw [List.pairwise_iff_getElem]
    intro a b ha1 hb1 hab
    have ha : a < l.length := by simpa using ha1
    have hb : b < l.length := by simpa using hb1
    have e : ∀ c (hc : c < l.length) (hc' : c < (l.set j ((⟨i, f, t, bs⟩ : Pkt), l[j].2)).length), (l.set j ((⟨i, f, t, bs⟩ : Pkt), l[j].2))[c].2 = l[c].2 := fun c hc hc' => by
      by_cases e : c = j
      · subst e; rw [List.getElem_set_self]
      · rw [List.getElem_set_ne (fun e' => e e'.symm)]
    rw [e a ha, e b hb]
    exact hap a b ha hb (by omega)

/-- of the blocks that were there, only those of S have turned -/
structure Touched (S : Nat → Prop) (w w' : World) : Prop where
  os : w'.os = w.os
  tape : w'.tape = w.tape
  output : w'.output = w.output
  size : w.heap.size ≤ w'.heap.size
  block : ∀ k, k < w.heap.size → ¬ S k → w'.heap[k]? = w.heap[k]?
theorem Touched.refl (S : Nat → Prop) (w : World) : Touched S w w := ⟨rfl, rfl, rfl, Nat.le_refl _, fun _ _ _ => rfl⟩
theorem Touched.trans {S : Nat → Prop} {w w1 w2 : World} (h : Touched S w w1) (k : Touched S w1 w2) : Touched S w w2 :=
  ⟨k.os.trans h.os, k.tape.trans h.tape, k.output.trans h.output, Nat.le_trans h.size k.size, fun i hi hn => (k.block i (Nat.lt_of_lt_of_le hi h.size) hn).trans (h.block i hi hn)⟩
theorem Touched.rows {S : Nat → Prop} {w w' : World} {row : Option Nat} (h : w.grownBy w' row) (h1 : ∀ k, row = some k → S k) : Touched S w w' :=
  ⟨h.os, h.tape, h.output, h.size, fun k hk hn => h.block k hk (fun e => hn (h1 k e.symm))⟩
theorem Touched.turned {S : Nat → Prop} {w w' : World} {lo hi : Nat} (h : Touched S w w') (h1 : ∀ k, S k → lo ≤ k ∧ k < hi) : Turned lo hi w w' :=
  ⟨h.os, h.tape, h.output, h.size, fun k hk hn => h.block k hk (fun e => by have := h1 k e; omega)⟩
theorem Touched.of_below {S : Nat → Prop} {w w' : World} (h : Below w.heap.size w w') : Touched S w w' := ⟨h.os, h.tape, h.output, h.size, fun k hk _ => h.block k hk⟩
theorem Touched.wide {S S' : Nat → Prop} {w w' : World} (h : Touched S w w') (h1 : ∀ k, S k → S' k) : Touched S' w w' := ⟨h.os, h.tape, h.output, h.size, fun k hk hn => h.block k hk fun e => hn (h1 k e)⟩
/-- the blocks that packets lie in -/
def pkBlocks (v : Value) (l : List Pk) (k : Nat) : Prop := (0 < l.length ∧ v.ownBlock = some k) ∨ ∃ p ∈ l, p.2.ownBlock = some k
theorem PksR.blocks {w : World} {lo hi : Nat} {v : Value} {l : List Pk} (h : PksR lo hi w v l) : ∀ k, pkBlocks v l k → lo ≤ k ∧ k < hi := fun k hk => by
  rcases hk with ⟨h0, e⟩ | ⟨p, hp, e⟩
  · obtain ⟨q, cap, rfl, h1, h2, _⟩ := h.row h0
    injection e with e
    subst e
    exact ⟨h1, h2⟩
  · exact (h.bytes p hp).1.lt k e

set_option maxHeartbeats 4000000 in
set_option maxRecDepth 100000 in
theorem markPacketS_u (v : Value) (l : List Pk) (k0 : Nat) (w : World) {lo hi : Nat} (hv : PksR lo hi w v l) (hlo : lo ≤ w.heap.size) (hl : l.length ≤ 1100000) (hb : bulk (cont l) ≤ 2200000) (hk0 : k0 ≤ 10000000) :
    Calls Try.prog 52 #[v, .int .i64 k0] w fun r w' => r = .returned (.int .i64 ((k0 + mkN (cont l) : Nat) : Int)) ∧ PksR lo hi w' v (mkPs k0 l) ∧ Touched (pkBlocks v l) w w' := by
  have hsh := hv.sh
  obtain ⟨a, cap, rfl⟩ := hsh
  have hrow : 0 < l.length → ∃ q, a = some ⟨q, 0, none⟩ ∧ lo ≤ q ∧ q < hi := fun h0 => by
    obtain ⟨q, cap', e, h1, h2, _⟩ := hv.row h0
    injection e with e1 _ _
    exact ⟨q, e1, h1, h2⟩
  have hmN : ∀ j, mkN (cont (l.take j)) ≤ 6000000 := fun j => by
    have h1 := mkN_take_le l j
    have h2 : mkN (cont l) ≤ 6000000 := by simp only [mkN, cont_len]; omega
    omega
  have HV : Hid (PksR lo hi w (.slice a l.length cap) l) := hv
  clear hv
  go_enter Try.func52, Try.ntmps52
  go_wp2
  go_loopw [1, 5] (fun c i wr => ∃ j : Nat, j ≤ l.length ∧ i = .int .i64 j ∧ c = .int .i64 ((k0 + mkN (cont (l.take j)) : Nat) : Int) ∧ PksR lo hi wr (.slice a l.length cap) (mkPs k0 (l.take j) ++ l.drop j) ∧ Touched (pkBlocks (.slice a l.length cap) l) w wr) (fun _ i _ => l.length - (intOf i).toNat)
  case atStart => exact ⟨0, Nat.zero_le _, rfl, by simp [mkN, cont, bulk], by simpa [mkPs] using HV.out, Touched.refl _ _⟩
  case round =>
    obtain ⟨j, hj, rfl, rfl, hP, hT⟩ := hrel
    have hsz := hT.size
    by_cases hlt : j < l.length
    · obtain ⟨q, rfl, hq1, hq2⟩ := hrow (by omega)
      have hlen : (mkPs k0 (l.take j) ++ l.drop j).length = l.length := by rw [List.length_append, mkPs_len, List.length_take, List.length_drop]; omega
      have hP' : PksR lo hi wr (.slice (some ⟨q, 0, none⟩) (mkPs k0 (l.take j) ++ l.drop j).length cap) (mkPs k0 (l.take j) ++ l.drop j) := by rw [hlen]; exact hP
      obtain ⟨q', cap', e, g1, g2, g3, g4, g5, g6⟩ := hP'.row (by omega)
      injection e with e1 _ e3
      injection e1 with e1
      injection e1 with e1
      subst e1 e3
      rw [hlen] at g4
      have hjj : j < (mkPs k0 (l.take j) ++ l.drop j).length := by omega
      have hat := mk_at k0 l j hlt hjj
      obtain ⟨c0, c1, c2, c3⟩ := g5 j hjj
      rw [hat] at c0 c1 c2 c3
      have hpm : l[j] ∈ mkPs k0 (l.take j) ++ l.drop j := by rw [← hat]; exact List.getElem_mem hjj
      have hby := (hP'.bytes _ hpm).1
      have hne : l[j].2.ownBlock ≠ some q := g6 _ hpm
      obtain ⟨a', cap', e3⟩ := hby.own.shape
      have f0 := there_free' g4 (j * 4) (by omega)
      have f1 := there_free' g4 (j * 4 + 1) (by omega)
      have f2 := there_free' g4 (j * 4 + 2) (by omega)
      have hbj : l[j].1.bs.length ≤ 2200000 := by
        have : l[j].1 ∈ cont l := List.mem_map_of_mem (List.getElem_mem hlt)
        have := bulk_mem this
        omega
      have hmj := hmN j
      have HSt : Hid (mkN (cont (l.take (j + 1))) = mkN (cont (l.take j)) + 3 + l[j].1.bs.length) := mkN_take l j hlt
      have HM : Hid (∀ (w2 : World) (i f t : Int), i = ((k0 + mkN (cont (l.take j)) : Nat) : Int) → f = ((k0 + mkN (cont (l.take j)) + 1 : Nat) : Int) → t = ((k0 + mkN (cont (l.take j)) + 2 : Nat) : Int) → ((((wr.setCell ⟨q, j * 4, none⟩ (.int .i64 i)).setCell ⟨q, j * 4 + 1, none⟩ (.int .i64 f)).setCell ⟨q, j * 4 + 2, none⟩ (.int .i64 t))).grownBy w2 l[j].2.ownBlock → Own w2 lo l[j].2 (marksL (k0 + mkN (cont (l.take j)) + 3) l[j].1.bs.length) → PksR lo hi w2 (.slice (some ⟨q, 0, none⟩) l.length cap) (mkPs k0 (l.take (j + 1)) ++ l.drop (j + 1)) ∧ Touched (pkBlocks (.slice (some ⟨q, 0, none⟩) l.length cap) l) w w2) := fun w2 i f t ei ef et hg ho => by
        subst ei ef et
        refine ⟨?_, ?_⟩
        · have h := hP'.put j hjj ((k0 + mkN (cont (l.take j)) : Nat) : Int) ((k0 + mkN (cont (l.take j)) + 1 : Nat) : Int) ((k0 + mkN (cont (l.take j)) + 2 : Nat) : Int) (marksL (k0 + mkN (cont (l.take j)) + 3) l[j].1.bs.length) (by rw [marksL_len]; unfold maxLen; omega) (by rw [hat]; exact hg) (by rw [hat]; exact ho)
          rw [hat, hlen] at h
          rw [← mkPs_step k0 l j hlt]
          exact h
        · refine hT.trans ((Touched.rows (grown_trans (grown_trans (grown_set wr q _ _ (some q) rfl) (grown_set _ _ _ _ _ rfl)) (grown_set _ _ _ _ _ rfl)) (fun k e => .inl ⟨by omega, e⟩)).trans (Touched.rows hg fun k e => .inr ⟨l[j], List.getElem_mem hlt, e⟩))
      have HO : Hid (∀ u, (∀ k, l[j].2.ownBlock = some k → u.heap[k]? = wr.heap[k]?) → Own u lo l[j].2 l[j].1.bs) := fun u hu => hby.own.block hu
      have HNE : Hid (l[j].2.ownBlock ≠ some q) := hne
      clear hP hP' hpm hby hat g5 g6 g4 hrow HV hT hne hmN hjj hlen
      rw [e3] at c3 HM HO HNE
      clear e3
      generalize l[j].1 = p at *
      generalize mkN (cont (l.take j)) = M at *
      go_wp2_with (go_at_call 20; refine (markByteS_z _ p.bs _ (k0 + M + 3) (by omega) _ lo (HO.out _ (fun k ek => (by have hne : k ≠ q := fun e => HNE.out (by rw [ek, e]); rw [Below.heap_setCell _ _ _ _ (by simpa using hne), Below.heap_setCell _ _ _ _ (by simpa using hne), Below.heap_setCell _ _ _ _ (by simpa using hne)]))) (by omega) (by omega)).mono ?_; rintro r w1 ⟨rfl, ho1, hg1⟩; have HH : Hid (PksR lo hi w1 (.slice (some ⟨q, 0, none⟩) l.length cap) (mkPs k0 (l.take (j + 1)) ++ l.drop (j + 1)) ∧ Touched (pkBlocks (.slice (some ⟨q, 0, none⟩) l.length cap) l) w w1) := HM.out w1 _ _ _ (by omega) (by omega) (by omega) hg1 ho1; clear hg1 ho1)
      go_roundw
      case rel => exact ⟨j + 1, by omega, by go_num, by have := HSt.out; go_num, HH.out.1, HH.out.2⟩
      case measure => simp [intOf]; omega
    · obtain rfl : j = l.length := by omega
      rw [List.take_length, List.drop_length, List.append_nil] at hP
      go_wp2
      go_ret
      exact ⟨by simp, hP, hT⟩

set_option maxHeartbeats 4000000 in
set_option maxRecDepth 100000 in
theorem heldPacketS_u (v : Value) (l : List Pk) (k0 : Nat) (w : World) {lo hi : Nat} (hv : PksR lo hi w v (mkPs k0 l)) (hl : l.length ≤ 1100000) (hb : bulk (cont l) ≤ 2200000) (hk0 : k0 ≤ 10000000) :
    Calls Try.prog 54 #[v, .int .i64 k0] w fun r w' => r = .returned (.int .i64 ((k0 + mkN (cont l) : Nat) : Int)) ∧ w' = w := by
  obtain ⟨a, cap, rfl⟩ := hv.sh
  rw [mkPs_len] at hv ⊢
  have hmN : ∀ j, mkN (cont (l.take j)) ≤ 6000000 := fun j => by
    have h1 := mkN_take_le l j
    have h2 : mkN (cont l) ≤ 6000000 := by simp only [mkN, cont_len]; omega
    omega
  have hrow : ∀ j, j < l.length → ∃ q, a = some ⟨q, 0, none⟩ ∧ ∃ p' : Value, PkAt w q (j * 4) (mkPk (k0 + mkN (cont (l.take j))) (l[j]?.getD ([].headD (⟨0, 0, 0, []⟩, .slice none 0 0))).1, p') ∧ Bs w p' (marksL (k0 + mkN (cont (l.take j)) + 3) (l[j]?.getD ([].headD (⟨0, 0, 0, []⟩, .slice none 0 0))).1.bs.length) := fun j hj => by
    have hj' : j < (mkPs k0 l).length := by rw [mkPs_len]; exact hj
    obtain ⟨q, cap', e, h1, h2, h3, h4, h5, h6⟩ := hv.row (by omega)
    injection e with e1 _ _
    have h := h5 j hj'
    have hb' := (hv.bytes _ (List.getElem_mem hj'))
    rw [mkPs_get k0 l j hj hj'] at h hb'
    rw [List.getElem?_eq_getElem hj]
    exact ⟨q, e1, _, h, hb'.1.bs hb'.2⟩
  clear hv
  go_enter Try.func54, Try.ntmps54
  go_wp2
  go_loopw [1, 5] (fun c i wr => ∃ j : Nat, j ≤ l.length ∧ i = .int .i64 j ∧ c = .int .i64 ((k0 + mkN (cont (l.take j)) : Nat) : Int) ∧ wr = w) (fun _ i _ => l.length - (intOf i).toNat)
  case atStart => exact ⟨0, Nat.zero_le _, rfl, by simp [mkN, cont, bulk], rfl⟩
  case round =>
    obtain ⟨j, hj, rfl, rfl, hwr⟩ := hrel
    obtain rfl := hwr.symm
    by_cases hlt : j < l.length
    · obtain ⟨q, rfl, p', ⟨c0, c1, c2, c3⟩, hB⟩ := hrow j hlt
      have HSt : Hid (mkN (cont (l.take (j + 1))) = mkN (cont (l.take j)) + 3 + (l[j]?.getD ([].headD (⟨0, 0, 0, []⟩, .slice none 0 0))).1.bs.length) := by
        show _ = _
        rw [mkN_take l j hlt, List.getElem?_eq_getElem hlt]; rfl
      have hbj : (l[j]?.getD ([].headD (⟨0, 0, 0, []⟩, .slice none 0 0))).1.bs.length ≤ 2200000 := by
        rw [List.getElem?_eq_getElem hlt]
        have : l[j].1 ∈ cont l := List.mem_map_of_mem (List.getElem_mem hlt)
        have := bulk_mem this
        show l[j].1.bs.length ≤ _
        omega
      have hmj := hmN j
      obtain ⟨a', cap', e3⟩ := hB.sh
      subst e3
      clear hrow hmN hwr
      generalize (l[j]?.getD ([].headD (⟨0, 0, 0, []⟩, .slice none 0 0))).1 = p at *
      generalize mkN (cont (l.take j)) = M at *
      have e0 : w.cell? ⟨q, j * 4, none⟩ = some (.int .i64 ((k0 : Int) + M)) := by rw [c0]; simp [mkPk]
      have e1 : w.cell? ⟨q, j * 4 + 1, none⟩ = some (.int .i64 ((k0 : Int) + M + 1)) := by rw [c1]; simp [mkPk]
      have e2 : w.cell? ⟨q, j * 4 + 2, none⟩ = some (.int .i64 ((k0 : Int) + M + 1 + 1)) := by rw [c2]; simp [mkPk]; omega
      clear c0 c1 c2
      go_wp2_with (go_at_call 29; refine (heldByteS_z _ _ (k0 + M + 3) _ (by omega) _ hB (by omega) (by omega)).mono ?_; rintro r w1 ⟨rfl, hw1⟩; obtain rfl := hw1.symm)
      go_roundw
      case rel => exact ⟨j + 1, by omega, by go_num, by have := HSt.out; go_num, trivial⟩
      case measure => simp [intOf]; omega
    · obtain rfl : j = l.length := by omega
      go_wp2
      go_ret
      exact ⟨by simp, rfl⟩
end Go.Proofs.Ytfcmffdljfljkaa

/-
  slices.Delete at packets: one packet out of a row of one's own.
-/
namespace Go.Proofs.Ytfcmffdljfljkaa
open Go.RowKit
set_option linter.unusedVariables false
set_option linter.unusedSimpArgs false

def zeroPk : List Value := [.int .i64 0, .int .i64 0, .int .i64 0, .slice none 0 0]
theorem zeroPkV (w : World) : (zeroValue 60).run Try.prog w = .ok (.agg #[.int .i64 0, .int .i64 0, .int .i64 0, .slice none 0 0]) w := by kernel_rfl
theorem run_clear_pk (w : World) (ty : TypeId) (b o c : Nat) (hc : ∀ j, j < 4 → (w.cell? ⟨b, o + j, none⟩).isSome = true) (hf : ∀ j, j < 4 → w.frozen? ⟨b, o + j, none⟩ = false) :
    (Builtin.clear_ #[27] ty #[.slice (some ⟨b, o, none⟩) 1 c]).run Try.prog w = .ok (.tuple #[]) (w.setCells b o zeroPk) := by
  have hzc : (Builtin.zeroCells (Value.agg #[.int .i64 0, .int .i64 0, .int .i64 0, .slice none 0 0]).cells 1).toList = zeroPk := by kernel_rfl
  have hst := run_storeCells_cells (P := Try.prog) b o zeroPk 0 w (by simpa [zeroPk] using hc) (by simpa [zeroPk] using hf) (by intro v hv; simp only [zeroPk, List.mem_cons, List.not_mem_nil, or_false] at hv; rcases hv with rfl | rfl | rfl | rfl <;> rfl)
  simp only [Nat.add_zero] at hst
  simp [Builtin.clear_, run_underlying Try.underlying27, zeroPkV, hzc, hst]

/-- the row behind the deletion -/
theorem del_at {w : World} {g i : Nat} {L : List Pk} (hi : i < L.length) (hth : w.there g 0 (L.length * 4)) (hc : ∀ j (h : j < L.length), PkAt w g (j * 4) L[j]) :
    ∀ j (h : j < (L.eraseIdx i).length), PkAt ((w.setCells g (i * 4) (pksC (L.drop (i + 1)))).setCells g ((L.length - 1) * 4) zeroPk) g (j * 4) (L.eraseIdx i)[j] := by
  intro j hj
  have hj' : j < L.length - 1 := by rw [List.length_eraseIdx_of_lt hi] at hj; exact hj
  have hlen : (pksC (L.drop (i + 1))).length = (L.length - (i + 1)) * 4 := by rw [pksC_len, List.length_drop]
  have key : ∀ t, t < 4 → ((w.setCells g (i * 4) (pksC (L.drop (i + 1)))).setCells g ((L.length - 1) * 4) zeroPk).cell? ⟨g, j * 4 + t, none⟩ = (pkC (L.eraseIdx i)[j])[t]? := by
    intro t ht
    rw [World.cell?_setCells_out _ _ _ _ _ (fun _ _ => .inl (by simp only []; omega))]
    by_cases hji : j < i
    · rw [World.cell?_setCells_out _ _ _ _ _ (fun _ _ => .inl (by simp only []; omega))]
      have e : (L.eraseIdx i)[j] = L[j] := by rw [List.getElem_eraseIdx]; simp [hji]
      rw [e]
      obtain ⟨c0, c1, c2, c3⟩ := hc j (by omega)
      rcases (show t = 0 ∨ t = 1 ∨ t = 2 ∨ t = 3 by omega) with rfl | rfl | rfl | rfl
      · exact c0
      · exact c1
      · exact c2
      · exact c3
    · have e : (L.eraseIdx i)[j] = L[j + 1] := by rw [List.getElem_eraseIdx]; simp [hji]
      have hk : (j - i) * 4 + t < (pksC (L.drop (i + 1))).length := by rw [hlen]; omega
      have h1 := World.cell?_setCells_in g (pksC (L.drop (i + 1))) (i * 4) w (fun k hk' => by
        have := (hth (i * 4 + k) (by rw [hlen] at hk'; omega)).1
        rwa [Nat.zero_add] at this) ((j - i) * 4 + t) hk
      rw [show j * 4 + t = i * 4 + ((j - i) * 4 + t) by omega, h1, e, ← List.getElem?_eq_getElem hk, pksC_get _ (j - i) (by rw [List.length_drop]; omega) t ht]
      congr 2
      rw [List.getElem_drop]
      congr 1
      omega
  exact ⟨key 0 (by omega), key 1 (by omega), key 2 (by omega), key 3 (by omega)⟩

set_option maxHeartbeats 4000000 in
set_option maxRecDepth 100000 in
theorem delete_any (g cap : Nat) (L : List Pk) (i : Nat) (hi : i < L.length) (hcap : L.length ≤ cap) (hm : cap ≤ maxLen) (w : World) (hth : w.there g 0 (L.length * 4)) (hc : ∀ j (h : j < L.length), PkAt w g (j * 4) L[j]) (hone : ∀ p ∈ L, p.2.oneCell' = true) (z : Int) (hz : z = (i : Int) + 1) :
    Calls Try.prog 104 #[.slice (some ⟨g, 0, none⟩) L.length cap, .int .i64 i, .int .i64 z] w fun e w' => e = .returned (.slice (some ⟨g, 0, none⟩) (L.length - 1) cap) ∧ w' = (w.drew.setCells g (i * 4) (pksC (L.drop (i + 1)))).setCells g ((L.length - 1) * 4) zeroPk := by
  obtain ⟨j, hj⟩ : ∃ j, j = i + 1 := ⟨_, rfl⟩
  obtain rfl : z = (j : Int) := by omega
  rw [← hj]
  clear hz
  unfold maxLen at hm
  have hlen : (pksC (L.drop j)).length = (L.length - j) * 4 := by rw [pksC_len, List.length_drop]
  obtain ⟨i0, hi0, hz0, hz1, hz2⟩ := info_parts infoPk
  have hthd : ∀ k, k < L.length * 4 → (w.drew.cell? ⟨g, k, none⟩).isSome = true ∧ w.drew.frozen? ⟨g, k, none⟩ = false := fun k hk => by
    have := hth k hk
    rwa [Nat.zero_add] at this
  obtain ⟨news, hnews⟩ : ∃ news, news = pksC (L.drop j) := ⟨_, rfl⟩
  rw [← hnews] at hlen ⊢
  obtain ⟨A, hA, hsrc⟩ : ∃ A : Addr, Hid ((if cap = j then some (⟨g, 0, none⟩ : Addr) else some ⟨g, j * 4, none⟩) = some A) ∧ Hid (∀ t u, news[t]? = some u → w.drew.cell? (A.add t) = some u) := by
    by_cases h : cap = j
    · refine ⟨⟨g, 0, none⟩, by show _ = _; simp [h], fun t u hu => ?_⟩
      have h0 : news.length = 0 := by rw [hlen]; omega
      rw [List.length_eq_zero_iff.1 h0] at hu
      simp at hu
    · refine ⟨⟨g, j * 4, none⟩, by show _ = _; simp [h], fun t u hu => ?_⟩
      have ht : t < (L.length - j) * 4 := by
        have := (List.getElem?_eq_some_iff.1 hu).1
        rwa [hlen] at this
      rw [hnews, show t = t / 4 * 4 + t % 4 by omega, pksC_get _ (t / 4) (by rw [List.length_drop]; omega) (t % 4) (Nat.mod_lt _ (by omega)), List.getElem_drop] at hu
      rw [Addr.add_lit]
      obtain ⟨c0, c1, c2, c3⟩ := hc (j + t / 4) (by omega)
      have e : j * 4 + t = (j + t / 4) * 4 + t % 4 := by omega
      rw [e]
      have hr : t % 4 < 4 := Nat.mod_lt _ (by omega)
      generalize t % 4 = r at hu hr ⊢
      rcases (show r = 0 ∨ r = 1 ∨ r = 2 ∨ r = 3 by omega) with rfl | rfl | rfl | rfl
      · exact c0.trans hu
      · exact c1.trans hu
      · exact c2.trans hu
      · exact c3.trans hu
  have s1 : Hid (news.length = (L.length - j) * 4) := hlen
  have s2 : Hid (∀ u ∈ news, u.oneCell' = true) := by
    intro u hu
    rw [hnews] at hu
    obtain ⟨t, ht, rfl⟩ := List.mem_iff_getElem.1 hu
    have hu' : (pksC (L.drop j))[t]? = some (pksC (L.drop j))[t] := List.getElem?_eq_getElem ht
    generalize (pksC (L.drop j))[t] = u at hu'
    have ht' : t < (L.length - j) * 4 := by rw [pksC_len, List.length_drop] at ht; exact ht
    rw [show t = t / 4 * 4 + t % 4 by omega, pksC_get _ (t / 4) (by rw [List.length_drop]; omega) (t % 4) (Nat.mod_lt _ (by omega)), List.getElem_drop] at hu'
    have hp := hone L[j + t / 4] (List.getElem_mem _)
    have hr : t % 4 < 4 := Nat.mod_lt _ (by omega)
    generalize t % 4 = r at hu' hr
    rcases (show r = 0 ∨ r = 1 ∨ r = 2 ∨ r = 3 by omega) with rfl | rfl | rfl | rfl
    · simp [pkC] at hu'; subst hu'; rfl
    · simp [pkC] at hu'; subst hu'; rfl
    · simp [pkC] at hu'; subst hu'; rfl
    · simp [pkC] at hu'; subst hu'; exact hp
  have s3 : Hid (∀ t, t < news.length → (w.drew.cell? ⟨g, 0 + i * 4 + t, none⟩).isSome = true ∧ w.drew.frozen? ⟨g, 0 + i * 4 + t, none⟩ = false) := fun t ht => by
    rw [hlen] at ht
    rw [Nat.zero_add]
    exact hthd _ (by omega)
  obtain ⟨W1, hW1⟩ : ∃ W1, W1 = w.drew.setCells g (i * 4) news := ⟨_, rfl⟩
  have hcl : ∀ ty c, (Builtin.clear_ #[27] ty #[.slice (some ⟨g, (i + (L.length - j)) * 4, none⟩) 1 c]).run Try.prog W1 = .ok (.tuple #[]) (W1.setCells g ((i + (L.length - j)) * 4) zeroPk) := fun ty c => run_clear_pk W1 ty g _ c (fun j hj => by
      rw [hW1]; exact World.isSome_setCells g _ _ _ _ (hthd _ (by omega)).1) (fun j hj => by
      rw [hW1, World.frozen?_setCells]; exact (hthd _ (by omega)).2)
  have hW : Hid (W1 = w.drew.setCells g (0 + i * 4) news) := by show _ = _; rw [Nat.zero_add]; exact hW1
  rw [← hW1, show L.length - 1 = i + (L.length - j) by omega]
  have hic : i ≤ cap := by omega
  have hjc : j ≤ cap := by omega
  have hjl : j ≤ L.length := by omega
  have hne : i < j := by omega
  have hne' : ¬ i = j := by omega
  have h1l : L.length - (i + (L.length - j)) = 1 := by omega
  have hij : i + (L.length - j) ≤ cap := by omega
  have hin : i + (L.length - j) ≤ L.length := by omega
  clear hW1 hth hc hthd hnews hlen hone hj
  generalize L.length = n at *
  go_enter Try.func104, Try.ntmps104
  go_wp2_with fail
  have hA' := hA.out
  go_region_law (refine step_append_room rfl (.tmp 22) (.tmp 25) 27 rfl 60 i0 4 Try.underlying27 hi0 hz1 g 0 i cap (by simp [Act.eval, Act.put]) A (n - j) (cap - j) news (by simp [Act.eval, Act.put]) s1.out hsrc.out s2.out (by omega) s3.out ?_; rw [← hW.out])
  go_wp2
  go_ret
  exact ⟨rfl, rfl⟩
end Go.Proofs.Ytfcmffdljfljkaa

/-
  impl.wallsOf, (walls).lose; spec.l3walled.
-/
namespace Go.Proofs.Ytfcmffdljfljkaa
open Go.RowKit Go.Maps
set_option linter.unusedVariables false
set_option linter.unusedSimpArgs false

theorem law3 : Keyed Try.prog 3 := int_keyed Try.underlying3
theorem zeroUnit (w : World) : (zeroValue 118).run Try.prog w = .ok (.agg #[]) w := by kernel_rfl
/-- the set of the numbers ws -/
def wallSet (ws : List Int) : DataW Unit := setOf (.agg []) (ws.map (Lit.int .i64))
theorem wallSet_snoc (ws : List Int) (y : Int) : wallSet (ws ++ [y]) = (wallSet ws).put (Lit.int .i64 y) (.agg []) := by
  unfold wallSet
  rw [List.map_append]
  exact setOf_snoc _ _ _
theorem any_intW (x : Int) : ∀ l : List Int, l.any ((fun y : Lit => y.sameKey (.int .i64 x)) ∘ Lit.int .i64) = l.contains x
  | [] => rfl
  | a :: r => by
    rw [List.any_cons, List.contains_cons, any_intW x r]
    congr 1
    show decide (IntKind.i64 = IntKind.i64 ∧ a = x) = (x == a)
    by_cases e : a = x
    · subst e
      simp
    · have e' : ¬ x = a := fun h => e h.symm
      simp [e, e']
theorem has_wallSet (ws : List Int) (x : Int) : Maps.has (wallSet ws) (.int .i64 x) = ws.contains x := by
  unfold wallSet
  rw [has_setOf _ _ _ (fun y hy => by obtain ⟨_, _, rfl⟩ := List.mem_map.1 hy; trivial), List.any_map]
  exact any_intW x _
theorem wf_small {y : Int} (h0 : 0 ≤ y) (h1 : y ≤ 1000) : (Lit.int .i64 y).wf = true := WalkArith.wf_i64 (by omega)

/-- a set of numbers in block b -/
def SetAt (w : World) (b : Nat) (ws : List Int) : Prop := w.ownsMap Try.prog 3 (unitElem (H := Unit)) b ws.length (wallSet ws)
theorem SetAt.alloc {w : World} {b : Nat} {ws : List Int} (h : SetAt w b ws) (o : Obj) : SetAt (w.alloc o) b ws := World.ownsMap.alloc h o
theorem SetAt.below {w w' : World} {b : Nat} {ws : List Int} (h : SetAt w b ws) (hb : Below w.heap.size w w') : SetAt w' b ws := World.ownsMap.kept (row := none) h ⟨hb.os, hb.tape, hb.output, hb.size, fun k hk _ => hb.block k hk⟩ (by simp)

set_option maxHeartbeats 2000000 in
set_option maxRecDepth 100000 in
theorem wallsOf_any (v : Value) (ws : List Int) (w : World) (hv : Ix w v ws) (hr : ∀ y ∈ ws, 0 ≤ y ∧ y ≤ 1000) (hl' : ws.length ≤ 1048576) :
    Calls Try.prog 76 #[v] w fun e w' => e = .returned (.map (some w.heap.size)) ∧ SetAt w' w.heap.size ws ∧ Below w.heap.size w w' := by
  have hmm := @run_makeMap Try.prog
  obtain ⟨hl, a, cap, rfl, hc⟩ := hv
  go_enter Try.func76, Try.ntmps76
  go_wp2
  go_loopw [9] (fun i wr => ∃ k : Nat, k ≤ ws.length ∧ i = .int .i64 k ∧ wr.ownsMap Try.prog 3 (unitElem (H := Unit)) w.heap.size k (wallSet (ws.take k)) ∧ Below w.heap.size w wr) (fun i _ => ws.length - (intOf i).toNat)
  case atStart => exact ⟨0, Nat.zero_le _, rfl, World.ownsMap_made _ _ _ _, (Below.refl _ _).alloc (Nat.le_refl _) _⟩
  case round =>
    obtain ⟨k, hk, rfl, hown, hnx⟩ := hrel
    by_cases hlt : k < ws.length
    · obtain ⟨b, off, rfl, hj⟩ := hc k hlt
      have hck : wr.cell? ⟨b, off + k, none⟩ = some (.int .i64 ws[k]) := (hnx.cell (p := ⟨b, off + k, none⟩) (cell_lt (hj k hlt))).trans (hj k hlt)
      have hy := hr _ (List.getElem_mem hlt)
      have HT : Hid (ws.take (k + 1) = ws.take k ++ [ws[k]]) := List.take_succ_eq_append_getElem hlt
      have hkey : keyOf Try.prog 3 (.int .i64 ws[k]) = some (.int .i64 ws[k]) := keyOf_int_mk Try.underlying3 (wf_small hy.1 hy.2)
      clear hc hj hr
      generalize ws[k] = y at *
      go_wp2_with (at_mapUpdate; refine wpList_mapUpdate_own _ rfl _ _ _ 108 rfl 3 118 law3 Try.underlying108 (unitElem (H := Unit)) w.heap.size k _ rfl hown (by unfold maxLen; omega) _ _ _ rfl rfl hkey _ [] unitElem_mk ?_; intro w1 hown1 hgrow1)
      go_roundw
      case rel => exact ⟨k + 1, by omega, by go_num, by rw [HT.out, wallSet_snoc]; exact hown1, hnx.grown hgrow1 hnx.size (fun j hj => by cases hj; exact Nat.le_refl _)⟩
      case measure => simp [intOf]; omega
    · obtain rfl : k = ws.length := by omega
      rw [List.take_length] at hown
      go_wp2
      go_ret
      exact ⟨rfl, hown, hnx⟩

set_option maxHeartbeats 2000000 in
set_option maxRecDepth 100000 in
theorem lose_any (b : Nat) (ws : List Int) (f t : Int) (w : World) (h : SetAt w b ws) (hf : 0 ≤ f ∧ f ≤ 1000) (ht : 0 ≤ t ∧ t ≤ 1000) :
    Calls Try.prog 77 #[.map (some b), .int .i64 f, .int .i64 t] w fun e w' => e = .returned (.bool (ws.contains f || ws.contains t)) ∧ Below w.heap.size w w' := by
  have hk1 : keyOf Try.prog 3 (.int .i64 f) = some (.int .i64 f) := keyOf_int_mk Try.underlying3 (wf_small hf.1 hf.2)
  have hk2 : keyOf Try.prog 3 (.int .i64 t) = some (.int .i64 t) := keyOf_int_mk Try.underlying3 (wf_small ht.1 ht.2)
  have H : Hid (SetAt w b ws) := h
  clear h
  cases h1 : ws.contains f
  · cases h2 : ws.contains t
    · go_enter Try.func77, Try.ntmps77
      have g1 : True := trivial
      go_wp2_with (first
        | (at_lookup; clear g1; refine wpList_lookup_own_unit _ rfl _ _ 108 rfl 3 118 law3 Try.underlying108 (zeroUnit _) b ws.length _ rfl H.out _ _ rfl hk1 ?_; rw [has_wallSet, h1])
        | (at_lookup; refine wpList_lookup_own_unit _ rfl _ _ 108 rfl 3 118 law3 Try.underlying108 (zeroUnit _) b ws.length _ rfl (H.out.alloc _) _ _ rfl hk2 ?_; rw [has_wallSet, h2]))
      go_ret
      exact ⟨rfl, ((Below.refl _ _).alloc (Nat.le_refl _) _).alloc (by simp) _⟩
    · go_enter Try.func77, Try.ntmps77
      have g1 : True := trivial
      go_wp2_with (first
        | (at_lookup; clear g1; refine wpList_lookup_own_unit _ rfl _ _ 108 rfl 3 118 law3 Try.underlying108 (zeroUnit _) b ws.length _ rfl H.out _ _ rfl hk1 ?_; rw [has_wallSet, h1])
        | (at_lookup; refine wpList_lookup_own_unit _ rfl _ _ 108 rfl 3 118 law3 Try.underlying108 (zeroUnit _) b ws.length _ rfl (H.out.alloc _) _ _ rfl hk2 ?_; rw [has_wallSet, h2]))
      go_ret
      exact ⟨rfl, ((Below.refl _ _).alloc (Nat.le_refl _) _).alloc (by simp) _⟩
  · go_enter Try.func77, Try.ntmps77
    have g1 : True := trivial
    go_wp2_with (first
      | (at_lookup; clear g1; refine wpList_lookup_own_unit _ rfl _ _ 108 rfl 3 118 law3 Try.underlying108 (zeroUnit _) b ws.length _ rfl H.out _ _ rfl hk1 ?_; rw [has_wallSet, h1])
      | (at_lookup; refine wpList_lookup_own_unit _ rfl _ _ 108 rfl 3 118 law3 Try.underlying108 (zeroUnit _) b ws.length _ rfl (H.out.alloc _) _ _ rfl hk2 ?_))
    go_ret
    exact ⟨rfl, ((Below.refl _ _).alloc (Nat.le_refl _) _).alloc (by simp) _⟩

theorem has_not_takeW {x : Int} {l : List Int} {k : Nat} (h : x ∉ l.take k) (hlt : k < l.length) (hne : ¬ l[k] = x) : x ∉ l.take (k + 1) := by
  rw [List.take_succ_eq_append_getElem hlt, List.mem_append]
  rintro (h' | h')
  · exact h h'
  · exact hne (List.mem_singleton.1 h').symm

set_option maxHeartbeats 2000000 in
set_option maxRecDepth 100000 in
theorem l3walled_any (n : Int) (a1 : Option Addr) (n1 cap1 : Nat) (v : Value) (ws : List Int) (x : Int) (w : World) (hv : Ix w v ws) :
    Calls Try.prog 43 #[.agg #[.int .i64 n, .slice a1 n1 cap1, v], .int .i64 x] w fun e w' => e = .returned (.bool (ws.contains x)) ∧ Below w.heap.size w w' := by
  obtain ⟨hl, a, cap, rfl, hc⟩ := hv
  unfold maxLen at hl
  have hb0 : Hid (Below w.heap.size w (w.alloc (.cells #[.int .i64 n, .slice a1 n1 cap1, .slice a ws.length cap] 29))) := (Below.refl _ _).alloc (Nat.le_refl _) _
  go_enter Try.func43, Try.ntmps43
  go_wp2
  go_loopw [5] (fun i wr => ∃ k : Nat, k ≤ ws.length ∧ i = .int .i64 k ∧ x ∉ ws.take k ∧ wr = w.alloc (.cells #[.int .i64 n, .slice a1 n1 cap1, .slice a ws.length cap] 29)) (fun i _ => ws.length - (intOf i).toNat)
  case atStart => exact ⟨0, Nat.zero_le _, rfl, by simp, rfl⟩
  case round =>
    obtain ⟨k, hk, rfl, hx, rfl⟩ := hrel
    have HX : Hid (x ∉ ws.take k) := hx
    clear hx
    by_cases hlt : k < ws.length
    · obtain ⟨b, off, rfl, hj⟩ := hc k hlt
      have hck := hj k hlt
      have hbl := cell_lt hck
      by_cases he : ws[k] = x
      · have HR : Hid (ws.contains x = true) := by
          show _ = _
          rw [List.contains_iff_mem, ← he]; exact List.getElem_mem hlt
        rw [he] at hck
        clear hc hj he
        go_wp2
        go_ret
        exact ⟨by rw [HR.out]; rfl, hb0.out⟩
      · have HN : Hid (x ∉ ws.take (k + 1)) := has_not_takeW HX.out hlt he
        clear hc hj
        generalize ws[k] = y at *
        go_wp2
        go_roundw
        case rel => exact ⟨k + 1, by omega, by go_num, HN.out, trivial⟩
        case measure => simp [intOf]; omega
    · have HR : Hid (ws.contains x = false) := by
        show _ = _
        have h := HX.out
        rw [List.take_of_length_le (by omega)] at h
        simpa using h
      go_wp2
      go_ret
      exact ⟨by rw [HR.out]; rfl, hb0.out⟩
end Go.Proofs.Ytfcmffdljfljkaa

/-
  impl.within.
-/
namespace Go.Proofs.Ytfcmffdljfljkaa
open Go.RowKit
set_option linter.unusedVariables false

/-- in a range, as a Bool that the walk leaves whole -/
def inB (n lo hi : Int) : Bool := decide (lo ≤ n) && decide (n ≤ hi)
theorem inB_iff (n lo hi : Int) : inB n lo hi = true ↔ lo ≤ n ∧ n ≤ hi := by simp [inB]
theorem inB_not (n lo hi : Int) : inB n lo hi = false ↔ (n < lo ∨ hi < n) := by
  by_cases h1 : lo ≤ n <;> by_cases h2 : n ≤ hi <;> simp [inB, h1, h2] <;> omega

set_option maxHeartbeats 400000 in
theorem within_any (n lo hi : Int) (w : World) :
    Calls Try.prog 48 #[.int .i64 n, .int .i64 lo, .int .i64 hi] w fun e w' => e = .returned (.bool (inB n lo hi)) ∧ w' = w := by
  by_cases h1 : lo ≤ n
  · by_cases h2 : n ≤ hi
    · have hb : inB n lo hi = true := by simp [inB, h1, h2]
      rw [hb]
      go_enter Try.func48, Try.ntmps48
      go_wp2
      go_ret
      exact ⟨rfl, rfl⟩
    · have hb : inB n lo hi = false := by simp [inB, h1]; omega
      rw [hb]
      go_enter Try.func48, Try.ntmps48
      go_wp2
      go_ret
      exact ⟨by simp, rfl⟩
  · have hb : inB n lo hi = false := by simp [inB]; omega
    rw [hb]
    go_enter Try.func48, Try.ntmps48
    go_wp2
    go_ret
    exact ⟨rfl, rfl⟩

end Go.Proofs.Ytfcmffdljfljkaa

/-
  impl.serversRise.
-/
namespace Go.Proofs.Ytfcmffdljfljkaa
open Go.RowKit
set_option linter.unusedVariables false
set_option linter.unusedSimpArgs false

/-- the numbers rise, from last + 1 on, and none is above most -/
def riseB (most : Int) : Int → List Int → Bool
  | _, [] => true
  | last, x :: l => inB x (last + 1) most && riseB most x l
theorem riseB_drop (most last : Int) (l : List Int) (k : Nat) (h : k < l.length) : riseB most last (l.drop k) = (inB l[k] (last + 1) most && riseB most l[k] (l.drop (k + 1))) := by
  rw [List.drop_eq_getElem_cons h]; rfl

set_option maxHeartbeats 4000000 in
set_option maxRecDepth 100000 in
theorem serversRise_any (v : Value) (l : List Int) (most : Int) (w : World) (hv : Ix w v l) (hm : 0 ≤ most) (hm' : most ≤ 1048576) :
    Calls Try.prog 86 #[v, .int .i64 most] w fun e w' => e = .returned (.bool (riseB most 0 l)) ∧ w' = w := by
  obtain ⟨hl, a, cap, rfl, hc⟩ := hv
  unfold maxLen at hl
  go_enter Try.func86, Try.ntmps86
  go_wp2
  go_loopw [5, 10] (fun t i wr => ∃ (k : Nat) (x : Int), k ≤ l.length ∧ i = .int .i64 k ∧ t = .int .i64 x ∧ 0 ≤ x ∧ x ≤ most ∧ riseB most 0 l = riseB most x (l.drop k) ∧ wr = w) (fun _ i _ => l.length - (intOf i).toNat)
  case atStart => exact ⟨0, 0, Nat.zero_le _, rfl, rfl, by omega, by omega, by simp, rfl⟩
  case round =>
    obtain ⟨k, x, hk, rfl, rfl, hx, hx', hr, hwr⟩ := hrel
    obtain rfl := hwr.symm
    have HR : Hid (riseB most 0 l = riseB most x (l.drop k)) := hr
    clear hr hwr
    by_cases hlt : k < l.length
    · obtain ⟨b, off, rfl, hj⟩ := hc k hlt
      have hck := hj k hlt
      have HD : Hid (riseB most x (l.drop k) = (inB l[k] (x + 1) most && riseB most l[k] (l.drop (k + 1)))) := riseB_drop most x l k hlt
      clear hc hj
      generalize l[k] = y at *
      cases hy : inB y (x + 1) most
      · rw [hy] at HD
        go_wp2_with (go_at_call 48; refine (within_any _ _ _ _).mono ?_; rintro e w1 ⟨rfl, hw⟩; obtain rfl := hw.symm; rw [hy])
        go_ret
        exact ⟨by rw [HR.out, HD.out]; rfl, rfl⟩
      · rw [hy] at HD
        have hyi := (inB_iff _ _ _).1 hy
        go_wp2_with (go_at_call 48; refine (within_any _ _ _ _).mono ?_; rintro e w1 ⟨rfl, hw⟩; obtain rfl := hw.symm; rw [hy])
        go_roundw
        case rel => exact ⟨k + 1, y, by omega, by go_num, rfl, by omega, by omega, by rw [HR.out, HD.out]; rfl, trivial⟩
        case measure => simp [intOf]; omega
    · have hd : l.drop k = [] := List.drop_of_length_le (by omega)
      go_wp2
      go_ret
      exact ⟨by rw [HR.out, hd]; rfl, rfl⟩
end Go.Proofs.Ytfcmffdljfljkaa

/-
  spec.l1in.
-/
namespace Go.Proofs.Ytfcmffdljfljkaa
open Go.RowKit
set_option linter.unusedVariables false

theorem l1in_any (n lo hi : Int) (w : World) :
    Calls Try.prog 42 #[.int .i64 n, .int .i64 lo, .int .i64 hi] w fun e w' => e = .returned (.bool (inB n lo hi)) ∧ w' = w := by
  by_cases h1 : lo ≤ n
  · by_cases h2 : n ≤ hi
    · have hb : inB n lo hi = true := by simp [inB, h1, h2]
      rw [hb]
      go_enter Try.func42, Try.ntmps42
      go_wp2
      go_ret
      exact ⟨rfl, rfl⟩
    · have hb : inB n lo hi = false := by simp [inB, h1]; omega
      rw [hb]
      go_enter Try.func42, Try.ntmps42
      go_wp2
      go_ret
      exact ⟨by simp, rfl⟩
  · have hb : inB n lo hi = false := by simp [inB]; omega
    rw [hb]
    go_enter Try.func42, Try.ntmps42
    go_wp2
    go_ret
    exact ⟨rfl, rfl⟩

end Go.Proofs.Ytfcmffdljfljkaa

/-
  impl.isAddress, packetFits, packetsFit, bagFits; spec.l3address.
-/
namespace Go.Proofs.Ytfcmffdljfljkaa
open Go.RowKit
set_option linter.unusedVariables false
set_option linter.unusedSimpArgs false

def addrB (a : Int) : Bool := inB a 1 7 || inB a 11 18
/-- a packet's sender, receiver and length are in order -/
def pkF (f t : Int) (n : Nat) : Bool := addrB f && addrB t && decide (f ≠ t) && inB n 1 16384
/-- packets in order, their numbers from last + 1 tq next - 1, rising -/
def pksB (next : Int) : Int → List Pkt → Bool
  | _, [] => true
  | last, p :: l => (inB p.id (last + 1) (next - 1) && pkF p.fr p.tq p.bs.length) && pksB next p.id l
def bagB (n : Int) (l : List Pkt) (ws : List Int) : Bool := inB n 1 1099511627776 && (decide (l.length ≤ 4096) && pksB n 0 l) && riseB 7 0 ws
theorem pksB_drop (next last : Int) (l : List Pkt) (k : Nat) (h : k < l.length) : pksB next last (l.drop k) = ((inB l[k].id (last + 1) (next - 1) && pkF l[k].fr l[k].tq l[k].bs.length) && pksB next l[k].id (l.drop (k + 1))) := by
  rw [List.drop_eq_getElem_cons h]; rfl

theorem isAddress_any (a : Int) (w : World) : Calls Try.prog 119 #[.int .i64 a] w fun e w' => e = .returned (.bool (addrB a)) ∧ w' = w := by
  unfold addrB
  cases h1 : inB a 1 7
  · cases h2 : inB a 11 18
    · go_enter Try.func119, Try.ntmps119
      have g1 : True := trivial
      go_wp2_with (first
        | (go_at_call 48; clear g1; refine (within_any _ _ _ _).mono ?_; rintro e w1 ⟨rfl, hw⟩; obtain rfl := hw.symm; rw [h1])
        | (go_at_call 48; refine (within_any _ _ _ _).mono ?_; rintro e w1 ⟨rfl, hw⟩; obtain rfl := hw.symm; rw [h2]))
      go_ret
      exact ⟨rfl, rfl⟩
    · go_enter Try.func119, Try.ntmps119
      have g1 : True := trivial
      go_wp2_with (first
        | (go_at_call 48; clear g1; refine (within_any _ _ _ _).mono ?_; rintro e w1 ⟨rfl, hw⟩; obtain rfl := hw.symm; rw [h1])
        | (go_at_call 48; refine (within_any _ _ _ _).mono ?_; rintro e w1 ⟨rfl, hw⟩; obtain rfl := hw.symm; rw [h2]))
      go_ret
      exact ⟨rfl, rfl⟩
  · go_enter Try.func119, Try.ntmps119
    go_wp2_with (go_at_call 48; refine (within_any _ _ _ _).mono ?_; rintro e w1 ⟨rfl, hw⟩; obtain rfl := hw.symm; rw [h1])
    go_ret
    exact ⟨rfl, rfl⟩
theorem l3address_any (a : Int) (w : World) : Calls Try.prog 56 #[.int .i64 a] w fun e w' => e = .returned (.bool (addrB a)) ∧ w' = w := by
  unfold addrB
  cases h1 : inB a 1 7
  · cases h2 : inB a 11 18
    · go_enter Try.func56, Try.ntmps56
      have g1 : True := trivial
      go_wp2_with (first
        | (go_at_call 42; clear g1; refine (l1in_any _ _ _ _).mono ?_; rintro e w1 ⟨rfl, hw⟩; obtain rfl := hw.symm; rw [h1])
        | (go_at_call 42; refine (l1in_any _ _ _ _).mono ?_; rintro e w1 ⟨rfl, hw⟩; obtain rfl := hw.symm; rw [h2]))
      go_ret
      exact ⟨rfl, rfl⟩
    · go_enter Try.func56, Try.ntmps56
      have g1 : True := trivial
      go_wp2_with (first
        | (go_at_call 42; clear g1; refine (l1in_any _ _ _ _).mono ?_; rintro e w1 ⟨rfl, hw⟩; obtain rfl := hw.symm; rw [h1])
        | (go_at_call 42; refine (l1in_any _ _ _ _).mono ?_; rintro e w1 ⟨rfl, hw⟩; obtain rfl := hw.symm; rw [h2]))
      go_ret
      exact ⟨rfl, rfl⟩
  · go_enter Try.func56, Try.ntmps56
    go_wp2_with (go_at_call 42; refine (l1in_any _ _ _ _).mono ?_; rintro e w1 ⟨rfl, hw⟩; obtain rfl := hw.symm; rw [h1])
    go_ret
    exact ⟨rfl, rfl⟩

set_option maxHeartbeats 2000000 in
theorem packetFits_any (i f t : Int) (a : Option Addr) (n cap : Nat) (hn : n ≤ maxLen) (w : World) :
    Calls Try.prog 106 #[.agg #[.int .i64 i, .int .i64 f, .int .i64 t, .slice a n cap]] w fun e w' => e = .returned (.bool (pkF f t n)) ∧ Below w.heap.size w w' := by
  have hb0 : Hid (Below w.heap.size w (w.alloc (.cells #[.int .i64 i, .int .i64 f, .int .i64 t, .slice a n cap] 60))) := (Below.refl _ _).alloc (Nat.le_refl _) _
  unfold maxLen at hn
  unfold pkF
  cases h1 : addrB f
  · go_enter Try.func106, Try.ntmps106
    go_wp2_with (go_at_call 119; refine (isAddress_any _ _).mono ?_; rintro e w1 ⟨rfl, hw⟩; subst hw; rw [h1])
    go_ret
    exact ⟨rfl, hb0.out⟩
  · cases h2 : addrB t
    · go_enter Try.func106, Try.ntmps106
      have g1 : True := trivial
      go_wp2_with (first
        | (go_at_call 119; clear g1; refine (isAddress_any _ _).mono ?_; rintro e w1 ⟨rfl, hw⟩; subst hw; rw [h1])
        | (go_at_call 119; refine (isAddress_any _ _).mono ?_; rintro e w1 ⟨rfl, hw⟩; subst hw; rw [h2]))
      go_ret
      exact ⟨rfl, hb0.out⟩
    · by_cases h3 : f = t
      · subst h3
        rw [show decide (f ≠ f) = false by simp]
        go_enter Try.func106, Try.ntmps106
        have g1 : True := trivial
        go_wp2_with (first
          | (go_at_call 119; clear g1; refine (isAddress_any _ _).mono ?_; rintro e w1 ⟨rfl, hw⟩; subst hw; rw [h1])
          | (go_at_call 119; refine (isAddress_any _ _).mono ?_; rintro e w1 ⟨rfl, hw⟩; subst hw; rw [h2]))
        go_ret
        exact ⟨rfl, hb0.out⟩
      · rw [show decide (f ≠ t) = true by simp [h3]]
        go_enter Try.func106, Try.ntmps106
        have g1 : True := trivial
        go_wp2_with (first
          | (go_at_call 119; clear g1; refine (isAddress_any _ _).mono ?_; rintro e w1 ⟨rfl, hw⟩; subst hw; rw [h1])
          | (go_at_call 119; refine (isAddress_any _ _).mono ?_; rintro e w1 ⟨rfl, hw⟩; subst hw; rw [h2])
          | (go_at_call 48; refine (within_any _ _ _ _).mono ?_; rintro e w1 ⟨rfl, hw⟩; subst hw))
        go_ret
        exact ⟨by simp [h3], hb0.out⟩

set_option maxHeartbeats 4000000 in
set_option maxRecDepth 100000 in
theorem packetsFit_any (n : Int) (hn1 : 1 ≤ n) (hn2 : n ≤ 1099511627776) (v : Value) (a2 : Option Addr) (n2 cap2 : Nat) (l : List Pk) (w : World) (hv : Pks w v l) :
    Calls Try.prog 85 #[.agg #[.int .i64 n, v, .slice a2 n2 cap2]] w fun e w' => e = .returned (.bool (decide (l.length ≤ 4096) && pksB n 0 (cont l))) ∧ Below w.heap.size w w' := by
  have HV : Hid (Pks w v l) := hv
  obtain ⟨hl, _, a, cap, rfl, hc⟩ := hv
  unfold maxLen at hl
  by_cases h4 : l.length ≤ 4096
  case neg =>
    rw [show decide (l.length ≤ 4096) = false by simp [h4]]
    go_enter Try.func85, Try.ntmps85
    go_wp2
    go_ret
    exact ⟨rfl, (Below.refl _ _).alloc (Nat.le_refl _) _⟩
  rw [show decide (l.length ≤ 4096) = true by simp [h4], Bool.true_and]
  go_enter Try.func85, Try.ntmps85
  go_wp2
  go_loopw [3, 13] (fun t i wr => ∃ (k : Nat) (x : Int), k ≤ l.length ∧ i = .int .i64 k ∧ t = .int .i64 x ∧ 0 ≤ x ∧ x ≤ n ∧ pksB n 0 (cont l) = pksB n x ((cont l).drop k) ∧ Below (w.heap.size + 1) (w.alloc (.cells #[.int .i64 n, .slice a l.length cap, .slice a2 n2 cap2] 29)) wr) (fun _ i _ => l.length - (intOf i).toNat)
  case atStart => exact ⟨0, 0, Nat.zero_le _, rfl, rfl, by omega, by omega, by simp, Below.refl _ _⟩
  case round =>
    obtain ⟨k, x, hk, rfl, rfl, hx, hx', hr, hB⟩ := hrel
    have HR : Hid (pksB n 0 (cont l) = pksB n x ((cont l).drop k)) := hr
    have hB0 : Below w.heap.size w wr := ((Below.refl _ _).alloc (Nat.le_refl _) _).trans (hB.mono (Nat.le_succ _))
    have b0 : wr.cell? ⟨w.heap.size, 0, none⟩ = some (.int .i64 n) := (hB.cell (p := ⟨w.heap.size, 0, none⟩) (Nat.lt_succ_self _)).trans (by simp [go_sem])
    have hsz := hB.size
    simp only [World.size_alloc] at hsz
    have HB : Hid (Below (w.heap.size + 1) (w.alloc (.cells #[.int .i64 n, .slice a l.length cap, .slice a2 n2 cap2] 29)) wr) := hB
    clear hr hB
    by_cases hlt : k < l.length
    · obtain ⟨b, off, rfl, hj⟩ := hc k hlt
      obtain ⟨c0, c1, c2, c3⟩ := (hj k hlt).below hB0
      obtain ⟨a', cap', e3⟩ := (HV.out.bs k hlt).sh
      have hnn : l[k].1.bs.length ≤ maxLen := (HV.out.bs k hlt).1
      rw [e3] at c3
      have HD : Hid (pksB n x ((cont l).drop k) = ((inB l[k].1.id (x + 1) (n - 1) && pkF l[k].1.fr l[k].1.tq l[k].1.bs.length) && pksB n l[k].1.id ((cont l).drop (k + 1)))) := by
        have h := pksB_drop n x (cont l) k (by rw [cont_len]; exact hlt)
        show _ = _
        simpa [cont] using h
      clear hc hj e3 hB0
      generalize l[k].1 = p at *
      have hbA : Hid (Below (w.heap.size + 1) (w.alloc (.cells #[.int .i64 n, .slice (some ⟨b, off, none⟩) l.length cap, .slice a2 n2 cap2] 29)) (wr.alloc (.cells #[.int .i64 p.id, .int .i64 p.fr, .int .i64 p.tq, .slice a' p.bs.length cap'] 60))) := HB.out.alloc hsz _
      have b0' : (wr.alloc (.cells #[.int .i64 p.id, .int .i64 p.fr, .int .i64 p.tq, .slice a' p.bs.length cap'] 60)).cell? ⟨w.heap.size, 0, none⟩ = some (.int .i64 n) := by rw [World.cell?_alloc_lt _ _ _ (by show w.heap.size < wr.heap.size; omega)]; exact b0
      cases hy : inB p.id (x + 1) (n - 1)
      · rw [hy] at HD
        go_wp2_with (go_at_call 48; refine (within_any _ _ _ _).mono ?_; rintro e w1 ⟨rfl, hw⟩; subst hw; rw [hy])
        go_ret
        exact ⟨by rw [HR.out, HD.out]; rfl, ((Below.refl _ _).alloc (Nat.le_refl _) _).trans (hbA.out.mono (Nat.le_succ _))⟩
      · rw [hy] at HD
        have hyi := (inB_iff _ _ _).1 hy
        cases hp : pkF p.fr p.tq p.bs.length
        · rw [hp] at HD
          go_wp2_with (first
            | (go_at_call 48; refine (within_any _ _ _ _).mono ?_; rintro e w1 ⟨rfl, hw⟩; subst hw; rw [hy])
            | (go_at_call 106; refine (packetFits_any _ _ _ _ _ _ hnn _).mono ?_; rintro e w1 ⟨rfl, hb1⟩; rw [hp]))
          go_ret
          exact ⟨by rw [HR.out, HD.out]; rfl, ((Below.refl _ _).alloc (Nat.le_refl _) _).trans ((hbA.out.trans (hb1.mono (by simp; omega))).mono (Nat.le_succ _))⟩
        · rw [hp] at HD
          go_wp2_with (first
            | (go_at_call 48; refine (within_any _ _ _ _).mono ?_; rintro e w1 ⟨rfl, hw⟩; subst hw; rw [hy])
            | (go_at_call 106; refine (packetFits_any _ _ _ _ _ _ hnn _).mono ?_; rintro e w1 ⟨rfl, hb1⟩; rw [hp]; have hcc := (bcell hb1).1; have HB1 : Hid (Below (w.heap.size + 1) (w.alloc (.cells #[.int .i64 n, .slice (some ⟨b, off, none⟩) l.length cap, .slice a2 n2 cap2] 29)) w1) := hbA.out.trans (hb1.mono (by simp; omega)); clear hb1))
          go_roundw
          case rel => exact ⟨k + 1, p.id, by omega, by go_num, rfl, by omega, by omega, by rw [HR.out, HD.out]; rfl, HB1.out⟩
          case measure => simp [intOf]; omega
    · have hd : (cont l).drop k = [] := List.drop_of_length_le (by rw [cont_len]; omega)
      go_wp2
      go_ret
      exact ⟨by rw [HR.out, hd]; rfl, hB0⟩

set_option maxHeartbeats 2000000 in
theorem bagFits_any (n : Int) (v u : Value) (l : List Pk) (ws : List Int) (w : World) (hv : Pks w v l) (hu : Ix w u ws) :
    Calls Try.prog 46 #[.agg #[.int .i64 n, v, u]] w fun e w' => e = .returned (.bool (bagB n (cont l) ws)) ∧ Below w.heap.size w w' := by
  have HU : Hid (∀ w', Below w.heap.size w w' → Calls Try.prog 86 #[u, .int .i64 7] w' fun e w'' => e = .returned (.bool (riseB 7 0 ws)) ∧ w'' = w') := fun w' hb => serversRise_any u ws 7 w' (hu.below hb) (by omega) (by omega)
  obtain ⟨_, a2, cap2, rfl, _⟩ := hu
  have HV : Hid (1 ≤ n → n ≤ 1099511627776 → ∀ w', Below w.heap.size w w' → Calls Try.prog 85 #[.agg #[.int .i64 n, v, .slice a2 ws.length cap2]] w' fun e w'' => e = .returned (.bool (decide (l.length ≤ 4096) && pksB n 0 (cont l))) ∧ Below w'.heap.size w' w'') := fun h1 h2 w' hb => packetsFit_any n h1 h2 v a2 ws.length cap2 l w' (hv.below hb)
  obtain ⟨_, _, a, cap, rfl, _⟩ := hv
  have hb0 : Hid (Below w.heap.size w (w.alloc (.cells #[.int .i64 n, .slice a l.length cap, .slice a2 ws.length cap2] 29))) := (Below.refl _ _).alloc (Nat.le_refl _) _
  unfold bagB
  rw [cont_len]
  cases h1 : inB n 1 1099511627776
  · go_enter Try.func46, Try.ntmps46
    go_wp2_with (go_at_call 48; refine (within_any _ _ _ _).mono ?_; rintro e w1 ⟨rfl, hw⟩; subst hw; rw [h1])
    go_ret
    exact ⟨rfl, hb0.out⟩
  · have hni := (inB_iff _ _ _).1 h1
    cases h2 : (decide (l.length ≤ 4096) && pksB n 0 (cont l))
    · rw [h2] at HV
      go_enter Try.func46, Try.ntmps46
      go_wp2_with (first
        | (go_at_call 48; refine (within_any _ _ _ _).mono ?_; rintro e w1 ⟨rfl, hw⟩; subst hw; rw [h1])
        | (go_at_call 85; refine (HV.out hni.1 hni.2 _ hb0.out).mono ?_; rintro e w1 ⟨rfl, hb1⟩))
      go_ret
      exact ⟨rfl, hb0.out.trans (hb1.mono (by simp))⟩
    · rw [h2] at HV
      go_enter Try.func46, Try.ntmps46
      go_wp2_with (first
        | (go_at_call 48; refine (within_any _ _ _ _).mono ?_; rintro e w1 ⟨rfl, hw⟩; subst hw; rw [h1])
        | (go_at_call 85; refine (HV.out hni.1 hni.2 _ hb0.out).mono ?_; rintro e w1 ⟨rfl, hb1⟩; have hcc := (bcell hb1).1; have HB1 : Hid (Below w.heap.size w w1) := hb0.out.trans (hb1.mono (by simp)); clear hb1)
        | (go_at_call 86; refine (HU.out _ HB1.out).mono ?_; rintro e w2 ⟨rfl, rfl⟩))
      go_ret
      exact ⟨rfl, HB1.out⟩
end Go.Proofs.Ytfcmffdljfljkaa

/-
  Slices of ints that the call itself owns; append tq them.
-/
namespace Go.Proofs.Ytfcmffdljfljkaa
open Go.RowKit
set_option linter.unusedVariables false

theorem infoI64 : (Try.prog.info? 3).map (fun i => (i.zero, i.size, i.bytes)) = some (some (.int .i64 0), 1, 8) := by kernel_rfl

def OwnI (w : World) (B : Nat) (v : Value) (l : List Int) : Prop := w.ownsRow B 3 1 v l.length (l.map (Value.int .i64))

theorem OwnI.made (w : World) (B : Nat) (hB : B ≤ w.heap.size) : OwnI (w.alloc (.cells #[] 3)) B (.slice (some ⟨w.heap.size, 0, none⟩) 0 0) [] :=
  World.ownsRow_made w #[] 0 hB (by decide) (by simp)
theorem OwnI.shape {w : World} {B : Nat} {v : Value} {l : List Int} (h : OwnI w B v l) : ∃ a cap, v = .slice a l.length cap := by
  rcases h.2 with ⟨rfl, h0⟩ | ⟨g, cap, cur, rfl, _⟩
  · exact ⟨none, 0, by rw [h0]⟩
  · exact ⟨_, _, rfl⟩
theorem OwnI.shape' {w : World} {B : Nat} {v : Value} {l : List Int} (h : OwnI w B v l) (hl : 0 < l.length) : ∃ g cap, v = .slice (some ⟨g, 0, none⟩) l.length cap := by
  rcases h.2 with ⟨rfl, h0⟩ | ⟨g, cap, cur, rfl, _⟩
  · omega
  · exact ⟨_, _, rfl⟩
theorem OwnI.block {w w' : World} {B : Nat} {v : Value} {l : List Int} (h : OwnI w B v l) (hb : ∀ k, v.ownBlock = some k → w'.heap[k]? = w.heap[k]?) : OwnI w' B v l := by
  refine ⟨h.1, ?_⟩
  rcases h.2 with h | ⟨g, cap, cur, hv, hg, hh, r⟩
  · exact .inl h
  · subst hv
    exact .inr ⟨g, cap, cur, rfl, hg, (hb g rfl).trans hh, r⟩
theorem OwnI.below {w w' : World} {B : Nat} {v : Value} {l : List Int} (h : OwnI w B v l) (hb : Below w.heap.size w w') : OwnI w' B v l :=
  h.block fun k hk => hb.block k (World.ownsRow.lt h k hk).2
theorem OwnI.grown {w w' : World} {B b : Nat} {v : Value} {l : List Int} (h : OwnI w B v l) (hg : w.grownBy w' (some b)) (hb : b < B) : OwnI w' B v l :=
  h.block fun k hk => hg.block k (World.ownsRow.lt h k hk).2 (by intro e; injection e with e; have := (World.ownsRow.lt h k hk).1; omega)
theorem OwnI.cell {w : World} {B g cap : Nat} {l : List Int} (h : OwnI w B (.slice (some ⟨g, 0, none⟩) l.length cap) l) (j : Nat) (hj : j < l.length) : w.cell? ⟨g, j, none⟩ = some (.int .i64 (l[j]?.getD 0)) := by
  have := World.ownsRow.cellAt h j (by omega)
  rw [this]
  simp [hj]

theorem growI {B : Nat} {w w' : World} {v v' : Value} {l : List Int} (h : Grew w v w' v') (hown : OwnI w B v l) (hB : B ≤ w.heap.size) : Below B w w' :=
  (Below.refl _ _).grown h.g hB (fun k hk => (World.ownsRow.lt hown k hk).1)

set_option maxRecDepth 100000 in
theorem wpl_appendI {w : World} {ops : Array Oper} {rest : List Oper} {o : Oper} {a : Act} {Q : Exit → Act → World → Prop} (hgd : o.guard = none) (s x : Operand)
    (ho : o.op = .call { callee := .builtin .append, args := #[s, x], argTypes := #[23, 23] })
    {B : Nat} {v : Value} {l : List Int} (e : Int) (hown : OwnI w B v l) (hs : a.eval s = v) (b c : Nat) (hu : w.cell? ⟨b, 0, none⟩ = some (.int .i64 e)) (hx : a.eval x = .slice (some ⟨b, 0, none⟩) 1 c) (hlen : l.length ≤ 1000000) (hB : B ≤ w.heap.size)
    (h : ∀ v' w', OwnI w' B v' (l ++ [e]) → Grew w v w' v' → wpList Try.prog ops Q rest (a.put o.dst v') w') : wpList Try.prog ops Q (o :: rest) a w := by
  obtain ⟨i0, hi, hz0, hz1, hz2⟩ := info_parts infoI64
  refine wpList_append_own_at w hgd s x 23 ho B 3 i0 _ 1 8 Try.underlying23 hi hz0 hz1 hz2 rfl (by decide) v l.length _ hs hown ⟨b, 0, none⟩ 1 c [.int .i64 e] hx rfl ?_ ?_ (by unfold maxLen; omega) (by omega) hB ?_
  · intro j u hj
    rw [cell_add, Nat.zero_add]
    have hj1 : j < 1 := (List.getElem?_eq_some_iff.1 hj).1
    obtain rfl : j = 0 := by omega
    exact hu.trans hj
  · intro u hu
    rw [List.mem_singleton.1 hu]
    rfl
  · intro v' w' h2 h3 _ h5
    exact h v' w' (by simpa [OwnI] using h2) ⟨h3, h5.imp id fun e => ⟨_, e, Nat.le_refl _⟩⟩

end Go.Proofs.Ytfcmffdljfljkaa

/-
  A block of cells, whole: what it holds, over what leaves it; a struct loaded out of it and stored into it at one blow.
-/
namespace Go.Proofs.Ytfcmffdljfljkaa
open Go.RowKit
set_option linter.unusedVariables false

/-- block b holds the cells C, none frozen -/
def Blk (w : World) (b : Nat) (C : Array Value) (t : TypeId) : Prop := w.heap[b]? = some (.cells C t (0, 0))

section
variable {w w' : World} {b : Nat} {C : Array Value} {t : TypeId}

theorem Blk.cell (h : Blk w b C t) (j : Nat) : w.cell? ⟨b, j, none⟩ = C[j]? := cell_of_row w b j C t _ h
theorem Blk.free (h : Blk w b C t) (j : Nat) : w.frozen? ⟨b, j, none⟩ = false := by
  have : w.heap[b]? = some (.cells C t (0, 0)) := h
  simp [World.frozen?, this]
theorem Blk.lt (h : Blk w b C t) : b < w.heap.size := (Array.getElem?_eq_some_iff.1 h).1
theorem Blk.new (w : World) (C : Array Value) (t : TypeId) : Blk (w.alloc (.cells C t)) w.heap.size C t := heap_alloc_last w _
theorem Blk.new' (w : World) (C : Array Value) (t : TypeId) {k : Nat} (hk : k = w.heap.size) : Blk (w.alloc (.cells C t)) k C t := by subst hk; exact Blk.new w C t
theorem Blk.alloc (h : Blk w b C t) (o : Obj) : Blk (w.alloc o) b C t := (Below.heap_alloc w o b h.lt).trans h
theorem Blk.below {B : Nat} (h : Blk w b C t) (hb : Below B w w') (hlt : b < B) : Blk w' b C t := (hb.block b hlt).trans h
theorem Blk.keep (h : Blk w b C t) (hb : w'.heap[b]? = w.heap[b]?) : Blk w' b C t := hb.trans h
theorem Blk.drew (h : Blk w b C t) : Blk w.drew b C t := h
theorem Blk.set_other (h : Blk w b C t) {p : Addr} (v : Value) (hne : b ≠ p.block) : Blk (w.setCell p v) b C t := (Below.heap_setCell w p v b hne).trans h
theorem Blk.set (h : Blk w b C t) (j : Nat) (v : Value) : Blk (w.setCell ⟨b, j, none⟩ v) b (C.setIfInBounds j v) t := by
  unfold Blk
  rw [setCell_eq_setRow w b j C t (0, 0) v h]
  exact setRow_heap w b C _ t _ h
theorem Blk.row (h : Blk w b C t) (C' : Array Value) : Blk (w.setRow b C') b C' t := setRow_heap w b C C' t _ h
theorem Blk.row_other (h : Blk w b C t) {k : Nat} (C' : Array Value) (hne : b ≠ k) : Blk (w.setRow k C') b C t := (setRow_other w k b C' hne).trans h
theorem Blk.range (h : Blk w b C t) : w.rangeAt b 0 C.toList := fun j v hv => by
  rw [Nat.zero_add, h.cell j, ← hv]; simp
theorem Blk.there (h : Blk w b C t) : w.there b 0 C.size := fun j hj => by
  rw [Nat.zero_add]
  refine ⟨?_, h.free j⟩
  rw [h.cell j, Array.getElem?_eq_getElem hj]; rfl
theorem below_row {B : Nat} {a : World} (h : Below B a w) {k : Nat} (hk : B ≤ k) (C' : Array Value) : Below B a (w.setRow k C') := h.trans ⟨rfl, rfl, rfl, by simp [World.setRow], fun i hi => setRow_other w k i C' (by omega)⟩
end

section
variable {P : Program} {ops : Array Oper} {rest : List Oper} {o : Oper} {a : Act} {w : World} {Q : Exit → Act → World → Prop}

theorem gate_ld (ty : TypeId) (x : Operand) (ho : o.op = .load ty x) (h : wpList P ops Q (o :: rest) a w) : wpList P ops Q (o :: rest) a w := h
theorem gate_st (ty : TypeId) (x y : Operand) (ho : o.op = .store ty x y) (h : wpList P ops Q (o :: rest) a w) : wpList P ops Q (o :: rest) a w := h

theorem wpl_load_blk (hgd : o.guard = none) (ty : TypeId) (x : Operand) (ho : o.op = .load ty x) (b : Nat) (hx : a.eval x = .pointer (some ⟨b, 0, none⟩)) {C : Array Value} {t : TypeId} (hb : Blk w b C t)
    {d : TypeDesc} (hu : P.underlying ty = some d) (hd : d.isRow = true) {n : Nat} (hi : (P.info? ty).map (·.size) = some n) (hn : n = C.size)
    (h : wpList P ops Q rest (a.put o.dst (.agg C)) w) : wpList P ops Q (o :: rest) a w :=
  wpList_load_mid hgd ty x ho b 0 hx C.toList d hb.range hu hd (by rw [hi, hn]; simp) h

theorem wp_store_blk {K : Act → World → Prop} (ty : TypeId) (x y : Operand) (ho : o.op = .store ty x y) (b : Nat) (hx : a.eval x = .pointer (some ⟨b, 0, none⟩)) {C C' : Array Value} (hy : a.eval y = .agg C')
    {t : TypeId} (hb : Blk w b C t) {n : Nat} (hi : (P.info? ty).map (·.size) = some n) (hn : n = C'.size) (hc : C.size = C'.size) (h1 : C'.all (·.oneCell') = true)
    (h : K (a.put o.dst undef) (w.setRow b C')) : o.wp P a w K Q := by
  unfold Oper.wp execOp
  simp only [ho, hx, hy, Instr.storeAt, Instr.sureAddr, Sem.run_bind, Sem.run_pure, Result.andThen_ok, run_storeVar_row w b t ty C C' hb (by rw [hi, hn]) hc h1]
  exact h

theorem wp_load_blk {K : Act → World → Prop} (ty : TypeId) (x : Operand) (ho : o.op = .load ty x) (b : Nat) (hx : a.eval x = .pointer (some ⟨b, 0, none⟩)) {C : Array Value} {t : TypeId} (hb : Blk w b C t)
    {d : TypeDesc} (hu : P.underlying ty = some d) (hd : d.isRow = true) {n : Nat} (hi : (P.info? ty).map (·.size) = some n) (hn : n = C.size)
    (h : K (a.put o.dst (.agg C)) w) : o.wp P a w K Q :=
  wp_load_mid ty x ho b 0 hx C.toList d hb.range hu hd (by rw [hi, hn]; simp) h

/-- the same behind a guard that lets it go -/
theorem wpl_load_blkG {gj : Nat} {gb : Bool} (hgd : o.guard = some (gj, gb)) (hy : yielded ops a.tmps gj = some gb) (ty : TypeId) (x : Operand) (ho : o.op = .load ty x) (b : Nat) (hx : a.eval x = .pointer (some ⟨b, 0, none⟩)) {C : Array Value} {t : TypeId} (hb : Blk w b C t)
    {d : TypeDesc} (hu : P.underlying ty = some d) (hd : d.isRow = true) {n : Nat} (hi : (P.info? ty).map (·.size) = some n) (hn : n = C.size)
    (h : wpList P ops Q rest (a.put o.dst (.agg C)) w) : wpList P ops Q (o :: rest) a w :=
  wpList_step fun K hK => by
    simp only [Region.wanted, hgd, hy, beq_self_eq_true, if_true]
    exact wp_load_blk ty x ho b hx hb hu hd hi hn (hK _ _ h)

theorem wpl_store_blk (hgd : o.guard = none) (ty : TypeId) (x y : Operand) (ho : o.op = .store ty x y) (b : Nat) (hx : a.eval x = .pointer (some ⟨b, 0, none⟩)) {C C' : Array Value} (hy : a.eval y = .agg C')
    {t : TypeId} (hb : Blk w b C t) {n : Nat} (hi : (P.info? ty).map (·.size) = some n) (hn : n = C'.size) (hc : C.size = C'.size) (h1 : C'.all (·.oneCell') = true)
    (h : wpList P ops Q rest (a.put o.dst undef) (w.setRow b C')) : wpList P ops Q (o :: rest) a w :=
  wpList_plain hgd fun K hK => by
    unfold Oper.wp execOp
    simp only [ho, hx, hy, Instr.storeAt, Instr.sureAddr, Sem.run_bind, Sem.run_pure, Result.andThen_ok, run_storeVar_row w b t ty C C' hb (by rw [hi, hn]) hc h1]
    exact hK _ _ h

/-- the store of a whole struct into the block that was made last -/
theorem wpl_store_last {c c' : Array Value} {t : TypeId} (hgd : o.guard = none) (ty : TypeId) (x y : Operand) (ho : o.op = .store ty x y) (k : Nat) (hx : a.eval x = .pointer (some ⟨k, 0, none⟩)) (hk : k = w.heap.size) (hy : a.eval y = .agg c')
    {n : Nat} (hi : (P.info? ty).map (·.size) = some n) (hn : n = c'.size) (hc : c.size = c'.size) (h1 : c'.all (·.oneCell') = true)
    (h : wpList P ops Q rest (a.put o.dst undef) (w.alloc (.cells c' t))) : wpList P ops Q (o :: rest) a (w.alloc (.cells c t)) := by
  subst hk
  refine wpl_store_blk hgd ty x y ho _ hx hy (Blk.new _ _ _) hi hn hc h1 ?_
  rw [World.setRow_alloc_new]; exact h

theorem setRow_under (w : World) (o : Obj) (c c' : Array Value) (t : TypeId) : ((w.alloc (.cells c t)).alloc o).setRow w.heap.size c' = (w.alloc (.cells c' t)).alloc o := by
  simp only [World.setRow, World.alloc]
  congr 1
  apply Array.ext_getElem?
  intro i
  rw [Array.getElem?_modify]
  by_cases h : w.heap.size = i
  · subst h
    simp [Array.getElem?_push]
  · have h' : ¬ i = w.heap.size := fun e => h e.symm
    simp [h, h', Array.getElem?_push]

/-- .. and into the one below it -/
theorem wpl_store_under {c c' : Array Value} {t : TypeId} {ob : Obj} (hgd : o.guard = none) (ty : TypeId) (x y : Operand) (ho : o.op = .store ty x y) (k : Nat) (hx : a.eval x = .pointer (some ⟨k, 0, none⟩)) (hk : k = w.heap.size) (hy : a.eval y = .agg c')
    {n : Nat} (hi : (P.info? ty).map (·.size) = some n) (hn : n = c'.size) (hc : c.size = c'.size) (h1 : c'.all (·.oneCell') = true)
    (h : wpList P ops Q rest (a.put o.dst undef) ((w.alloc (.cells c' t)).alloc ob)) : wpList P ops Q (o :: rest) a ((w.alloc (.cells c t)).alloc ob) := by
  subst hk
  refine wpl_store_blk hgd ty x y ho _ hx hy ((Blk.new _ _ _).alloc _) hi hn hc h1 ?_
  rw [setRow_under]; exact h
end

/-- a result that lies in a block -/
theorem results_blk {fn : Func} {s : Tmp} {ty : TypeId} {tmps : Array Value} {b : Nat} {w : World} {C : Array Value} {t : TypeId} (hr : fn.results = #[.cell s ty]) (ht : tmps.getD s undef = .pointer (some ⟨b, 0, none⟩))
    (hb : Blk w b C t) {d : TypeDesc} (hu : Try.prog.underlying ty = some d) (hd : d.isRow = true) {n : Nat} (hi : (Try.prog.info? ty).map (·.size) = some n) (hn : n = C.size) : (results fn tmps).run Try.prog w = .ok (.agg C) w := by
  have e : tmps[s]?.getD undef = .pointer (some ⟨b, 0, none⟩) := by rw [← ht]; simp
  have hl := run_loadVar_mid (P := Try.prog) w b 0 ty C.toList d hb.range hu hd (by rw [hi, hn]; simp)
  simp [results, hr, e, hl, asAddr]
end Go.Proofs.Ytfcmffdljfljkaa

/-
  A region that draws its order, by an invariant: each operation is looked at once, whatever order is drawn.
-/
namespace Go.Proofs.Ytfcmffdljfljkaa
open Go.RowKit
set_option linter.unusedVariables false

theorem count_set : ∀ (l : List Bool) (i : Nat), l[i]? = some false → (l.set i true).count false + 1 = l.count false
  | [], i, h => by simp at h
  | b :: l, 0, h => by
    simp at h
    subst h
    simp
  | b :: l, i + 1, h => by
    have := count_set l i (by simpa using h)
    simp only [List.set_cons_succ, List.count_cons]
    omega

theorem ready_mem {md : Region.Mode} {ops : Array Oper} {L : Array Bool} {i : Nat} (hs : L.size = ops.size) (h : i ∈ Region.ready md ops L) : i < ops.size ∧ L[i]? = some false := by
  have h1 := List.mem_filter.1 h
  have hi : i < ops.size := List.mem_range.1 h1.1
  refine ⟨hi, ?_⟩
  have h2 := h1.2
  simp only [Bool.and_eq_true] at h2
  have h3 := h2.1
  rw [Array.getElem?_eq_getElem (by omega)]
  simp [Array.getD, show i < L.size by omega] at h3
  simp [h3]

/-- which operations must have been done ahead of operation i -/
def needs (md : Region.Mode) (ops : Array Oper) (i : Nat) : List Nat := ((ops[i]?).map fun o => (o.after.toList.filter (Region.binds md)).map (·.on)).getD []
theorem ready_needs {md : Region.Mode} {ops : Array Oper} {L : Array Bool} {i j : Nat} (h : i ∈ Region.ready md ops L) (hj : j ∈ needs md ops i) : L.getD j false = true := by
  have h1 := List.mem_filter.1 h
  have hi : i < ops.size := List.mem_range.1 h1.1
  have h2 := h1.2
  simp only [Bool.and_eq_true] at h2
  have h3 := h2.2
  unfold needs at hj
  rw [Array.getElem?_eq_getElem hi] at h3 hj
  simp only [Option.map_some, Option.getD_some] at h3 hj
  obtain ⟨e, he, rfl⟩ := List.mem_map.1 hj
  obtain ⟨he1, he2⟩ := List.mem_filter.1 he
  have h4 := (Array.all_eq_true_iff_forall_mem.1 h3) e (by simpa using he1)
  simpa [he2] using h4

theorem wpAny_inv {P : Program} {ops : Array Oper} {Q : Exit → Act → World → Prop} {md : Region.Mode} (J : Array Bool → Act → World → Prop)
    (hstep : ∀ L a w i, L.size = ops.size → i ∈ Region.ready md ops L → J L a w → wpOp P ops Q i (J (L.setIfInBounds i true)) a w)
    (hend : ∀ L a w, L.size = ops.size → Region.ready md ops L = [] → J L a w → Q .normal a w) :
    ∀ (fuel : Nat) (L : Array Bool) (a : Act) (w : World), L.size = ops.size → L.toList.count false ≤ fuel → J L a w → wpAny P md ops Q fuel L a w
  | 0, L, a, w, hs, hc, hJ => by
    have hr : Region.ready md ops L = [] := by
      cases h : Region.ready md ops L with
      | nil => rfl
      | cons x xs =>
        obtain ⟨h1, h2⟩ := ready_mem (md := md) hs (show x ∈ Region.ready md ops L by rw [h]; simp)
        have : false ∈ L.toList := List.mem_iff_getElem?.2 ⟨x, by simpa using h2⟩
        have := List.count_pos_iff.2 this
        omega
    exact ⟨hr, hend L a w hs hr hJ⟩
  | fuel + 1, L, a, w, hs, hc, hJ => by
    refine ⟨fun h => hend L a w hs h hJ, fun i hi => ?_⟩
    obtain ⟨h1, h2⟩ := ready_mem hs hi
    refine wpOp_mono (fun a' w' hJ' => wpAny_inv J hstep hend fuel _ a' w' (by simpa using hs) ?_ hJ') (hstep L a w i hs hi hJ)
    have := count_set L.toList i (by simpa using h2)
    simp only [Array.toList_setIfInBounds]
    omega

theorem wp_region_inv {P : Program} {id : Nat} {ops : Array Oper} {Q : Exit → Act → World → Prop} {a : Act} {w : World} (hm : P.follows .mixedOrders = true) (J : Array Bool → Act → World → Prop)
    (h0 : J (Array.replicate ops.size false) a w.drew)
    (hstep : ∀ L a w i, L.size = ops.size → i ∈ Region.ready .any ops L → J L a w → wpOp P ops Q i (J (L.setIfInBounds i true)) a w)
    (hend : ∀ L a w, L.size = ops.size → Region.ready .any ops L = [] → J L a w → Q .normal a w) : (Code.region id ops true).wp P Q a w :=
  wp_region_any hm (wpAny_inv J hstep hend ops.size _ a _ (by simp) (by simp) h0)

theorem wp_named {P : Program} {c : Code} {Q : Exit → Act → World → Prop} {a : Act} {w : World} (h : ∀ a0, a0 = a → c.wp P Q a0 w) : c.wp P Q a w := h a rfl

theorem wpOp_plain {P : Program} {ops : Array Oper} {Q : Exit → Act → World → Prop} {i : Nat} {K : Act → World → Prop} {a : Act} {w : World} {o : Oper} (hi : ops[i]? = some o) (hg : o.guard = none) (h : o.wp P a w K Q) : wpOp P ops Q i K a w := by
  unfold wpOp
  rw [hi]
  simp only [Region.wanted, hg, if_true]
  exact .inl h

theorem getD_set (L : Array Bool) (i j : Nat) (hi : i < L.size) : (L.setIfInBounds i true).getD j false = (decide (j = i) || L.getD j false) := by
  simp only [Array.getD_eq_getD_getElem?, Array.getElem?_setIfInBounds]
  by_cases h : i = j
  · subst h; simp [hi]
  · have h' : ¬ j = i := fun e => h e.symm
    simp [h, h']

theorem keepBit {L : Array Bool} {i j : Nat} (h : (L.setIfInBounds i true).getD j false = true) (hi : i < L.size) (hne : j ≠ i) : L.getD j false = true := by
  rw [getD_set L i j hi] at h
  simpa [hne] using h
theorem setBit {L : Array Bool} {i j : Nat} (h : L.getD j false = true) (hi : i < L.size) : (L.setIfInBounds i true).getD j false = true := by
  rw [getD_set L i j hi, h]; simp
theorem setSelf {L : Array Bool} {i : Nat} (hi : i < L.size) : (L.setIfInBounds i true).getD i false = true := by
  rw [getD_set L i i hi]; simp
theorem readyBit {md : Region.Mode} {ops : Array Oper} {L : Array Bool} {i : Nat} (hs : L.size = ops.size) (h : i ∈ Region.ready md ops L) (hd : L.getD i false = true) : False := by
  have hn := (ready_mem hs h).2
  rw [Array.getD_eq_getD_getElem?, hn] at hd
  simp at hd
theorem noBit {n j : Nat} (h : (Array.replicate n false).getD j false = true) : False := by
  simp only [Array.getD_eq_getD_getElem?, Array.getElem?_replicate] at h
  split at h <;> simp at h
/-- nothing is left tq be done: all is done, where an operation waits only for ones ahead of it -/
theorem ready_nil {md : Region.Mode} {ops : Array Oper} {L : Array Bool} (hs : L.size = ops.size) (h : Region.ready md ops L = []) (hord : (List.range ops.size).all (fun i => (needs md ops i).all (· < i)) = true) : ∀ j, j < ops.size → L.getD j false = true := by
  intro j
  induction j using Nat.strongRecOn with
  | _ j ih =>
    intro hj
    cases hb : L.getD j false with
    | true => rfl
    | false =>
      exfalso
      have hm : j ∈ Region.ready md ops L := by
        refine List.mem_filter.2 ⟨List.mem_range.2 hj, ?_⟩
        have hjL : j < L.size := by omega
        rw [Array.getElem?_eq_getElem hj]
        simp only [Option.map_some, Option.getD_some, Bool.and_eq_true]
        refine ⟨?_, Array.all_eq_true_iff_forall_mem.2 fun e he => ?_⟩
        · simp only [Array.getD, hjL, dif_pos] at hb ⊢
          simpa using hb
        · cases hbd : Region.binds md e with
          | false => rfl
          | true =>
            have hn : e.on ∈ needs md ops j := by
              unfold needs
              rw [Array.getElem?_eq_getElem hj]
              simp only [Option.map_some, Option.getD_some]
              exact List.mem_map.2 ⟨e, List.mem_filter.2 ⟨by simpa using he, hbd⟩, rfl⟩
            have hl : e.on < j := by
              have h1 := List.all_eq_true.1 hord j (List.mem_range.2 hj)
              simpa using List.all_eq_true.1 h1 e.on hn
            simp [ih e.on hl (by omega)]
      rw [h] at hm
      cases hm

theorem wp_call_go {a : Act} {w : World} {K : Act → World → Prop} {Q : Exit → Act → World → Prop} {o : Oper} {N : FuncId} {ags : Array Operand} {ts : Array TypeId} (ho : o.op = .call ⟨.value (.func N), ags, ts⟩)
    (hN : ∀ args w, (callFunc N args).run Try.prog w = .ok (.enter N args) w) (args : Array Value) (hA : ags.map a.eval = args)
    (hc : Calls Try.prog N args w fun e w' => ∃ v, e = .returned v ∧ K (a.put o.dst v) w') : o.wp Try.prog a w K Q := by
  subst hA
  unfold Oper.wp execOp
  simp only [ho, resolve, Act.eval, Deferred.ofValue, invoke]
  go_simp
  exact hc.mono fun e w' ⟨v, hv, hk⟩ => by subst hv; exact hk

theorem wp_value_go {a : Act} {w : World} {K : Act → World → Prop} {Q : Exit → Act → World → Prop} {o : Oper} {v : Value} (he : (execOp a.eval o).run Try.prog w = .ok (.value v) w) (h : K (a.put o.dst v) w) : o.wp Try.prog a w K Q := by
  unfold Oper.wp
  rw [he]
  exact h

theorem wp_not_go {a : Act} {w : World} {K : Act → World → Prop} {Q : Exit → Act → World → Prop} {o : Oper} (x : Operand) (ho : o.op = .unOp .not 4 x) {b : Bool} (hx : a.eval x = .bool b) (h : K (a.put o.dst (.bool !b)) w) : o.wp Try.prog a w K Q := by
  unfold Oper.wp execOp
  simp only [ho, hx]
  go_simp
  exact h

theorem wp_move_go {a : Act} {w : World} {K : Act → World → Prop} {Q : Exit → Act → World → Prop} {o : Oper} (x : Operand) (ho : o.op = .move x ∨ o.op = .assign x) (h : K (a.put o.dst (a.eval x)) w) : o.wp Try.prog a w K Q := by
  unfold Oper.wp execOp
  rcases ho with ho | ho <;> simp only [ho, Sem.run_pure] <;> exact h

theorem wp_alloc_go {a : Act} {w : World} {K : Act → World → Prop} {Q : Exit → Act → World → Prop} {o : Oper} (T : TypeId) (Z : Array Value) (ho : o.op = .alloc T)
    (hz : ∀ u : World, (Instr.alloc T true (.tuple #[])).run Try.prog u = .ok (.pointer (some ⟨u.heap.size, 0, none⟩)) (u.alloc (.cells Z T)))
    (h : K (a.put o.dst (.pointer (some ⟨w.heap.size, 0, none⟩))) (w.alloc (.cells Z T))) : o.wp Try.prog a w K Q := by
  unfold Oper.wp execOp
  simp only [ho, Sem.run_bind, hz, Result.andThen_ok, Sem.run_pure]
  exact h

/-- the frame a0, but for the slots ds, which hold x -/
def frame (a0 : Act) (ds : List Nat) (x : Nat → Value) : Act := { a0 with tmps := (a0.tmps.toList.zipIdx.map fun p => if ds.contains p.2 then x p.2 else p.1).toArray }
theorem frame_get (a0 : Act) (ds : List Nat) (x : Nat → Value) (t : Nat) : (frame a0 ds x).tmps[t]? = a0.tmps[t]?.map fun v => if ds.contains t then x t else v := by
  simp only [frame, List.getElem?_toArray, List.getElem?_map, List.getElem?_zipIdx, Array.getElem?_toList, Option.map_map]
  cases a0.tmps[t]? <;> simp
theorem frame_size (a0 : Act) (ds : List Nat) (x : Nat → Value) : (frame a0 ds x).tmps.size = a0.tmps.size := by simp [frame]
theorem frame_eval (a0 : Act) (ds : List Nat) (x : Nat → Value) (t : Nat) (h : ds.contains t = false) : (frame a0 ds x).eval (.tmp t) = a0.eval (.tmp t) := by
  have := frame_get a0 ds x t
  simp only [Act.eval, Array.getD_eq_getD_getElem?, this, h]
  cases a0.tmps[t]? <;> simp
theorem frame_eval_in (a0 : Act) (ds : List Nat) (x : Nat → Value) (t : Nat) (h : ds.contains t = true) (hlt : t < a0.tmps.size) : (frame a0 ds x).eval (.tmp t) = x t := by
  have := frame_get a0 ds x t
  rw [Array.getElem?_eq_getElem hlt] at this
  simp only [Act.eval, Array.getD_eq_getD_getElem?, this, h]
  simp
def upd (x : Nat → Value) (k : Nat) (v : Value) : Nat → Value := fun t => if t = k then v else x t
theorem upd_same (x : Nat → Value) (k : Nat) (v : Value) : upd x k v k = v := by simp [upd]
theorem upd_ne (x : Nat → Value) (k t : Nat) (v : Value) (h : t ≠ k) : upd x k v t = x t := by simp [upd, h]
theorem act_ext {a b : Act} (h1 : ∀ t : Nat, a.tmps[t]? = b.tmps[t]?) (h2 : a.defers = b.defers) : a = b := by
  obtain ⟨t1, d1⟩ := a
  obtain ⟨t2, d2⟩ := b
  have : t1 = t2 := Array.ext_getElem? h1
  subst this
  subst h2
  rfl
theorem frame_put (a0 : Act) (ds : List Nat) (x : Nat → Value) (k : Nat) (v : Value) (h : ds.contains k = true) : (frame a0 ds x).put (some k) v = frame a0 ds (upd x k v) := by
  refine act_ext (fun t => ?_) rfl
  rw [frame_get]
  show ((frame a0 ds x).tmps.setIfInBounds k v)[t]? = _
  rw [Array.getElem?_setIfInBounds]
  by_cases e : k = t
  · subst e
    rw [frame_size]
    by_cases hl : k < a0.tmps.size
    · rw [if_pos rfl, if_pos hl, Array.getElem?_eq_getElem hl]
      simp only [Option.map_some, h, if_true, upd]
    · rw [if_pos rfl, if_neg hl, Array.getElem?_eq_none (by omega)]
      rfl
  · rw [if_neg e, frame_get]
    have e' : ¬ t = k := fun h => e h.symm
    simp [upd, e']
theorem frame_put_none (a0 : Act) (ds : List Nat) (x : Nat → Value) (v : Value) : (frame a0 ds x).put none v = frame a0 ds x := rfl
theorem frame_self (a0 : Act) (ds : List Nat) : a0 = frame a0 ds (fun t => a0.tmps.getD t undef) := by
  refine act_ext (fun t => ?_) rfl
  rw [frame_get]
  cases h : a0.tmps[t]? with
  | none => rfl
  | some v => simp [Array.getD_eq_getD_getElem?, h]
end Go.Proofs.Ytfcmffdljfljkaa

/-
  slices.Clone of ints and of bytes; impl.copyPacket; append of a packet in a region that draws.
-/
namespace Go.Proofs.Ytfcmffdljfljkaa
open Go.RowKit
set_option linter.unusedVariables false
set_option linter.unusedSimpArgs false

theorem OwnI.nil (w : World) (B : Nat) : OwnI w B (.slice none 0 0) [] := World.ownsRow_nil w B 3 1
theorem OwnI.le {w : World} {B B' : Nat} {v : Value} {l : List Int} (h : OwnI w B v l) (hb : B' ≤ B) : OwnI w B' v l := by
  refine ⟨h.1, ?_⟩
  rcases h.2 with h | ⟨g, cap, cur, hv, hg, r⟩
  · exact .inl h
  · exact .inr ⟨g, cap, cur, hv, Nat.le_trans hb hg, r⟩
set_option maxRecDepth 100000 in
theorem wpl_appendIs {w : World} {ops : Array Oper} {rest : List Oper} {o : Oper} {a : Act} {Q : Exit → Act → World → Prop} (hgd : o.guard = none) (s x : Operand)
    (ho : o.op = .call { callee := .builtin .append, args := #[s, x], argTypes := #[23, 23] })
    {B : Nat} {v : Value} {l : List Int} (es : List Int) (hown : OwnI w B v l) (hs : a.eval s = v) (A : Addr) (c : Nat) (hu : ∀ j u, (es.map (Value.int .i64))[j]? = some u → w.cell? (A.add j) = some u) (hx : a.eval x = .slice (some A) es.length c) (hlen : l.length + es.length ≤ 2000000) (hB : B ≤ w.heap.size)
    (h : ∀ v' w', OwnI w' B v' (l ++ es) → Grew w v w' v' → wpList Try.prog ops Q rest (a.put o.dst v') w') : wpList Try.prog ops Q (o :: rest) a w := by
  obtain ⟨i0, hi, hz0, hz1, hz2⟩ := info_parts infoI64
  refine wpList_append_own_at w hgd s x 23 ho B 3 i0 _ 1 8 Try.underlying23 hi hz0 hz1 hz2 rfl (by decide) v l.length _ hs hown A es.length c (es.map (Value.int .i64)) hx (by simp) hu ?_ (by unfold maxLen; omega) (by omega) hB ?_
  · intro u hu
    obtain ⟨y, _, rfl⟩ := List.mem_map.1 hu
    rfl
  · intro v' w' h2 h3 _ h5
    exact h v' w' (by simpa [OwnI] using h2) ⟨h3, h5.imp id fun e => ⟨_, e, Nat.le_refl _⟩⟩
set_option maxRecDepth 100000 in
theorem wpl_appendBs {w : World} {ops : Array Oper} {rest : List Oper} {o : Oper} {a : Act} {Q : Exit → Act → World → Prop} (hgd : o.guard = none) (s x : Operand)
    (ho : o.op = .call { callee := .builtin .append, args := #[s, x], argTypes := #[35, 35] })
    {B : Nat} {v : Value} {l : List Int} (es : List Int) (h8 : ∀ x ∈ es, 0 ≤ x ∧ x ≤ 255) (hown : Own w B v l) (hs : a.eval s = v) (A : Addr) (c : Nat) (hu : ∀ j u, (es.map (Value.int .u8))[j]? = some u → w.cell? (A.add j) = some u) (hx : a.eval x = .slice (some A) es.length c) (hlen : l.length + es.length ≤ 2000000) (hB : B ≤ w.heap.size)
    (h : ∀ v' w', Own w' B v' (l ++ es) → Grew w v w' v' → wpList Try.prog ops Q rest (a.put o.dst v') w') : wpList Try.prog ops Q (o :: rest) a w := by
  obtain ⟨i0, hi, hz0, hz1, hz2⟩ := info_parts infoU8
  refine wpList_append_own_at w hgd s x 35 ho B 5 i0 _ 1 1 Try.underlying35 hi hz0 hz1 hz2 rfl (by decide) v l.length _ hs hown.2 A es.length c (es.map (Value.int .u8)) hx (by simp) hu ?_ (by unfold maxLen; omega) (by omega) hB ?_
  · intro u hu
    obtain ⟨y, _, rfl⟩ := List.mem_map.1 hu
    rfl
  · intro v' w' h2 h3 _ h5
    refine h v' w' ⟨fun y hy => ?_, by simpa using h2⟩ ⟨h3, h5.imp id fun e => ⟨_, e, Nat.le_refl _⟩⟩
    rcases List.mem_append.1 hy with hy | hy
    · exact hown.1 y hy
    · exact h8 y hy
theorem eql_nilP (t e : TypeId) (a : Option Addr) (l c : Nat) (h : Try.prog.underlying t = some (.slice e)) (w : World) : (binOp .eql t (.slice a l c) (.slice none 0 0)).run Try.prog w = .ok (.bool a.isNone) w := by
  simp only [binOp]
  simp [run_equal_slice_nil w t e a l c h]

set_option maxHeartbeats 2000000 in
set_option maxRecDepth 100000 in
theorem cloneI_any (v : Value) (l : List Int) (w : World) (hv : Ix w v l) (hll : l.length ≤ 1048576) :
    Calls Try.prog 87 #[v] w fun e w' => ∃ v', e = .returned v' ∧ OwnI w' w.heap.size v' l ∧ Below w.heap.size w w' := by
  obtain ⟨hm, a, cap, rfl, hc⟩ := hv
  have hq := fun u => eql_nilP 23 3 a l.length cap Try.underlying23 u
  cases a with
  | none =>
    have h0 : l = [] := by
      cases l with
      | nil => rfl
      | cons e l =>
        obtain ⟨b, off, h, _⟩ := hc 0 (by simp)
        cases h
    subst h0
    simp only [Option.isNone_none, List.length_nil] at hq
    go_enter Try.func87, Try.ntmps87
    go_wp2
    go_ret
    exact ⟨_, rfl, OwnI.nil _ _, Below.refl _ _⟩
  | some A =>
    have HU : Hid (∀ j u, (l.map (Value.int .i64))[j]? = some u → w.cell? (A.add j) = some u) := by
      intro j u hj
      rw [List.getElem?_map] at hj
      have hjl : j < l.length := by
        rcases Nat.lt_or_ge j l.length with h' | h'
        · exact h'
        · rw [List.getElem?_eq_none h'] at hj; cases hj
      obtain ⟨b, off, h, hjs⟩ := hc j hjl
      injection h with h
      subst h
      rw [cell_add, hjs j hjl]
      rw [List.getElem?_eq_getElem hjl] at hj
      exact hj
    clear hc
    simp only [Option.isNone_some] at hq
    go_enter Try.func87, Try.ntmps87
    go_wp2_with (at_builtin; refine wpl_appendIs rfl (.tmp 5) (.tmp 6) rfl l (OwnI.made w w.heap.size (Nat.le_refl _)) rfl A cap (fun j u hj => (by have h1 := HU.out j u hj; rw [World.cell?_alloc_lt _ _ _ (World.block_lt_of_cell? w _ h1)]; exact h1)) rfl (by simp; omega) (by simp) ?_; intro v' w' ho hg; have hb := growI hg (OwnI.made w w.heap.size (Nat.le_refl _)) (by simp))
    go_ret
    exact ⟨_, rfl, by simpa using ho, ((Below.refl _ _).alloc (Nat.le_refl _) _).trans hb⟩
set_option maxHeartbeats 2000000 in
set_option maxRecDepth 100000 in
theorem cloneB_any (v : Value) (l : List Int) (w : World) (hv : Bs w v l) (hll : l.length ≤ 1048576) :
    Calls Try.prog 91 #[v] w fun e w' => ∃ v', e = .returned v' ∧ Own w' w.heap.size v' l ∧ Below w.heap.size w w' := by
  obtain ⟨hm, h8, a, cap, rfl, hc⟩ := hv
  have hq := fun u => eql_nilP 35 5 a l.length cap Try.underlying35 u
  cases a with
  | none =>
    have h0 : l = [] := by
      cases l with
      | nil => rfl
      | cons e l =>
        obtain ⟨b, off, h, _⟩ := hc 0 (by simp)
        cases h
    subst h0
    simp only [Option.isNone_none, List.length_nil] at hq
    go_enter Try.func91, Try.ntmps91
    go_wp2
    go_ret
    exact ⟨_, rfl, Own.nil _ _, Below.refl _ _⟩
  | some A =>
    have H8 : Hid (∀ x ∈ l, 0 ≤ x ∧ x ≤ 255) := h8
    have HU : Hid (∀ j u, (l.map (Value.int .u8))[j]? = some u → w.cell? (A.add j) = some u) := by
      intro j u hj
      rw [List.getElem?_map] at hj
      have hjl : j < l.length := by
        rcases Nat.lt_or_ge j l.length with h' | h'
        · exact h'
        · rw [List.getElem?_eq_none h'] at hj; cases hj
      obtain ⟨b, off, h, hjs⟩ := hc j hjl
      injection h with h
      subst h
      rw [cell_add, hjs j hjl]
      rw [List.getElem?_eq_getElem hjl] at hj ⊢
      exact hj
    clear hc h8
    simp only [Option.isNone_some] at hq
    go_enter Try.func91, Try.ntmps91
    go_wp2_with (at_builtin; refine wpl_appendBs rfl (.tmp 5) (.tmp 6) rfl l H8.out (Own.lit0 w) rfl A cap (fun j u hj => (by have h1 := HU.out j u hj; rw [World.cell?_alloc_lt _ _ _ (World.block_lt_of_cell? w _ h1)]; exact h1)) rfl (by simp; omega) (by simp) ?_; intro v' w' ho hg; have hb := hg.below (Own.lit0 w) (by simp))
    go_ret
    exact ⟨_, rfl, by simpa using ho, ((Below.refl _ _).alloc (Nat.le_refl _) _).trans hb⟩

theorem Own.setLowP {w : World} {B : Nat} {v : Value} {l : List Int} (h : Own w B v l) {b i : Nat} (hb : b < B) (x : Value) : Own (w.setCell ⟨b, i, none⟩ x) B v l :=
  h.block fun k e => Below.heap_setCell _ _ _ _ (by have := (h.2.lt k e).1; simp only []; omega)

set_option maxHeartbeats 2000000 in
set_option maxRecDepth 100000 in
theorem copyPacket_any (i f t : Int) (v : Value) (l : List Int) (w : World) (hv : Bs w v l) (hl : l.length ≤ 1048576) :
    Calls Try.prog 59 #[.agg #[.int .i64 i, .int .i64 f, .int .i64 t, v]] w fun e w' => ∃ a cap, e = .returned (.agg #[.int .i64 i, .int .i64 f, .int .i64 t, .slice a l.length cap]) ∧ Own w' w.heap.size (.slice a l.length cap) l ∧ Below w.heap.size w w' := by
  have HT : Hid (∀ w', Below w.heap.size w w' → Calls Try.prog 91 #[v] w' fun e w'' => ∃ v', e = .returned v' ∧ Own w'' w'.heap.size v' l ∧ Below w'.heap.size w' w'') := fun w' hb => cloneB_any _ l w' (hv.below hb) hl
  obtain ⟨a, cap, rfl⟩ := hv.sh
  clear hv
  have hb0 : Hid (Below w.heap.size w ((w.alloc (.cells #[.int .i64 i, .int .i64 f, .int .i64 t, .slice a l.length cap] 60)).alloc (.cells #[.int .i64 0, .int .i64 0, .int .i64 0, .slice none 0 0] 60))) := ((Below.refl _ _).alloc (Nat.le_refl _) _).alloc (by simp) _
  go_enter Try.func59, Try.ntmps59
  go_wp2_with (go_at_call 91; refine (HT.out _ hb0.out).mono ?_; rintro e w1 ⟨v', rfl, ho1, hb1⟩; obtain ⟨a', cap', rfl⟩ := ho1.shape; obtain ⟨hcc, hff⟩ := bcell hb1; have hz1 := hb1.size; simp at hz1; have z1 : ∀ o, w1.frozen? ⟨w.heap.size, o, none⟩ = false := fun o => (hff _ o (by simp; omega)).trans (by simp [go_sem]); have z2 : ∀ o, w1.frozen? ⟨w.heap.size + 1, o, none⟩ = false := fun o => (hff _ o (by simp)).trans (by simp [go_sem]); have r0 : w1.cell? ⟨w.heap.size + 1, 0, none⟩ = some (.int .i64 0) := (hcc _ 0 (by simp)).trans (by simp [go_sem]); have r1 : w1.cell? ⟨w.heap.size + 1, 1, none⟩ = some (.int .i64 0) := (hcc _ 1 (by simp)).trans (by simp [go_sem]); have r2 : w1.cell? ⟨w.heap.size + 1, 2, none⟩ = some (.int .i64 0) := (hcc _ 2 (by simp)).trans (by simp [go_sem]); have r3 : w1.cell? ⟨w.heap.size + 1, 3, none⟩ = some (.slice none 0 0) := (hcc _ 3 (by simp)).trans (by simp [go_sem]); have q0 : w1.cell? ⟨w.heap.size, 0, none⟩ = some (.int .i64 i) := (hcc _ 0 (by simp; omega)).trans (by simp [go_sem]); have q1 : w1.cell? ⟨w.heap.size, 1, none⟩ = some (.int .i64 f) := (hcc _ 1 (by simp; omega)).trans (by simp [go_sem]); have q2 : w1.cell? ⟨w.heap.size, 2, none⟩ = some (.int .i64 t) := (hcc _ 2 (by simp; omega)).trans (by simp [go_sem]); have q3 : w1.cell? ⟨w.heap.size, 3, none⟩ = some (.slice a l.length cap) := (hcc _ 3 (by simp; omega)).trans (by simp [go_sem]); clear hcc hff)
  refine bodyPost_ret (v := .agg #[.int .i64 i, .int .i64 f, .int .i64 t, .slice a' l.length cap']) (by simp [results, Try.results59, go_sem, r0, r1, r2, r3]) rfl ⟨a', cap', rfl, ?_, ?_⟩
  · exact (((((ho1.setLowP (b := w.heap.size) (by simp; omega) _).setLowP (b := w.heap.size + 1) (by simp) _).setLowP (b := w.heap.size + 1) (by simp) _).setLowP (b := w.heap.size + 1) (by simp) _).setLowP (b := w.heap.size + 1) (by simp) _).le (by simp; omega)
  · exact (((((hb0.out.trans (hb1.mono (by simp; omega))).setCell (Nat.le_refl _) _).setCell (Nat.le_succ _) _).setCell (Nat.le_succ _) _).setCell (Nat.le_succ _) _).setCell (Nat.le_succ _) _

theorem stp_call {w : World} {ops : Array Oper} {o : Oper} {a : Act} {K : Act → World → Prop} {Q : Exit → Act → World → Prop} {E : Prop} (hgd : o.guard = none) {N : FuncId} {ags : Array Operand} {ts : Array TypeId} (ho : o.op = .call ⟨.value (.func N), ags, ts⟩)
    (hN : ∀ args w, (callFunc N args).run Try.prog w = .ok (.enter N args) w) (args : Array Value) (hA : ags.map a.eval = args)
    (hc : Calls Try.prog N args w fun e w' => ∃ v, e = .returned v ∧ K (a.put o.dst v) w') : if Region.wanted o (yielded ops a.tmps) = true then Oper.wp Try.prog o a w K Q else E := by
  have hw : Region.wanted o (yielded ops a.tmps) = true := by simp [Region.wanted, hgd]
  rw [if_pos hw]
  exact wp_call_go ho hN args hA hc
theorem OwnP.appended {w w' : World} {B N : Nat} {v v' : Value} {l : List Pk} (p : Pk) (hown : OwnP w B v l) (hp : Own w N p.2 p.1.bs) (hpl : p.1.bs.length ≤ maxLen) (hBN : B ≤ N) (hN : (∀ k, v.ownBlock = some k → k < N) ∧ ∀ p' ∈ l, ∀ k, p'.2.ownBlock = some k → k < N)
    (h2 : w'.ownsRow B 60 4 v' (l.length + 1) (pksC l ++ pkC p)) (hg : Grew w v w' v') : OwnP w' B v' (l ++ [p]) := by
  have hpv : Far p.2 v := fun k e1 e2 => by
    have h1 := (hp.2.lt k e1).1
    have h2 := hN.1 k e2
    omega
  have keepB : ∀ (u : Value) (bs : List Int), Own w B u bs → Far u v → Own w' B u bs ∧ Far u v' := fun u bs hb hf => by
    refine ⟨hb.block fun k e => hg.block (hb.2.lt k e).2 (hf k e), fun k e => hg.far (hb.2.lt k e).2 (hf k e)⟩
  refine ⟨by rw [pksC_app]; simpa [pksC] using h2, fun y hy => ?_, fun y hy => ?_, ?_⟩
  · rcases List.mem_append.1 hy with hy | hy
    · exact ⟨(keepB _ _ (hown.bytes y hy).1 (hown.off y hy)).1, (hown.bytes y hy).2⟩
    · rw [List.mem_singleton.1 hy]; exact ⟨(keepB _ _ (hp.le hBN) hpv).1, hpl⟩
  · rcases List.mem_append.1 hy with hy | hy
    · exact (keepB _ _ (hown.bytes y hy).1 (hown.off y hy)).2
    · rw [List.mem_singleton.1 hy]; exact (keepB _ _ (hp.le hBN) hpv).2
  · refine List.pairwise_append.2 ⟨hown.apart, List.pairwise_singleton _ _, fun x hx y hy k e1 e2 => ?_⟩
    rw [List.mem_singleton.1 hy] at e2
    have h1 := hN.2 x hx k e1
    have h2 := (hp.2.lt k e2).1
    omega
set_option maxRecDepth 100000 in
theorem stp_appendP {w : World} {ops : Array Oper} {o : Oper} {a : Act} {K : Act → World → Prop} {Q : Exit → Act → World → Prop} {E : Prop} (hgd : o.guard = none) (s x : Operand)
    (ho : o.op = .call { callee := .builtin .append, args := #[s, x], argTypes := #[27, 27] })
    {B N : Nat} {v : Value} {l : List Pk} (p : Pk) (hown : OwnP w B v l) (hs : a.eval s = v) (b c : Nat) (hu : PkAt w b 0 p) (hx : a.eval x = .slice (some ⟨b, 0, none⟩) 1 c)
    (hp : Own w N p.2 p.1.bs) (hpl : p.1.bs.length ≤ maxLen) (hBN : B ≤ N) (hN : (∀ k, v.ownBlock = some k → k < N) ∧ ∀ p' ∈ l, ∀ k, p'.2.ownBlock = some k → k < N) (hone : p.2.oneCell' = true)
    (hlen : l.length ≤ 1100000) (hB : B ≤ w.heap.size)
    (h : ∀ v' w', OwnP w' B v' (l ++ [p]) → Grew w v w' v' → K (a.put o.dst v') w') : if Region.wanted o (yielded ops a.tmps) = true then Oper.wp Try.prog o a w K Q else E := by
  have hw : Region.wanted o (yielded ops a.tmps) = true := by simp [Region.wanted, hgd]
  rw [if_pos hw]
  obtain ⟨i0, hi, hz0, hz1, hz2⟩ := info_parts infoPk
  obtain ⟨u0, u1, u2, u3⟩ := hu
  obtain ⟨v', w', hr, h2, h3, h4, h5⟩ := run_append_own_at (P := Try.prog) w B 27 o.type 60 i0 _ 4 48 Try.underlying27 hi hz0 hz1 hz2 rfl (by decide) v l.length _ hown.row ⟨b, 0, none⟩ 1 c (pkC p) rfl
    (by
      intro j u hj
      rw [cell_add, Nat.zero_add]
      have hj7 : j < 4 := (List.getElem?_eq_some_iff.1 hj).1
      rcases (show j = 0 ∨ j = 1 ∨ j = 2 ∨ j = 3 by omega) with rfl | rfl | rfl | rfl
      · exact u0.trans hj
      · exact u1.trans hj
      · exact u2.trans hj
      · exact u3.trans hj)
    (by
      intro u hu
      simp only [pkC, List.mem_cons, List.not_mem_nil, or_false] at hu
      rcases hu with rfl | rfl | rfl | rfl
      · rfl
      · rfl
      · rfl
      · exact hone)
    (by unfold maxLen; omega) (by omega) hB
  have hg : Grew w v w' v' := ⟨h3, h5.imp id fun e => ⟨_, e, Nat.le_refl _⟩⟩
  unfold Oper.wp execOp
  simp only [ho, resolve, invoke, builtin, Sem.run_bind, Sem.run_pure, Result.andThen_ok, List.map_toArray, List.map_cons, List.map_nil, hs, hx, hr]
  exact h v' w' (hown.appended p hp hpl hBN hN h2 hg) hg
set_option maxRecDepth 100000 in
theorem stp_appendI {w : World} {ops : Array Oper} {o : Oper} {a : Act} {K : Act → World → Prop} {Q : Exit → Act → World → Prop} {E : Prop} (hgd : o.guard = none) (s x : Operand)
    (ho : o.op = .call { callee := .builtin .append, args := #[s, x], argTypes := #[23, 23] })
    {B : Nat} {v : Value} {l : List Int} (e : Int) (hown : OwnI w B v l) (hs : a.eval s = v) (b c : Nat) (hu : w.cell? ⟨b, 0, none⟩ = some (.int .i64 e)) (hx : a.eval x = .slice (some ⟨b, 0, none⟩) 1 c)
    (hlen : l.length ≤ 1100000) (hB : B ≤ w.heap.size)
    (h : ∀ v' w', OwnI w' B v' (l ++ [e]) → Grew w v w' v' → K (a.put o.dst v') w') : if Region.wanted o (yielded ops a.tmps) = true then Oper.wp Try.prog o a w K Q else E := by
  have hw : Region.wanted o (yielded ops a.tmps) = true := by simp [Region.wanted, hgd]
  rw [if_pos hw]
  obtain ⟨i0, hi, hz0, hz1, hz2⟩ := info_parts infoI64
  obtain ⟨v', w', hr, h2, h3, h4, h5⟩ := run_append_own_at (P := Try.prog) w B 23 o.type 3 i0 _ 1 8 Try.underlying23 hi hz0 hz1 hz2 rfl (by decide) v l.length _ hown ⟨b, 0, none⟩ 1 c [.int .i64 e] rfl
    (by
      intro j u hj
      rw [cell_add, Nat.zero_add]
      have hj1 : j < 1 := (List.getElem?_eq_some_iff.1 hj).1
      obtain rfl : j = 0 := by omega
      exact hu.trans hj)
    (by
      intro u hu
      rw [List.mem_singleton.1 hu]
      rfl)
    (by unfold maxLen; omega) (by omega) hB
  have hg : Grew w v w' v' := ⟨h3, h5.imp id fun e => ⟨_, e, Nat.le_refl _⟩⟩
  unfold Oper.wp execOp
  simp only [ho, resolve, invoke, builtin, Sem.run_bind, Sem.run_pure, Result.andThen_ok, List.map_toArray, List.map_cons, List.map_nil, hs, hx, hr]
  exact h v' w' (by simpa [OwnI] using h2) hg
end Go.Proofs.Ytfcmffdljfljkaa

/-
  laws.eqPacket, eqPacketS.
-/
namespace Go.Proofs.Ytfcmffdljfljkaa
open Go.RowKit
set_option linter.unusedVariables false
set_option linter.unusedSimpArgs false

set_option maxHeartbeats 2000000 in
set_option maxRecDepth 100000 in
theorem eqPacket_same (i f t : Int) (a a' : Option Addr) (n n' cap cap' : Nat) (l : List Int) (w : World) (hv : Bs w (.slice a n cap) l) (hu : Bs w (.slice a' n' cap') l) :
    Calls Try.prog 80 #[.agg #[.int .i64 i, .int .i64 f, .int .i64 t, .slice a n cap], .agg #[.int .i64 i, .int .i64 f, .int .i64 t, .slice a' n' cap']] w fun e w' => e = .returned (.bool true) ∧ Below w.heap.size w w' := by
  have HT : Hid (∀ w', Below w.heap.size w w' → Calls Try.prog 19 #[.slice a n cap, .slice a' n' cap'] w' fun e w'' => e = .returned (.bool true) ∧ Below w'.heap.size w' w'') := fun w' hb => eqByteS_same _ _ l w' (hv.below hb) (hu.below hb)
  have hb0 : Hid (Below w.heap.size w ((w.alloc (.cells #[.int .i64 i, .int .i64 f, .int .i64 t, .slice a n cap] 60)).alloc (.cells #[.int .i64 i, .int .i64 f, .int .i64 t, .slice a' n' cap'] 60))) := ((Below.refl _ _).alloc (Nat.le_refl _) _).alloc (by simp) _
  clear hv hu
  go_enter Try.func80, Try.ntmps80
  go_wp2_with (go_at_call 19; refine (HT.out _ hb0.out).mono ?_; rintro e w1 ⟨rfl, hb1⟩)
  go_ret
  exact ⟨rfl, hb0.out.trans (hb1.mono (by simp; omega))⟩

set_option maxHeartbeats 4000000 in
set_option maxRecDepth 100000 in
theorem eqPacketS_same (v u : Value) (l L : List Pk) (w : World) (hv : Pks w v l) (hu : Pks w u L) (hc : cont l = cont L) :
    Calls Try.prog 50 #[v, u] w fun r w' => r = .returned (.bool true) ∧ Below w.heap.size w w' := by
  have HV : Hid (Pks w v l) := hv
  have HU : Hid (Pks w u L) := hu
  have hll : l.length = L.length := by rw [← cont_len l, hc, cont_len]
  obtain ⟨hl, _, a, cap, rfl, hca⟩ := hv
  obtain ⟨_, _, a', cap', rfl, hca'⟩ := hu
  rw [← hll]
  unfold maxLen at hl
  have HLL : Hid (l.length = L.length) := hll
  clear hll
  go_enter Try.func50, Try.ntmps50
  go_wp2
  go_loopw [5] (fun i wr => ∃ k : Nat, k ≤ l.length ∧ i = .int .i64 k ∧ Below w.heap.size w wr) (fun i _ => l.length - (intOf i).toNat)
  case atStart => exact ⟨0, Nat.zero_le _, rfl, Below.refl _ _⟩
  case round =>
    obtain ⟨k, hk, rfl, hB⟩ := hrel
    have hsz := hB.size
    by_cases hlt : k < l.length
    · have hlt' : k < L.length := by have := HLL.out; omega
      obtain ⟨b, off, rfl, hcell⟩ := hca k hlt
      obtain ⟨b', off', rfl, hcell'⟩ := hca' k hlt'
      obtain ⟨c0, c1, c2, c3⟩ := (hcell k hlt).below hB
      obtain ⟨e0, e1, e2, e3⟩ := (hcell' k hlt').below hB
      have hbs : Bs wr l[k].2 l[k].1.bs := (HV.out.bs k hlt).below hB
      have hbu : Bs wr L[k].2 L[k].1.bs := (HU.out.bs k hlt').below hB
      have hcc : l[k].1 = L[k].1 := by
        have h1 : (cont l)[k]? = some l[k].1 := by simp [cont, hlt]
        have h2 : (cont L)[k]? = some L[k].1 := by simp [cont, hlt']
        rw [hc, h2] at h1
        injection h1 with h1
        exact h1.symm
      rw [← hcc] at e0 e1 e2 hbu
      obtain ⟨x, cx, ex⟩ := hbs.sh
      obtain ⟨y, cy, ey⟩ := hbu.sh
      rw [ex] at c3 hbs
      rw [ey] at e3 hbu
      have HQ : Hid (∀ w', Below wr.heap.size wr w' → Calls Try.prog 80 #[.agg #[.int .i64 l[k].1.id, .int .i64 l[k].1.fr, .int .i64 l[k].1.tq, .slice x l[k].1.bs.length cx], .agg #[.int .i64 l[k].1.id, .int .i64 l[k].1.fr, .int .i64 l[k].1.tq, .slice y l[k].1.bs.length cy]] w' fun e w'' => e = .returned (.bool true) ∧ Below w'.heap.size w' w'') := fun w' hb => eqPacket_same _ _ _ _ _ _ _ _ _ _ w' (hbs.below hb) (hbu.below hb)
      have hbl := cell_lt (hcell k hlt).1
      have hbl' := cell_lt (hcell' k hlt').1
      clear hcell hcell' hca hca' ex ey hbs hbu hcc hc
      generalize l[k].1 = p at *
      go_wp2
      go_region_held3 (fun w' => w'.cell? ⟨b, off + k * 4, none⟩ = some (.int .i64 p.id) ∧ w'.cell? ⟨b, off + k * 4 + 1, none⟩ = some (.int .i64 p.fr) ∧ w'.cell? ⟨b, off + k * 4 + 2, none⟩ = some (.int .i64 p.tq) ∧ w'.cell? ⟨b, off + k * 4 + 3, none⟩ = some (.slice x p.bs.length cx) ∧ w'.cell? ⟨b', off' + k * 4, none⟩ = some (.int .i64 p.id) ∧ w'.cell? ⟨b', off' + k * 4 + 1, none⟩ = some (.int .i64 p.fr) ∧ w'.cell? ⟨b', off' + k * 4 + 2, none⟩ = some (.int .i64 p.tq) ∧ w'.cell? ⟨b', off' + k * 4 + 3, none⟩ = some (.slice y p.bs.length cy)) (simp [*, go_sem])
        (first
          | (go_at_call 80; refine (HQ.out _ ((Below.refl _ _).drew)).mono ?_; rintro r w1 ⟨rfl, hb⟩; have q1 := fun (o : Nat) => hb.cell (p := ⟨b, o, none⟩) (show b < wr.heap.size by omega); have q2 := fun (o : Nat) => hb.cell (p := ⟨b', o, none⟩) (show b' < wr.heap.size by omega)))
      all_goals go_wp2
      go_roundw
      case rel => exact ⟨k + 1, by omega, by go_num, hB.trans (((Below.refl _ _).drew).trans (hb.mono hsz))⟩
      case measure => simp [intOf]; omega
    · go_wp2
      go_ret
      exact ⟨rfl, hB⟩
end Go.Proofs.Ytfcmffdljfljkaa

/-
  laws.markIntS, heldIntS.
-/
namespace Go.Proofs.Ytfcmffdljfljkaa
open Go.RowKit
set_option linter.unusedVariables false
set_option linter.unusedSimpArgs false

/-- the first j ints are marked from k0 on -/
structure MkI (w : World) (q n k0 j : Nat) : Prop where
  room : w.there q 0 n
  old : ∀ i, i < j → w.cell? ⟨q, i, none⟩ = some (.int .i64 ((k0 + i : Nat) : Int))
theorem MkI.step {w : World} {q n k0 j : Nat} (h : MkI w q n k0 j) (hj : j < n) : MkI (w.setCell ⟨q, j, none⟩ (.int .i64 ((k0 + j : Nat) : Int))) q n k0 (j + 1) := by
  refine ⟨there_set' h.room _ _ _, fun i hi => ?_⟩
  by_cases e : i = j
  · subst e
    obtain ⟨y, hy⟩ := there_get' h.room i hj
    exact World.cell?_setCell_same w ⟨q, i, none⟩ _ hy
  · rw [World.cell?_setCell_other w ⟨q, j, none⟩ ⟨q, i, none⟩ _ (by intro h; injection h with h1 h2; omega)]
    exact h.old i (by omega)
theorem MkI.keep {w w' : World} {q n k0 j : Nat} (h : MkI w q n k0 j) (hb : w'.heap[q]? = w.heap[q]?) : MkI w' q n k0 j :=
  ⟨there_block' h.room hb, fun i hi => (World.cell?_of_block (w := w) hb).trans (h.old i hi)⟩

set_option maxHeartbeats 2000000 in
set_option maxRecDepth 100000 in
theorem markIntS_is (k0 : Nat) (hk0 : k0 ≤ 100000000) (q n cap : Nat) (w : World) (hR : w.there q 0 n) (hq : q < w.heap.size) (hn : n ≤ 1048576) :
    Calls Try.prog 53 #[.slice (some ⟨q, 0, none⟩) n cap, .int .i64 k0] w fun r w' => r = .returned (.int .i64 ((k0 + n : Nat) : Int)) ∧ MkI w' q n k0 n ∧ w.grownBy w' (some q) := by
  go_enter Try.func53, Try.ntmps53
  go_wp2
  go_loopw [1, 5] (fun c i wr => ∃ j : Nat, j ≤ n ∧ i = .int .i64 j ∧ c = .int .i64 ((k0 + j : Nat) : Int) ∧ MkI wr q n k0 j ∧ w.grownBy wr (some q)) (fun _ i _ => n - (intOf i).toNat)
  case atStart => exact ⟨0, Nat.zero_le _, rfl, by simp, ⟨hR, fun i hi => by omega⟩, ⟨rfl, rfl, rfl, Nat.le_refl _, fun _ _ _ => rfl⟩⟩
  case round =>
    obtain ⟨j, hj, rfl, rfl, hK, hg⟩ := hrel
    by_cases hlt : j < n
    · obtain ⟨y, hy⟩ := there_get' hK.room j hlt
      have hyf := there_free' hK.room j hlt
      have HK : Hid (MkI (wr.setCell ⟨q, j, none⟩ (.int .i64 ((k0 + j : Nat) : Int))) q n k0 (j + 1)) := hK.step hlt
      have HG : Hid (w.grownBy (wr.setCell ⟨q, j, none⟩ (.int .i64 ((k0 + j : Nat) : Int))) (some q)) := grown_trans hg (grown_set _ _ _ _ _ rfl)
      clear hK hR
      go_wp2
      go_roundw
      case rel => exact ⟨j + 1, by omega, by go_num, by go_num, HK.out, HG.out⟩
      case measure => simp [intOf]; omega
    · obtain rfl : j = n := by omega
      go_wp2
      go_ret
      exact ⟨rfl, hK, hg⟩

set_option maxHeartbeats 2000000 in
set_option maxRecDepth 100000 in
theorem heldIntS_is (k0 : Nat) (hk0 : k0 ≤ 100000000) (a : Option Addr) (n cap : Nat) (w : World) (hn : n ≤ 1048576) (h : 0 < n → ∃ q, a = some ⟨q, 0, none⟩ ∧ ∀ i, i < n → w.cell? ⟨q, i, none⟩ = some (.int .i64 ((k0 + i : Nat) : Int))) :
    Calls Try.prog 55 #[.slice a n cap, .int .i64 k0] w fun r w' => r = .returned (.int .i64 ((k0 + n : Nat) : Int)) ∧ Below w.heap.size w w' := by
  go_enter Try.func55, Try.ntmps55
  go_wp2
  go_loopw [1, 5] (fun c i wr => ∃ j : Nat, j ≤ n ∧ i = .int .i64 j ∧ c = .int .i64 ((k0 + j : Nat) : Int) ∧ ∃ m, wr = w.drewN m) (fun _ i _ => n - (intOf i).toNat)
  case atStart => exact ⟨0, Nat.zero_le _, rfl, by simp, 0, rfl⟩
  case round =>
    obtain ⟨j, hj, rfl, rfl, m, rfl⟩ := hrel
    by_cases hlt : j < n
    · obtain ⟨q, rfl, hE⟩ := h (by omega)
      have hck : w.cell? ⟨q, j, none⟩ = some (.int .i64 ((k0 : Int) + (j : Int))) := by have h := hE j hlt; simpa using h
      clear hE h
      go_wp2
      go_roundw
      case rel => exact ⟨j + 1, by omega, by go_num, by go_num, _, rfl⟩
      case measure => simp [intOf]; omega
    · obtain rfl : j = n := by omega
      go_wp2
      go_ret
      exact ⟨rfl, rfl, rfl, rfl, Nat.le_refl _, fun _ _ => rfl⟩
end Go.Proofs.Ytfcmffdljfljkaa

/-
  Bags: laws.toBag, eqBag, markBag, heldBag; the answer of a put.
-/
namespace Go.Proofs.Ytfcmffdljfljkaa
open Go.RowKit
set_option linter.unusedVariables false
set_option linter.unusedSimpArgs false

theorem OwnI.keep {w w' : World} {B : Nat} {v : Value} {l : List Int} (h : OwnI w B v l) (hk : ∀ k, B ≤ k → k < w.heap.size → w'.heap[k]? = w.heap[k]?) : OwnI w' B v l :=
  h.block fun k e => hk k (World.ownsRow.lt h k e).1 (World.ownsRow.lt h k e).2
/-- ints of one's own in the span [lo, hi) -/
structure IntsR (lo hi : Nat) (w : World) (v : Value) (l : List Int) : Prop where
  len : l.length ≤ maxLen
  sh : ∃ a cap, v = .slice a l.length cap
  row : 0 < l.length → ∃ q cap, v = .slice (some ⟨q, 0, none⟩) l.length cap ∧ lo ≤ q ∧ q < hi ∧ q < w.heap.size ∧ w.there q 0 l.length ∧ ∀ j (h : j < l.length), w.cell? ⟨q, j, none⟩ = some (.int .i64 l[j])
theorem IntsR.keep {w w' : World} {lo hi : Nat} {v : Value} {l : List Int} (h : IntsR lo hi w v l) (hk : ∀ k, lo ≤ k → k < hi → w'.heap[k]? = w.heap[k]?) : IntsR lo hi w' v l := by
  refine ⟨h.len, h.sh, fun h0 => ?_⟩
  obtain ⟨q, cap, e, h1, h2, h3, h4, h5⟩ := h.row h0
  have hb := hk q h1 h2
  exact ⟨q, cap, e, h1, h2, lt_keepP hb h3, there_block' h4 hb, fun j hj => (World.cell?_of_block (w := w) hb).trans (h5 j hj)⟩
theorem IntsR.wide {w : World} {lo hi lo' hi' : Nat} {v : Value} {l : List Int} (h : IntsR lo hi w v l) (h1 : lo' ≤ lo) (h2 : hi ≤ hi') : IntsR lo' hi' w v l := by
  refine ⟨h.len, h.sh, fun h0 => ?_⟩
  obtain ⟨q, cap, e, g1, g2, r⟩ := h.row h0
  exact ⟨q, cap, e, by omega, by omega, r⟩
theorem IntsR.ix {w : World} {lo hi : Nat} {v : Value} {l : List Int} (h : IntsR lo hi w v l) : Ix w v l := by
  refine ⟨h.len, ?_⟩
  obtain ⟨a, cap, e⟩ := h.sh
  refine ⟨a, cap, e, fun i hi => ?_⟩
  obtain ⟨q, cap', e', g1, g2, g3, g4, g5⟩ := h.row (by omega)
  rw [e] at e'
  injection e' with e1 _ _
  exact ⟨q, 0, e1, fun j hj => by rw [Nat.zero_add]; exact g5 j hj⟩
theorem IntsN.r {w : World} {lo hi q : Nat} {l : List Int} (h : IntsN lo hi w q l) : IntsR lo hi w (.slice (some ⟨q, 0, none⟩) l.length l.length) l := by
  refine ⟨h.ix.1, ⟨_, _, rfl⟩, fun h0 => ⟨q, _, rfl, h.lo, h.hi, h.in_, h.room, fun j hj => ?_⟩⟩
  obtain ⟨_, a, cap, e, hc⟩ := h.ix
  injection e with e1 _ _
  obtain ⟨b, off, e2, h2⟩ := hc j hj
  rw [← e1] at e2
  injection e2 with e2
  injection e2 with e3 e4
  subst e3 e4
  have := h2 j hj
  rwa [Nat.zero_add] at this
theorem OwnI.r {w : World} {B : Nat} {v : Value} {l : List Int} (h : OwnI w B v l) (hl : l.length ≤ maxLen) : IntsR B w.heap.size w v l := by
  refine ⟨hl, h.shape, fun h0 => ?_⟩
  obtain ⟨g, cap, rfl⟩ := h.shape' h0
  have hlt := World.ownsRow.lt h g rfl
  refine ⟨g, cap, rfl, hlt.1, hlt.2, hlt.2, fun j hj => ?_, fun j hj => ?_⟩
  · rw [Nat.zero_add]
    refine ⟨?_, World.ownsRow.frozenAt h j⟩
    rw [h.cell j hj]; rfl
  · rw [h.cell j hj, List.getElem?_eq_getElem hj]; rfl
theorem IntsR.block {w : World} {lo hi : Nat} {v : Value} {l : List Int} (h : IntsR lo hi w v l) (h0 : 0 < l.length) : ∀ k, v.ownBlock = some k → lo ≤ k ∧ k < hi := fun k e => by
  obtain ⟨q, cap, rfl, h1, h2, _⟩ := h.row h0
  injection e with e
  subst e
  exact ⟨h1, h2⟩

/-- a bag of one's own in the span [lo, hi) -/
structure BagR (lo hi : Nat) (w : World) (v u : Value) (l : List Pk) (ws : List Int) : Prop where
  pks : PksR lo hi w v l
  ints : IntsR lo hi w u ws
  far : 0 < ws.length → ∀ k, u.ownBlock = some k → ¬ pkBlocks v l k
theorem BagR.keep {w w' : World} {lo hi : Nat} {v u : Value} {l : List Pk} {ws : List Int} (h : BagR lo hi w v u l ws) (hk : ∀ k, lo ≤ k → k < hi → w'.heap[k]? = w.heap[k]?) : BagR lo hi w' v u l ws := ⟨h.pks.keep hk, h.ints.keep hk, h.far⟩
theorem BagR.wide {w : World} {lo hi lo' hi' : Nat} {v u : Value} {l : List Pk} {ws : List Int} (h : BagR lo hi w v u l ws) (h1 : lo' ≤ lo) (h2 : hi ≤ hi') : BagR lo' hi' w v u l ws := ⟨h.pks.wide h1 h2, h.ints.wide h1 h2, h.far⟩
theorem BagR.of {w : World} {lo mid hi : Nat} {v u : Value} {l : List Pk} {ws : List Int} (h : PksR lo mid w v l) (h' : IntsR mid hi w u ws) (h1 : lo ≤ mid) (h2 : mid ≤ hi) : BagR lo hi w v u l ws :=
  ⟨h.wide (Nat.le_refl _) h2, h'.wide h1 (Nat.le_refl _), fun h0 k e hk => by have := h'.block h0 k e; have := h.blocks k hk; omega⟩
theorem BagR.of' {w : World} {lo mid hi : Nat} {v u : Value} {l : List Pk} {ws : List Int} (h : PksR mid hi w v l) (h' : IntsR lo mid w u ws) (h1 : lo ≤ mid) (h2 : mid ≤ hi) : BagR lo hi w v u l ws :=
  ⟨h.wide h1 (Nat.le_refl _), h'.wide (Nat.le_refl _) h2, fun h0 k e hk => by have := h'.block h0 k e; have := h.blocks k hk; omega⟩

theorem BagR.nil (lo hi : Nat) (w : World) : BagR lo hi w (.slice none 0 0) (.slice none 0 0) [] [] :=
  ⟨⟨by simp, ⟨_, _, rfl⟩, fun h => absurd h (by simp), by simp, .nil⟩, ⟨by simp, ⟨_, _, rfl⟩, fun h => absurd h (by simp)⟩, fun h => absurd h (by simp)⟩
/-- a bag of one's own, off its parts -/
theorem BagR.own {w : World} {B : Nat} {v u : Value} {L : List Pk} {ws : List Int} (hO : OwnP w B v L) (hI : OwnI w B u ws) (hd : ∀ k, u.ownBlock = some k → v.ownBlock ≠ some k ∧ ∀ p ∈ L, p.2.ownBlock ≠ some k) (hL : L.length ≤ maxLen) (hw : ws.length ≤ maxLen) : BagR B w.heap.size w v u L ws :=
  ⟨hO.r hL, hI.r hw, fun _ k e hk => by
    rcases hk with ⟨_, e'⟩ | ⟨p, hp, e'⟩
    · exact (hd k e).1 e'
    · exact (hd k e).2 p hp e'⟩

set_option maxHeartbeats 4000000 in
set_option maxRecDepth 100000 in
theorem toBag_u (n : Int) (a : Option Addr) (cap : Nat) (a2 : Option Addr) (cap2 : Nat) (l : List Pk) (ws : List Int) (w : World) (hv : Pks w (.slice a l.length cap) l) (hu : Ix w (.slice a2 ws.length cap2) ws) (hl : l.length + bulk (cont l) ≤ 1048576) (hw : ws.length ≤ 1048576) :
    Calls Try.prog 10 #[.agg #[.int .i64 n, .slice a l.length cap, .slice a2 ws.length cap2]] w fun e w' => ∃ q L q', e = .returned (.agg #[.int .i64 n, .slice (some ⟨q, 0, none⟩) l.length l.length, .slice (some ⟨q', 0, none⟩) ws.length ws.length]) ∧ cont L = cont l ∧
      BagR w.heap.size w'.heap.size w' (.slice (some ⟨q, 0, none⟩) l.length l.length) (.slice (some ⟨q', 0, none⟩) ws.length ws.length) L ws ∧ Below w.heap.size w w' := by
  have HP : Hid (∀ w', Below w.heap.size w w' → Calls Try.prog 44 #[.slice a l.length cap] w' fun r w'' => ∃ q L, r = .returned (.slice (some ⟨q, 0, none⟩) l.length l.length) ∧ cont L = cont l ∧ PksR w'.heap.size w''.heap.size w'' (.slice (some ⟨q, 0, none⟩) l.length l.length) L ∧ Below w'.heap.size w' w'') := fun w' hb => toPacketS_u _ l w' (hv.below hb) (by omega) (fun p hp => by
    have : p.1 ∈ cont l := List.mem_map_of_mem hp
    have := bulk_mem this
    omega)
  have HI : Hid (∀ w', Below w.heap.size w w' → Calls Try.prog 45 #[.slice a2 ws.length cap2] w' fun x w'' => ∃ q, x = .returned (.slice (some ⟨q, 0, none⟩) ws.length ws.length) ∧ IntsN w'.heap.size w''.heap.size w'' q ws ∧ Below w'.heap.size w' w'') := fun w' hb => toIntS_u _ ws w' (hu.below hb) hw
  clear hv hu
  have hb0 : Hid (Below w.heap.size w (((w.alloc (.cells #[.int .i64 n, .slice a l.length cap, .slice a2 ws.length cap2] 25)).alloc (.cells #[.int .i64 0, .slice none 0 0, .slice none 0 0] 29)).alloc (.cells #[.int .i64 n, .slice none 0 0, .slice none 0 0] 29))) := (((Below.refl _ _).alloc (Nat.le_refl _) _).alloc (by simp) _).alloc (by simp; omega) _
  go_enter Try.func10, Try.ntmps10
  go_wp2_with (first
    | (go_at_call 44; refine (HP.out _ hb0.out).mono ?_; rintro e w1 ⟨q, L, rfl, hcL, hp1, hb1⟩; have HP1 : Hid (PksR _ w1.heap.size w1 (.slice (some ⟨q, 0, none⟩) l.length l.length) L) := hp1; clear hp1; have HB1 : Hid (Below w.heap.size w w1) := hb0.out.trans (hb1.mono (by simp; omega)); have hz1 := hb1.size; obtain ⟨hcc, hff⟩ := bcell hb1; clear hb1; simp at hz1; have z1 : ∀ o, w1.frozen? ⟨w.heap.size + 1, o, none⟩ = false := fun o => (hff _ o (by simp)).trans (by simp [go_sem]); have z2 : ∀ o, w1.frozen? ⟨w.heap.size + 1 + 1, o, none⟩ = false := fun o => (hff _ o (by simp)).trans (by simp [go_sem]); have r0 : w1.cell? ⟨w.heap.size + 1, 0, none⟩ = some (.int .i64 0) := (hcc _ 0 (by simp [World.setCell] <;> omega)).trans (by simp [go_sem, *]); have r1 : w1.cell? ⟨w.heap.size + 1, 1, none⟩ = some (.slice none 0 0) := (hcc _ 1 (by simp [World.setCell] <;> omega)).trans (by simp [go_sem, *]); have r2 : w1.cell? ⟨w.heap.size + 1, 2, none⟩ = some (.slice none 0 0) := (hcc _ 2 (by simp [World.setCell] <;> omega)).trans (by simp [go_sem, *]); have q0 : w1.cell? ⟨w.heap.size + 1 + 1, 0, none⟩ = some (.int .i64 n) := (hcc _ 0 (by simp [World.setCell] <;> omega)).trans (by simp [go_sem, *]); have q1 : w1.cell? ⟨w.heap.size + 1 + 1, 1, none⟩ = some (.slice none 0 0) := (hcc _ 1 (by simp [World.setCell] <;> omega)).trans (by simp [go_sem, *]); have q2 : w1.cell? ⟨w.heap.size + 1 + 1, 2, none⟩ = some (.slice none 0 0) := (hcc _ 2 (by simp [World.setCell] <;> omega)).trans (by simp [go_sem, *]); have p0 : w1.cell? ⟨w.heap.size, 0, none⟩ = some (.int .i64 n) := (hcc _ 0 (by simp [World.setCell] <;> omega)).trans (by simp [go_sem, *]); have p1 : w1.cell? ⟨w.heap.size, 1, none⟩ = some (.slice a l.length cap) := (hcc _ 1 (by simp [World.setCell] <;> omega)).trans (by simp [go_sem, *]); have p2 : w1.cell? ⟨w.heap.size, 2, none⟩ = some (.slice a2 ws.length cap2) := (hcc _ 2 (by simp [World.setCell] <;> omega)).trans (by simp [go_sem, *]))
    | (go_at_call 45; refine (HI.out _ (HB1.out.setCell (show w.heap.size ≤ w.heap.size + 1 + 1 by omega) _)).mono ?_; rintro e w2 ⟨q', rfl, hi2, hb2⟩; have HI2 : Hid (IntsN _ w2.heap.size w2 q' ws) := hi2; clear hi2; have HB2 : Hid (Below (w1.setCell ⟨w.heap.size + 1 + 1, 1, none⟩ (.slice (some ⟨q, 0, none⟩) l.length l.length)).heap.size (w1.setCell ⟨w.heap.size + 1 + 1, 1, none⟩ (.slice (some ⟨q, 0, none⟩) l.length l.length)) w2) := hb2; have hz2 := hb2.size; obtain ⟨hcc2, hff2⟩ := bcell hb2; clear hb2; simp [World.setCell] at hz2; have z1' : ∀ o, w2.frozen? ⟨w.heap.size + 1, o, none⟩ = false := fun o => (hff2 _ o (by simp [World.setCell] <;> omega)).trans (by rw [World.frozen?_setCell]; exact z1 o); have z2' : ∀ o, w2.frozen? ⟨w.heap.size + 1 + 1, o, none⟩ = false := fun o => (hff2 _ o (by simp [World.setCell] <;> omega)).trans (by rw [World.frozen?_setCell]; exact z2 o); have r0' : w2.cell? ⟨w.heap.size + 1, 0, none⟩ = some (.int .i64 0) := (hcc2 _ 0 (by simp [World.setCell] <;> omega)).trans (by simp [go_sem, *]); have r1' : w2.cell? ⟨w.heap.size + 1, 1, none⟩ = some (.slice none 0 0) := (hcc2 _ 1 (by simp [World.setCell] <;> omega)).trans (by simp [go_sem, *]); have r2' : w2.cell? ⟨w.heap.size + 1, 2, none⟩ = some (.slice none 0 0) := (hcc2 _ 2 (by simp [World.setCell] <;> omega)).trans (by simp [go_sem, *]); have q0' : w2.cell? ⟨w.heap.size + 1 + 1, 0, none⟩ = some (.int .i64 n) := (hcc2 _ 0 (by simp [World.setCell] <;> omega)).trans (by simp [go_sem, *]); have q1' : w2.cell? ⟨w.heap.size + 1 + 1, 1, none⟩ = some (.slice (some ⟨q, 0, none⟩) l.length l.length) := (hcc2 _ 1 (by simp [World.setCell] <;> omega)).trans (by simp [go_sem, *]); have q2' : w2.cell? ⟨w.heap.size + 1 + 1, 2, none⟩ = some (.slice none 0 0) := (hcc2 _ 2 (by simp [World.setCell] <;> omega)).trans (by simp [go_sem, *]); have p0' : w2.cell? ⟨w.heap.size, 0, none⟩ = some (.int .i64 n) := (hcc2 _ 0 (by simp [World.setCell] <;> omega)).trans (by simp [go_sem, *]); have p1' : w2.cell? ⟨w.heap.size, 1, none⟩ = some (.slice a l.length cap) := (hcc2 _ 1 (by simp [World.setCell] <;> omega)).trans (by simp [go_sem, *]); have p2' : w2.cell? ⟨w.heap.size, 2, none⟩ = some (.slice a2 ws.length cap2) := (hcc2 _ 2 (by simp [World.setCell] <;> omega)).trans (by simp [go_sem, *]); clear hcc hff z1 z2 r0 r1 r2 q0 q1 q2 p0 p1 p2))
  refine bodyPost_ret (v := .agg #[.int .i64 n, .slice (some ⟨q, 0, none⟩) l.length l.length, .slice (some ⟨q', 0, none⟩) ws.length ws.length]) (by simp [results, Try.results10, go_sem, r0', r1', r2']) rfl ⟨q, L, q', rfl, hcL, ?_, ?_⟩
  · have hsz : (w1.setCell ⟨w.heap.size + 1 + 1, 1, none⟩ (.slice (some ⟨q, 0, none⟩) l.length l.length)).heap.size = w1.heap.size := by simp [World.setCell]
    have hp := HP1.out
    have hi := HI2.out
    rw [hsz] at hi
    have hb2 := HB2.out
    rw [hsz] at hb2
    simp only [World.size_alloc] at hp
    have k1 : ∀ k, w.heap.size + 3 ≤ k → k < w1.heap.size → w2.heap[k]? = w1.heap[k]? := fun k hk hk2 => (hb2.block k hk2).trans (Below.heap_setCell _ _ _ _ (by simp only []; omega))
    have k2 : ∀ (u : World) (b o : Nat) (x : Value) (k : Nat), w.heap.size + 3 ≤ k → b < w.heap.size + 3 → (u.setCell ⟨b, o, none⟩ x).heap[k]? = u.heap[k]? := fun u b o x k hk hb => Below.heap_setCell _ _ _ _ (by simp only []; omega)
    have hR : BagR (w.heap.size + 3) w2.heap.size w2 (.slice (some ⟨q, 0, none⟩) l.length l.length) (.slice (some ⟨q', 0, none⟩) ws.length ws.length) L ws := BagR.of (hp.keep fun k h1 h2 => k1 k (by omega) h2) hi.r (by omega) (by omega)
    refine ((hR.keep (w' := _) fun k h1 h2 => ?_).wide (by omega) (by simp [World.setCell]))
    rw [k2 _ _ _ _ k h1 (by omega), k2 _ _ _ _ k h1 (by omega), k2 _ _ _ _ k h1 (by omega), k2 _ _ _ _ k h1 (by omega)]
  · have hb2 := HB2.out
    refine (((((HB1.out.setCell (show w.heap.size ≤ w.heap.size + 1 + 1 by omega) _).trans (hb2.mono (by simp [World.setCell]; omega))).setCell (show w.heap.size ≤ w.heap.size + 1 + 1 by omega) _).setCell (Nat.le_succ _) _).setCell (Nat.le_succ _) _).setCell (Nat.le_succ _) _
end Go.Proofs.Ytfcmffdljfljkaa

/-
  impl.copyBag.
-/
namespace Go.Proofs.Ytfcmffdljfljkaa
open Go.RowKit
set_option linter.unusedVariables false
set_option linter.unusedSimpArgs false

/-- a bag under way: the box, the result, the new bag in block p -/
structure CopySt (w W : World) (p : Nat) (C R O : Array Value) (u : Value) (ws : List Int) : Prop where
  box : Blk W w.heap.size C 29
  res : Blk W (w.heap.size + 1) R 29
  own : Blk W p O 29
  lo : w.heap.size + 2 ≤ p
  ints : OwnI W (w.heap.size + 2) u ws
  ne : u.ownBlock ≠ some p
  below : Below w.heap.size w W
theorem pkAt_new (w : World) (i f t : Int) (bs : List Int) (v : Value) : PkAt (w.alloc (.cells #[.int .i64 i, .int .i64 f, .int .i64 t, v] 60)) w.heap.size 0 (⟨i, f, t, bs⟩, v) := by
  refine ⟨?_, ?_, ?_, ?_⟩ <;> simp
theorem Blk.grewP {w w' : World} {v v' : Value} {b : Nat} {C : Array Value} {t : TypeId} (h : Blk w b C t) (hg : Grew w v w' v') (hne : v.ownBlock ≠ some b) : Blk w' b C t := h.keep (hg.block h.lt hne)

theorem grown_round {W wr w2 w3 : World} {p : Nat} {v v' : Value} (hG : W.grownBy wr (some p)) (h1 : Below wr.heap.size wr w2) (hg : Grew w2 v w3 v') (hv : ∀ k, v.ownBlock = some k → W.heap.size ≤ k) (o : Nat) (x : Value) : W.grownBy (w3.setCell ⟨p, o, none⟩ x) (some p) := by
  have hs := hG.size
  have hs1 := h1.size
  have hs2 := hg.g.size
  refine ⟨hg.g.os.trans (h1.os.trans hG.os), hg.g.tape.trans (h1.tape.trans hG.tape), hg.g.output.trans (h1.output.trans hG.output), by simp [World.setCell]; omega, fun j hj hne => ?_⟩
  rw [Below.heap_setCell _ _ _ _ (fun e => hne (by simp only [] at e; rw [e])), hg.block (by omega) (fun e => by have := hv j e; omega), h1.block j (by omega), hG.block j hj hne]

set_option maxHeartbeats 4000000 in
set_option maxRecDepth 100000 in
theorem copyBag_any (n : Int) (a : Option Addr) (cap : Nat) (a2 : Option Addr) (cap2 : Nat) (l : List Pk) (ws : List Int) (w : World) (hv : Pks w (.slice a l.length cap) l) (hu : Ix w (.slice a2 ws.length cap2) ws) (hl : l.length ≤ 1048576) (hbl : ∀ p ∈ l, p.1.bs.length ≤ 1048576) (hw : ws.length ≤ 1048576) :
    Calls Try.prog 47 #[.agg #[.int .i64 n, .slice a l.length cap, .slice a2 ws.length cap2]] w fun e w' => ∃ v u L, e = .returned (.agg #[.int .i64 n, v, u]) ∧ cont L = cont l ∧ OwnP w' w.heap.size v L ∧ OwnI w' w.heap.size u ws ∧ (∀ k, u.ownBlock = some k → v.ownBlock ≠ some k ∧ ∀ p ∈ L, p.2.ownBlock ≠ some k) ∧ Below w.heap.size w w' := by
  have HU : Hid (∀ w', Below w.heap.size w w' → Calls Try.prog 87 #[.slice a2 ws.length cap2] w' fun e w'' => ∃ v', e = .returned v' ∧ OwnI w'' w'.heap.size v' ws ∧ Below w'.heap.size w' w'') := fun w' hb => cloneI_any _ ws w' (hu.below hb) hw
  have HV : Hid (Pks w (.slice a l.length cap) l) := hv
  obtain ⟨_, _, a', cap', e, hc⟩ := hv
  injection e with e1 _ e3
  subst e1 e3
  have HC : Hid (∀ i, i < l.length → ∃ b off, a = some ⟨b, off, none⟩ ∧ ∀ j (h : j < l.length), PkAt w b (off + j * 4) l[j]) := hc
  clear hc hu
  have hb0 : Hid (Below w.heap.size w (((w.alloc (.cells #[.int .i64 n, .slice a l.length cap, .slice a2 ws.length cap2] 29)).alloc (.cells #[.int .i64 0, .slice none 0 0, .slice none 0 0] 29)))) := ((Below.refl _ _).alloc (Nat.le_refl _) _).alloc (by simp) _
  go_enter Try.func47, Try.ntmps47
  go_wp2
  go_region_held3 (fun w' => w'.cell? ⟨w.heap.size, 0, none⟩ = some (.int .i64 n) ∧ w'.cell? ⟨w.heap.size, 1, none⟩ = some (.slice a l.length cap) ∧ w'.cell? ⟨w.heap.size, 2, none⟩ = some (.slice a2 ws.length cap2)) (simp [*, go_sem])
    (first
      | (go_at_call 87; refine (HU.out _ (hb0.out.drew.alloc (by simp; omega) _)).mono ?_; rintro r w1 ⟨u, rfl, ho1, hb1⟩; obtain ⟨a3, cap3, rfl⟩ := ho1.shape; have hz1 := hb1.size; simp at hz1; have q0 : w1.cell? ⟨w.heap.size, 0, none⟩ = some (.int .i64 n) := (hb1.cell (p := ⟨w.heap.size, 0, none⟩) (by simp; omega)).trans (by simp [go_sem]); have q1 : w1.cell? ⟨w.heap.size, 1, none⟩ = some (.slice a l.length cap) := (hb1.cell (p := ⟨w.heap.size, 1, none⟩) (by simp; omega)).trans (by simp [go_sem]); have q2 : w1.cell? ⟨w.heap.size, 2, none⟩ = some (.slice a2 ws.length cap2) := (hb1.cell (p := ⟨w.heap.size, 2, none⟩) (by simp; omega)).trans (by simp [go_sem]); have qa : ∀ (o : Obj) (j : Nat), (w1.alloc o).cell? ⟨w.heap.size, j, none⟩ = w1.cell? ⟨w.heap.size, j, none⟩ := fun o j => World.cell?_alloc_lt _ _ _ (by show w.heap.size < w1.heap.size; omega); have r0 : w1.cell? ⟨w.heap.size + 1 + 1, 0, none⟩ = some (.int .i64 0) := (hb1.cell (p := ⟨w.heap.size + 1 + 1, 0, none⟩) (by simp)).trans (by simp [go_sem]); have r1 : w1.cell? ⟨w.heap.size + 1 + 1, 1, none⟩ = some (.slice none 0 0) := (hb1.cell (p := ⟨w.heap.size + 1 + 1, 1, none⟩) (by simp)).trans (by simp [go_sem]); have r2 : w1.cell? ⟨w.heap.size + 1 + 1, 2, none⟩ = some (.slice none 0 0) := (hb1.cell (p := ⟨w.heap.size + 1 + 1, 2, none⟩) (by simp)).trans (by simp [go_sem]); have rz : ∀ j, w1.frozen? ⟨w.heap.size + 1 + 1, j, none⟩ = false := fun j => (hb1.frozen (p := ⟨w.heap.size + 1 + 1, j, none⟩) (by simp)).trans (by simp [go_sem]); have HO1 : Hid (OwnI w1 _ (.slice a3 ws.length cap3) ws) := ho1; have HB1 : Hid (Below _ _ w1) := hb1; clear ho1 hb1)
      | (go_at_call 87; refine (HU.out _ hb0.out.drew).mono ?_; rintro r w1 ⟨u, rfl, ho1, hb1⟩; obtain ⟨a3, cap3, rfl⟩ := ho1.shape; have hz1 := hb1.size; simp at hz1; have q0 : w1.cell? ⟨w.heap.size, 0, none⟩ = some (.int .i64 n) := (hb1.cell (p := ⟨w.heap.size, 0, none⟩) (by simp; omega)).trans (by simp [go_sem]); have q1 : w1.cell? ⟨w.heap.size, 1, none⟩ = some (.slice a l.length cap) := (hb1.cell (p := ⟨w.heap.size, 1, none⟩) (by simp; omega)).trans (by simp [go_sem]); have q2 : w1.cell? ⟨w.heap.size, 2, none⟩ = some (.slice a2 ws.length cap2) := (hb1.cell (p := ⟨w.heap.size, 2, none⟩) (by simp; omega)).trans (by simp [go_sem]); have qa : ∀ (o : Obj) (j : Nat), (w1.alloc o).cell? ⟨w.heap.size, j, none⟩ = w1.cell? ⟨w.heap.size, j, none⟩ := fun o j => World.cell?_alloc_lt _ _ _ (by show w.heap.size < w1.heap.size; omega); have HO1 : Hid (OwnI w1 _ (.slice a3 ws.length cap3) ws) := ho1; have HB1 : Hid (Below _ _ w1) := hb1; clear ho1 hb1))
  · have HF : Hid (CopySt w (w1.alloc (.cells #[.int .i64 n, .slice none 0 0, .slice a3 ws.length cap3] 29)) w1.heap.size #[.int .i64 n, .slice a l.length cap, .slice a2 ws.length cap2] #[.int .i64 0, .slice none 0 0, .slice none 0 0] #[.int .i64 n, .slice none 0 0, .slice a3 ws.length cap3] (.slice a3 ws.length cap3) ws) := by
      have hb1 := HB1.out
      refine ⟨Blk.alloc (((Blk.new w _ _).alloc _).drew.below hb1 (by simp; omega)) _, Blk.alloc ((Blk.new' (w.alloc _) _ _ (by simp)).drew.below hb1 (by simp)) _, Blk.new _ _ _, by omega, (HO1.out.le (by simp)).below ((Below.refl _ _).alloc (Nat.le_refl _) _), fun e => by have := (World.ownsRow.lt HO1.out _ e).2; omega, (hb0.out.drew.trans (hb1.mono (by simp; omega))).alloc (by omega) _⟩
    clear q0 q1 q2 qa HO1 HB1
    have hb' := HF.out.box.cell
    have q0 := hb' 0
    have q1 := hb' 1
    have q2 := hb' 2
    simp only [List.getElem?_toArray, List.getElem?_cons_zero, List.getElem?_cons_succ] at q0 q1 q2
    clear hb'
    generalize w1.alloc (.cells #[.int .i64 n, .slice none 0 0, .slice a3 ws.length cap3] 29) = W at *
    generalize w1.heap.size = p at *
    go_wp2
    go_loopw [15] (fun i wr => ∃ (k : Nat) (L : List Pk) (va : Option Addr) (vc : Nat), k ≤ l.length ∧ i = .int .i64 k ∧ L.length = k ∧ cont L = cont (l.take k) ∧ OwnP wr W.heap.size (.slice va L.length vc) L ∧ Blk wr p #[.int .i64 n, .slice va L.length vc, .slice a3 ws.length cap3] 29 ∧ W.grownBy wr (some p)) (fun i _ => l.length - (intOf i).toNat)
    case atStart => exact ⟨0, [], none, 0, Nat.zero_le _, rfl, rfl, rfl, OwnP.nil _ _, HF.out.own, ⟨rfl, rfl, rfl, Nat.le_refl _, fun _ _ _ => rfl⟩⟩
    case round =>
      obtain ⟨k, L, va, vc, hk, rfl, hLk, hcL, hO, hP, hG⟩ := hrel
      have hsz := hG.size
      have hpW := HF.out.own.lt
      have hlo := HF.out.lo
      have HG : Hid (W.grownBy wr (some p)) := hG
      have HO : Hid (OwnP wr W.heap.size (.slice va L.length vc) L) := hO
      have HP : Hid (Blk wr p #[.int .i64 n, .slice va L.length vc, .slice a3 ws.length cap3] 29) := hP
      have HLK : Hid (L.length = k) := hLk
      have HCL : Hid (cont L = cont (l.take k)) := hcL
      have HB : Hid (Below w.heap.size w wr) := ⟨hG.os.trans HF.out.below.os, hG.tape.trans HF.out.below.tape, hG.output.trans HF.out.below.output, Nat.le_trans HF.out.below.size hG.size, fun j hj => (hG.block j (Nat.lt_of_lt_of_le hj HF.out.below.size) (by intro e; injection e with e; omega)).trans (HF.out.below.block j hj)⟩
      have bR : Hid (Blk wr (w.heap.size + 1) #[.int .i64 0, .slice none 0 0, .slice none 0 0] 29) := HF.out.res.keep (hG.block _ HF.out.res.lt (by intro e; injection e with e; omega))
      have hpw : p < wr.heap.size := by omega
      have cP := hP.cell
      have cP0 := cP 0
      have cP1 := cP 1
      have cP2 := cP 2
      simp at cP0 cP1 cP2
      have fP := hP.free
      clear hG hO hP hcL cP
      by_cases hlt : k < l.length
      · obtain ⟨b, off, rfl, hj⟩ := HC.out k hlt
        obtain ⟨c0, c1, c2, c3⟩ := (hj k hlt).below HB.out
        have hbs0 : Bs wr l[k].2 l[k].1.bs := (HV.out.bs k hlt).below HB.out
        obtain ⟨a4, cap4, e4⟩ := hbs0.sh
        rw [e4] at c3 hbs0
        have hbk := hbl _ (List.getElem_mem hlt)
        have HBS : Hid (Bs wr (.slice a4 l[k].1.bs.length cap4) l[k].1.bs) := hbs0
        have HT : Hid (cont (l.take (k + 1)) = cont (l.take k) ++ [l[k].1]) := by
          show _ = _
          rw [List.take_succ_eq_append_getElem hlt]; simp only [cont, List.map_append, List.map_cons, List.map_nil]
        clear hj e4 hbs0 hLk
        generalize l[k].1 = q at *
        have pa : ∀ (o : Obj) (j : Nat), (wr.alloc o).cell? ⟨p, j, none⟩ = wr.cell? ⟨p, j, none⟩ := fun o j => World.cell?_alloc_lt _ _ _ (by show p < wr.heap.size; omega)
        have hne1 : ¬ wr.heap.size = p := by omega
        have HNE : Hid ((Value.slice va L.length vc).ownBlock ≠ some wr.heap.size) := fun e => by have := HO.out.lts.1 _ e; omega
        have HNP : Hid ((Value.slice va L.length vc).ownBlock ≠ some p) := fun e => by have := (World.ownsRow.lt HO.out.row _ e).1; omega
        have hne2 : ¬ p = wr.heap.size := by omega
        go_wp2
        go_region_law
          (first
            | (refine stp_call (N := 59) rfl rfl (fun _ _ => by go_simp) #[.agg #[.int .i64 q.id, .int .i64 q.fr, .int .i64 q.tq, .slice a4 q.bs.length cap4]] (by first | rfl | simp [Act.eval]) ?_; refine (copyPacket_any _ _ _ _ q.bs _ (HBS.out.below (((Below.refl _ _).alloc (Nat.le_refl _) _).drew)) hbk).mono ?_; rintro r w2 ⟨a7, cap7, rfl, ho2, hb2⟩; refine ⟨_, rfl, ?_⟩; have hz2 := hb2.size; simp at hz2; have s0 : w2.cell? ⟨wr.heap.size, 0, none⟩ = some (.int .i64 q.id) := (hb2.cell (p := ⟨wr.heap.size, 0, none⟩) (by simp)).trans (by simp [go_sem]); have s1 : w2.cell? ⟨wr.heap.size, 1, none⟩ = some (.int .i64 q.fr) := (hb2.cell (p := ⟨wr.heap.size, 1, none⟩) (by simp)).trans (by simp [go_sem]); have s2 : w2.cell? ⟨wr.heap.size, 2, none⟩ = some (.int .i64 q.tq) := (hb2.cell (p := ⟨wr.heap.size, 2, none⟩) (by simp)).trans (by simp [go_sem]); have s3 : w2.cell? ⟨wr.heap.size, 3, none⟩ = some (.slice a4 q.bs.length cap4) := (hb2.cell (p := ⟨wr.heap.size, 3, none⟩) (by simp)).trans (by simp [go_sem]); have sp1 : w2.cell? ⟨p, 1, none⟩ = some (.slice va L.length vc) := (hb2.cell (p := ⟨p, 1, none⟩) (by simp; omega)).trans (by simp [go_sem, *]); have sa : ∀ (o : Obj) (j : Nat), (w2.alloc o).cell? ⟨wr.heap.size, j, none⟩ = w2.cell? ⟨wr.heap.size, j, none⟩ := fun o j => World.cell?_alloc_lt _ _ _ (by show wr.heap.size < w2.heap.size; omega); have spa : ∀ (o : Obj) (j : Nat), (w2.alloc o).cell? ⟨p, j, none⟩ = w2.cell? ⟨p, j, none⟩ := fun o j => World.cell?_alloc_lt _ _ _ (by show p < w2.heap.size; omega); have HO2 : Hid (Own w2 _ (.slice a7 q.bs.length cap7) q.bs) := ho2; have HB2 : Hid (Below _ _ w2) := hb2; clear ho2 hb2)
            | (refine stp_appendP rfl (.tmp 20) (.tmp 23) rfl (q, Value.slice a7 q.bs.length cap7) (l := L) (B := W.heap.size) (N := (wr.alloc (.cells #[.int .i64 0, .int .i64 0, .int .i64 0, .slice none 0 0] 60)).heap.size) ((HO.out.below (((Below.refl _ _).alloc (Nat.le_refl _) _).drew.trans (HB2.out.mono (by simp)))).below ((Below.refl _ _).alloc (Nat.le_refl _) _)) rfl w2.heap.size 1 (pkAt_new _ _ _ _ _ _) rfl ((HO2.out.below ((Below.refl _ _).alloc (Nat.le_refl _) _)).le (by simp)) (by show q.bs.length ≤ maxLen; unfold maxLen; omega) (by simp; omega) ⟨fun k' e' => Nat.lt_of_lt_of_le (HO.out.lts.1 k' e') (by simp), fun p' hp' k' e' => Nat.lt_of_lt_of_le (HO.out.lts.2 p' hp' k' e') (by simp)⟩ rfl (by have := HLK.out; omega) (by simp; omega) ?_; intro v3 w3 ho3 hg3; obtain ⟨a5, cap5, rfl⟩ := ho3.shape; have t0 : w3.cell? ⟨wr.heap.size, 0, none⟩ = some (.int .i64 q.id) := (hg3.cell (by simp; omega) HNE.out).trans (by simp [go_sem, *]); have t1 : w3.cell? ⟨wr.heap.size, 1, none⟩ = some (.int .i64 q.fr) := (hg3.cell (by simp; omega) HNE.out).trans (by simp [go_sem, *]); have t2 : w3.cell? ⟨wr.heap.size, 2, none⟩ = some (.int .i64 q.tq) := (hg3.cell (by simp; omega) HNE.out).trans (by simp [go_sem, *]); have t3 : w3.cell? ⟨wr.heap.size, 3, none⟩ = some (.slice a4 q.bs.length cap4) := (hg3.cell (by simp; omega) HNE.out).trans (by simp [go_sem, *]); have HP3 : Hid (Blk w3 p #[.int .i64 n, .slice va L.length vc, .slice a3 ws.length cap3] 29) := (((HP.out.alloc _).drew.below HB2.out (by simp; omega)).alloc _).grewP hg3 HNP.out; have tp1 : w3.cell? ⟨p, 1, none⟩ = some (.slice va L.length vc) := HP3.out.cell 1; have tpf : ∀ j, w3.frozen? ⟨p, j, none⟩ = false := HP3.out.free; have HO3 : Hid (OwnP w3 W.heap.size (.slice a5 (L ++ [(q, Value.slice a7 q.bs.length cap7)]).length cap5) (L ++ [(q, Value.slice a7 q.bs.length cap7)])) := ho3; have HG3 : Hid (Grew _ (.slice va L.length vc) w3 _) := hg3; clear ho3 hg3))
        all_goals go_wp2
        all_goals (
          go_roundw
          case rel =>
            refine ⟨k + 1, L ++ [(q, Value.slice a7 q.bs.length cap7)], a5, cap5, by omega, by go_num, by simp [HLK.out], by rw [HT.out, ← HCL.out]; simp [cont], HO3.out.keep (fun j h1 _ => Below.heap_setCell _ _ _ _ (by simp only []; omega)), by rw [List.length_append]; exact HP3.out.set 1 _, ?_⟩
            exact grown_round HG.out ((((Below.refl _ _).alloc (Nat.le_refl _) _).drew.trans (HB2.out.mono (by simp))).alloc (by omega) _) HG3.out (fun k' e' => (World.ownsRow.lt HO.out.row k' e').1) 1 _
          case measure => simp [intOf]; omega)
      · obtain rfl : k = l.length := by omega
        have cR := bR.out.cell
        have cR0 := cR 0
        have cR1 := cR 1
        have cR2 := cR 2
        simp at cR0 cR1 cR2
        have fR := bR.out.free
        have hp1 : ¬ w.heap.size + 1 = p := by omega
        clear cR
        go_wp2
        refine bodyPost_ret (v := .agg #[.int .i64 n, .slice va L.length vc, .slice a3 ws.length cap3]) (by simp [results, Try.results47, go_sem, *]) rfl ⟨.slice va L.length vc, .slice a3 ws.length cap3, L, rfl, by rw [HCL.out, List.take_length], ?_, ?_, ?_, ?_⟩
        · have h3 := HF.out.below.size
          exact (HO.out.keep (w' := _) fun j h1 _ => (by rw [Below.heap_setCell _ _ _ _ (by simp only []; omega), Below.heap_setCell _ _ _ _ (by simp only []; omega), Below.heap_setCell _ _ _ _ (by simp only []; omega)])).le h3
        · refine (HF.out.ints.block fun k' e' => ?_).le (by omega)
          have hk' := World.ownsRow.lt HF.out.ints k' e'
          rw [Below.heap_setCell _ _ _ _ (by simp only []; omega), Below.heap_setCell _ _ _ _ (by simp only []; omega), Below.heap_setCell _ _ _ _ (by simp only []; omega)]
          exact HG.out.block k' hk'.2 (fun e => HF.out.ne (by rw [e', e]))
        · intro k' e'
          have hk' := World.ownsRow.lt HF.out.ints k' e'
          refine ⟨fun e => ?_, fun p' hp' e => ?_⟩
          · have := (World.ownsRow.lt HO.out.row k' e).1; omega
          · have := ((HO.out.bytes p' hp').1.2.lt k' e).1; omega
        · exact ((HB.out.setCell (Nat.le_succ _) _).setCell (Nat.le_succ _) _).setCell (Nat.le_succ _) _
  · have HF : Hid (CopySt w (((w1.setCell ⟨w.heap.size + 1 + 1, 0, none⟩ (.int .i64 n)).setCell ⟨w.heap.size + 1 + 1, 1, none⟩ (.slice none 0 0)).setCell ⟨w.heap.size + 1 + 1, 2, none⟩ (.slice a3 ws.length cap3)) (w.heap.size + 1 + 1) #[.int .i64 n, .slice a l.length cap, .slice a2 ws.length cap2] #[.int .i64 0, .slice none 0 0, .slice none 0 0] #[.int .i64 n, .slice none 0 0, .slice a3 ws.length cap3] (.slice a3 ws.length cap3) ws) := by
      have hb1 := HB1.out
      have hne : ∀ k, (Value.slice a3 ws.length cap3).ownBlock = some k → w.heap.size + 1 + 1 < k := fun k e => by have := (World.ownsRow.lt HO1.out k e).1; simp at this; omega
      refine ⟨Blk.set_other (Blk.set_other (Blk.set_other ((((Blk.new w _ _).alloc _).drew.alloc _).below hb1 (by simp <;> omega)) _ (by simp only []; omega)) _ (by simp only []; omega)) _ (by simp only []; omega), Blk.set_other (Blk.set_other (Blk.set_other (((Blk.new' (w.alloc _) _ _ (by simp)).drew.alloc _).below hb1 (by simp <;> omega)) _ (by simp only []; omega)) _ (by simp only []; omega)) _ (by simp only []; omega), ?_, by omega, ?_, fun e => by have := hne _ e; omega, ?_⟩
      · have hB : Blk w1 (w.heap.size + 1 + 1) #[.int .i64 0, .slice none 0 0, .slice none 0 0] 29 := (Blk.new' _ _ _ (by simp)).below hb1 (by simp)
        have h3 := ((hB.set 0 (.int .i64 n)).set 1 (.slice none 0 0)).set 2 (.slice a3 ws.length cap3)
        simpa using h3
      · refine (HO1.out.block fun k e => ?_).le (by simp <;> omega)
        have := hne k e
        rw [Below.heap_setCell _ _ _ _ (by simp only []; omega), Below.heap_setCell _ _ _ _ (by simp only []; omega), Below.heap_setCell _ _ _ _ (by simp only []; omega)]
      · exact (((((hb0.out.drew.alloc (by simp <;> omega) _).trans (hb1.mono (by simp <;> omega))).setCell (show w.heap.size ≤ w.heap.size + 1 + 1 by omega) _).setCell (show w.heap.size ≤ w.heap.size + 1 + 1 by omega) _).setCell (show w.heap.size ≤ w.heap.size + 1 + 1 by omega) _)
    clear q0 q1 q2 qa r0 r1 r2 rz HO1 HB1
    have hb' := HF.out.box.cell
    have q0 := hb' 0
    have q1 := hb' 1
    have q2 := hb' 2
    simp only [List.getElem?_toArray, List.getElem?_cons_zero, List.getElem?_cons_succ] at q0 q1 q2
    clear hb'
    generalize (((w1.setCell ⟨w.heap.size + 1 + 1, 0, none⟩ (.int .i64 n)).setCell ⟨w.heap.size + 1 + 1, 1, none⟩ (.slice none 0 0)).setCell ⟨w.heap.size + 1 + 1, 2, none⟩ (.slice a3 ws.length cap3)) = W at *
    generalize w.heap.size + 1 + 1 = p at *
    go_wp2
    go_loopw [15] (fun i wr => ∃ (k : Nat) (L : List Pk) (va : Option Addr) (vc : Nat), k ≤ l.length ∧ i = .int .i64 k ∧ L.length = k ∧ cont L = cont (l.take k) ∧ OwnP wr W.heap.size (.slice va L.length vc) L ∧ Blk wr p #[.int .i64 n, .slice va L.length vc, .slice a3 ws.length cap3] 29 ∧ W.grownBy wr (some p)) (fun i _ => l.length - (intOf i).toNat)
    case atStart => exact ⟨0, [], none, 0, Nat.zero_le _, rfl, rfl, rfl, OwnP.nil _ _, HF.out.own, ⟨rfl, rfl, rfl, Nat.le_refl _, fun _ _ _ => rfl⟩⟩
    case round =>
      obtain ⟨k, L, va, vc, hk, rfl, hLk, hcL, hO, hP, hG⟩ := hrel
      have hsz := hG.size
      have hpW := HF.out.own.lt
      have hlo := HF.out.lo
      have HG : Hid (W.grownBy wr (some p)) := hG
      have HO : Hid (OwnP wr W.heap.size (.slice va L.length vc) L) := hO
      have HP : Hid (Blk wr p #[.int .i64 n, .slice va L.length vc, .slice a3 ws.length cap3] 29) := hP
      have HLK : Hid (L.length = k) := hLk
      have HCL : Hid (cont L = cont (l.take k)) := hcL
      have HB : Hid (Below w.heap.size w wr) := ⟨hG.os.trans HF.out.below.os, hG.tape.trans HF.out.below.tape, hG.output.trans HF.out.below.output, Nat.le_trans HF.out.below.size hG.size, fun j hj => (hG.block j (Nat.lt_of_lt_of_le hj HF.out.below.size) (by intro e; injection e with e; omega)).trans (HF.out.below.block j hj)⟩
      have bR : Hid (Blk wr (w.heap.size + 1) #[.int .i64 0, .slice none 0 0, .slice none 0 0] 29) := HF.out.res.keep (hG.block _ HF.out.res.lt (by intro e; injection e with e; omega))
      have hpw : p < wr.heap.size := by omega
      have cP := hP.cell
      have cP0 := cP 0
      have cP1 := cP 1
      have cP2 := cP 2
      simp at cP0 cP1 cP2
      have fP := hP.free
      clear hG hO hP hcL cP
      by_cases hlt : k < l.length
      · obtain ⟨b, off, rfl, hj⟩ := HC.out k hlt
        obtain ⟨c0, c1, c2, c3⟩ := (hj k hlt).below HB.out
        have hbs0 : Bs wr l[k].2 l[k].1.bs := (HV.out.bs k hlt).below HB.out
        obtain ⟨a4, cap4, e4⟩ := hbs0.sh
        rw [e4] at c3 hbs0
        have hbk := hbl _ (List.getElem_mem hlt)
        have HBS : Hid (Bs wr (.slice a4 l[k].1.bs.length cap4) l[k].1.bs) := hbs0
        have HT : Hid (cont (l.take (k + 1)) = cont (l.take k) ++ [l[k].1]) := by
          show _ = _
          rw [List.take_succ_eq_append_getElem hlt]; simp only [cont, List.map_append, List.map_cons, List.map_nil]
        clear hj e4 hbs0 hLk
        generalize l[k].1 = q at *
        have pa : ∀ (o : Obj) (j : Nat), (wr.alloc o).cell? ⟨p, j, none⟩ = wr.cell? ⟨p, j, none⟩ := fun o j => World.cell?_alloc_lt _ _ _ (by show p < wr.heap.size; omega)
        have hne1 : ¬ wr.heap.size = p := by omega
        have HNE : Hid ((Value.slice va L.length vc).ownBlock ≠ some wr.heap.size) := fun e => by have := HO.out.lts.1 _ e; omega
        have HNP : Hid ((Value.slice va L.length vc).ownBlock ≠ some p) := fun e => by have := (World.ownsRow.lt HO.out.row _ e).1; omega
        have hne2 : ¬ p = wr.heap.size := by omega
        go_wp2
        go_region_law
          (first
            | (refine stp_call (N := 59) rfl rfl (fun _ _ => by go_simp) #[.agg #[.int .i64 q.id, .int .i64 q.fr, .int .i64 q.tq, .slice a4 q.bs.length cap4]] (by first | rfl | simp [Act.eval]) ?_; refine (copyPacket_any _ _ _ _ q.bs _ (HBS.out.below (((Below.refl _ _).alloc (Nat.le_refl _) _).drew)) hbk).mono ?_; rintro r w2 ⟨a7, cap7, rfl, ho2, hb2⟩; refine ⟨_, rfl, ?_⟩; have hz2 := hb2.size; simp at hz2; have s0 : w2.cell? ⟨wr.heap.size, 0, none⟩ = some (.int .i64 q.id) := (hb2.cell (p := ⟨wr.heap.size, 0, none⟩) (by simp)).trans (by simp [go_sem]); have s1 : w2.cell? ⟨wr.heap.size, 1, none⟩ = some (.int .i64 q.fr) := (hb2.cell (p := ⟨wr.heap.size, 1, none⟩) (by simp)).trans (by simp [go_sem]); have s2 : w2.cell? ⟨wr.heap.size, 2, none⟩ = some (.int .i64 q.tq) := (hb2.cell (p := ⟨wr.heap.size, 2, none⟩) (by simp)).trans (by simp [go_sem]); have s3 : w2.cell? ⟨wr.heap.size, 3, none⟩ = some (.slice a4 q.bs.length cap4) := (hb2.cell (p := ⟨wr.heap.size, 3, none⟩) (by simp)).trans (by simp [go_sem]); have sp1 : w2.cell? ⟨p, 1, none⟩ = some (.slice va L.length vc) := (hb2.cell (p := ⟨p, 1, none⟩) (by simp; omega)).trans (by simp [go_sem, *]); have sa : ∀ (o : Obj) (j : Nat), (w2.alloc o).cell? ⟨wr.heap.size, j, none⟩ = w2.cell? ⟨wr.heap.size, j, none⟩ := fun o j => World.cell?_alloc_lt _ _ _ (by show wr.heap.size < w2.heap.size; omega); have spa : ∀ (o : Obj) (j : Nat), (w2.alloc o).cell? ⟨p, j, none⟩ = w2.cell? ⟨p, j, none⟩ := fun o j => World.cell?_alloc_lt _ _ _ (by show p < w2.heap.size; omega); have HO2 : Hid (Own w2 _ (.slice a7 q.bs.length cap7) q.bs) := ho2; have HB2 : Hid (Below _ _ w2) := hb2; clear ho2 hb2)
            | (refine stp_appendP rfl (.tmp 20) (.tmp 23) rfl (q, Value.slice a7 q.bs.length cap7) (l := L) (B := W.heap.size) (N := (wr.alloc (.cells #[.int .i64 0, .int .i64 0, .int .i64 0, .slice none 0 0] 60)).heap.size) ((HO.out.below (((Below.refl _ _).alloc (Nat.le_refl _) _).drew.trans (HB2.out.mono (by simp)))).below ((Below.refl _ _).alloc (Nat.le_refl _) _)) rfl w2.heap.size 1 (pkAt_new _ _ _ _ _ _) rfl ((HO2.out.below ((Below.refl _ _).alloc (Nat.le_refl _) _)).le (by simp)) (by show q.bs.length ≤ maxLen; unfold maxLen; omega) (by simp; omega) ⟨fun k' e' => Nat.lt_of_lt_of_le (HO.out.lts.1 k' e') (by simp), fun p' hp' k' e' => Nat.lt_of_lt_of_le (HO.out.lts.2 p' hp' k' e') (by simp)⟩ rfl (by have := HLK.out; omega) (by simp; omega) ?_; intro v3 w3 ho3 hg3; obtain ⟨a5, cap5, rfl⟩ := ho3.shape; have t0 : w3.cell? ⟨wr.heap.size, 0, none⟩ = some (.int .i64 q.id) := (hg3.cell (by simp; omega) HNE.out).trans (by simp [go_sem, *]); have t1 : w3.cell? ⟨wr.heap.size, 1, none⟩ = some (.int .i64 q.fr) := (hg3.cell (by simp; omega) HNE.out).trans (by simp [go_sem, *]); have t2 : w3.cell? ⟨wr.heap.size, 2, none⟩ = some (.int .i64 q.tq) := (hg3.cell (by simp; omega) HNE.out).trans (by simp [go_sem, *]); have t3 : w3.cell? ⟨wr.heap.size, 3, none⟩ = some (.slice a4 q.bs.length cap4) := (hg3.cell (by simp; omega) HNE.out).trans (by simp [go_sem, *]); have HP3 : Hid (Blk w3 p #[.int .i64 n, .slice va L.length vc, .slice a3 ws.length cap3] 29) := (((HP.out.alloc _).drew.below HB2.out (by simp; omega)).alloc _).grewP hg3 HNP.out; have tp1 : w3.cell? ⟨p, 1, none⟩ = some (.slice va L.length vc) := HP3.out.cell 1; have tpf : ∀ j, w3.frozen? ⟨p, j, none⟩ = false := HP3.out.free; have HO3 : Hid (OwnP w3 W.heap.size (.slice a5 (L ++ [(q, Value.slice a7 q.bs.length cap7)]).length cap5) (L ++ [(q, Value.slice a7 q.bs.length cap7)])) := ho3; have HG3 : Hid (Grew _ (.slice va L.length vc) w3 _) := hg3; clear ho3 hg3))
        all_goals go_wp2
        all_goals (
          go_roundw
          case rel =>
            refine ⟨k + 1, L ++ [(q, Value.slice a7 q.bs.length cap7)], a5, cap5, by omega, by go_num, by simp [HLK.out], by rw [HT.out, ← HCL.out]; simp [cont], HO3.out.keep (fun j h1 _ => Below.heap_setCell _ _ _ _ (by simp only []; omega)), by rw [List.length_append]; exact HP3.out.set 1 _, ?_⟩
            exact grown_round HG.out ((((Below.refl _ _).alloc (Nat.le_refl _) _).drew.trans (HB2.out.mono (by simp))).alloc (by omega) _) HG3.out (fun k' e' => (World.ownsRow.lt HO.out.row k' e').1) 1 _
          case measure => simp [intOf]; omega)
      · obtain rfl : k = l.length := by omega
        have cR := bR.out.cell
        have cR0 := cR 0
        have cR1 := cR 1
        have cR2 := cR 2
        simp at cR0 cR1 cR2
        have fR := bR.out.free
        have hp1 : ¬ w.heap.size + 1 = p := by omega
        clear cR
        go_wp2
        refine bodyPost_ret (v := .agg #[.int .i64 n, .slice va L.length vc, .slice a3 ws.length cap3]) (by simp [results, Try.results47, go_sem, *]) rfl ⟨.slice va L.length vc, .slice a3 ws.length cap3, L, rfl, by rw [HCL.out, List.take_length], ?_, ?_, ?_, ?_⟩
        · have h3 := HF.out.below.size
          exact (HO.out.keep (w' := _) fun j h1 _ => (by rw [Below.heap_setCell _ _ _ _ (by simp only []; omega), Below.heap_setCell _ _ _ _ (by simp only []; omega), Below.heap_setCell _ _ _ _ (by simp only []; omega)])).le h3
        · refine (HF.out.ints.block fun k' e' => ?_).le (by omega)
          have hk' := World.ownsRow.lt HF.out.ints k' e'
          rw [Below.heap_setCell _ _ _ _ (by simp only []; omega), Below.heap_setCell _ _ _ _ (by simp only []; omega), Below.heap_setCell _ _ _ _ (by simp only []; omega)]
          exact HG.out.block k' hk'.2 (fun e => HF.out.ne (by rw [e', e]))
        · intro k' e'
          have hk' := World.ownsRow.lt HF.out.ints k' e'
          refine ⟨fun e => ?_, fun p' hp' e => ?_⟩
          · have := (World.ownsRow.lt HO.out.row k' e).1; omega
          · have := ((HO.out.bytes p' hp').1.2.lt k' e).1; omega
        · exact ((HB.out.setCell (Nat.le_succ _) _).setCell (Nat.le_succ _) _).setCell (Nat.le_succ _) _
end Go.Proofs.Ytfcmffdljfljkaa

/-
  impl.putCode, impl.putPacket.
-/
namespace Go.Proofs.Ytfcmffdljfljkaa
open Go.RowKit Go.Maps
set_option linter.unusedVariables false
set_option linter.unusedSimpArgs false

/-- why a bag does not take a packet -/
def putC (n : Int) (len : Nat) (ws : List Int) (f t : Int) (bn : Nat) : Int :=
  if pkF f t bn = false then 2 else if (ws.contains f || ws.contains t) = true then 3 else if len = 4096 ∨ n = 1099511627776 then 4 else 0
theorem addr_small {a : Int} (h : addrB a = true) : 0 ≤ a ∧ a ≤ 1000 := by
  simp only [addrB, Bool.or_eq_true] at h
  rcases h with h | h <;> have := (inB_iff _ _ _).1 h <;> omega
theorem pkF_small {f t : Int} {n : Nat} (h : pkF f t n = true) : (0 ≤ f ∧ f ≤ 1000) ∧ 0 ≤ t ∧ t ≤ 1000 := by
  simp only [pkF, Bool.and_eq_true] at h
  exact ⟨addr_small h.1.1.1, addr_small h.1.1.2⟩

set_option maxHeartbeats 4000000 in
set_option maxRecDepth 100000 in
theorem putCode_any (n : Int) (a1 : Option Addr) (len cap1 : Nat) (a2 : Option Addr) (cap2 : Nat) (ws : List Int) (i f t : Int) (a3 : Option Addr) (bn cap3 : Nat) (w : World) (hu : Ix w (.slice a2 ws.length cap2) ws) (hr : ∀ y ∈ ws, 0 ≤ y ∧ y ≤ 1000) (hw : ws.length ≤ 1048576) (hbn : bn ≤ maxLen) (hlen : len ≤ 1048576) :
    Calls Try.prog 90 #[.agg #[.int .i64 n, .slice a1 len cap1, .slice a2 ws.length cap2], .agg #[.int .i64 i, .int .i64 f, .int .i64 t, .slice a3 bn cap3]] w fun e w' => e = .returned (.int .i64 (putC n len ws f t bn)) ∧ Below w.heap.size w w' := by
  have HU : Hid (∀ w', Below w.heap.size w w' → Calls Try.prog 76 #[.slice a2 ws.length cap2] w' fun e w'' => e = .returned (.map (some w'.heap.size)) ∧ SetAt w'' w'.heap.size ws ∧ Below w'.heap.size w' w'') := fun w' hb => wallsOf_any _ ws w' (hu.below hb) hr hw
  clear hu hr
  have hb0 : Hid (Below w.heap.size w ((w.alloc (.cells #[.int .i64 n, .slice a1 len cap1, .slice a2 ws.length cap2] 29)).alloc (.cells #[.int .i64 i, .int .i64 f, .int .i64 t, .slice a3 bn cap3] 60))) := ((Below.refl _ _).alloc (Nat.le_refl _) _).alloc (by simp) _
  unfold putC
  cases h1 : pkF f t bn
  · simp only [if_true]
    go_enter Try.func90, Try.ntmps90
    go_wp2_with (go_at_call 106; refine (packetFits_any _ _ _ _ _ _ hbn _).mono ?_; rintro e w1 ⟨rfl, hb1⟩; rw [h1])
    go_ret
    exact ⟨rfl, hb0.out.trans (hb1.mono (by simp; omega))⟩
  obtain ⟨hf, ht⟩ := pkF_small h1
  simp only [Bool.true_eq_false, if_false]
  have HFIT : Hid (∀ u : World, Calls Try.prog 106 #[.agg #[.int .i64 i, .int .i64 f, .int .i64 t, .slice a3 bn cap3]] u fun e w' => e = .returned (.bool true) ∧ Below u.heap.size u w') := fun u => by rw [← h1]; exact packetFits_any _ _ _ _ _ _ hbn u
  clear h1
  cases h2 : (ws.contains f || ws.contains t)
  · have HL : Hid (∀ (u : World) (b : Nat), SetAt u b ws → Calls Try.prog 77 #[.map (some b), .int .i64 f, .int .i64 t] u fun e w' => e = .returned (.bool false) ∧ Below u.heap.size u w') := fun u b h => by rw [← h2]; exact lose_any b ws f t u h hf ht
    simp only [Bool.false_eq_true, if_false]
    clear h2 hf ht
    by_cases h3 : len = 4096
    · subst h3
      rw [if_pos (.inl rfl)]
      go_enter Try.func90, Try.ntmps90
      go_wp2_with (go_at_call 106; refine (HFIT.out _).mono ?_; rintro e w1 ⟨rfl, hb1⟩; have HB1 : Hid (Below w.heap.size w w1) := hb0.out.trans (hb1.mono (by simp; omega)); have hz1 := hb1.size; simp at hz1; have x0 : w1.cell? ⟨w.heap.size, 0, none⟩ = some (.int .i64 n) := (hb1.cell (p := ⟨w.heap.size, 0, none⟩) (by simp <;> omega)).trans (by simp [go_sem, *]); have x1 : w1.cell? ⟨w.heap.size, 1, none⟩ = some (.slice a1 4096 cap1) := (hb1.cell (p := ⟨w.heap.size, 1, none⟩) (by simp <;> omega)).trans (by simp [go_sem, *]); have x2 : w1.cell? ⟨w.heap.size, 2, none⟩ = some (.slice a2 ws.length cap2) := (hb1.cell (p := ⟨w.heap.size, 2, none⟩) (by simp <;> omega)).trans (by simp [go_sem, *]); have x3 : w1.cell? ⟨w.heap.size + 1, 1, none⟩ = some (.int .i64 f) := (hb1.cell (p := ⟨w.heap.size + 1, 1, none⟩) (by simp <;> omega)).trans (by simp [go_sem, *]); have x4 : w1.cell? ⟨w.heap.size + 1, 2, none⟩ = some (.int .i64 t) := (hb1.cell (p := ⟨w.heap.size + 1, 2, none⟩) (by simp <;> omega)).trans (by simp [go_sem, *]); clear hb1)
      go_region_held3 (fun w' => w'.cell? ⟨w.heap.size, 2, none⟩ = some (.slice a2 ws.length cap2) ∧ w'.cell? ⟨w.heap.size + 1, 1, none⟩ = some (.int .i64 f) ∧ w'.cell? ⟨w.heap.size + 1, 2, none⟩ = some (.int .i64 t)) (simp [*, go_sem])
        (first
          | (go_at_call 76; refine (HU.out _ HB1.out.drew).mono ?_; rintro r w2 ⟨rfl, hs2, hb2⟩; have hz2 := hb2.size; simp at hz2; have y0 : w2.cell? ⟨w.heap.size, 0, none⟩ = some (.int .i64 n) := (hb2.cell (p := ⟨w.heap.size, 0, none⟩) (by simp <;> omega)).trans (by simp [go_sem, *]); have y1 : w2.cell? ⟨w.heap.size, 1, none⟩ = some (.slice a1 4096 cap1) := (hb2.cell (p := ⟨w.heap.size, 1, none⟩) (by simp <;> omega)).trans (by simp [go_sem, *]); have y2 : w2.cell? ⟨w.heap.size, 2, none⟩ = some (.slice a2 ws.length cap2) := (hb2.cell (p := ⟨w.heap.size, 2, none⟩) (by simp <;> omega)).trans (by simp [go_sem, *]); have y3 : w2.cell? ⟨w.heap.size + 1, 1, none⟩ = some (.int .i64 f) := (hb2.cell (p := ⟨w.heap.size + 1, 1, none⟩) (by simp <;> omega)).trans (by simp [go_sem, *]); have y4 : w2.cell? ⟨w.heap.size + 1, 2, none⟩ = some (.int .i64 t) := (hb2.cell (p := ⟨w.heap.size + 1, 2, none⟩) (by simp <;> omega)).trans (by simp [go_sem, *]); have HS2 : Hid (SetAt w2 _ ws) := hs2; have HB2 : Hid (Below w.heap.size w w2) := HB1.out.drew.trans (hb2.mono (by show w.heap.size ≤ w1.heap.size; omega)); clear hs2 hb2)
          | (go_at_call 77; refine (HL.out _ _ HS2.out).mono ?_; rintro r w3 ⟨rfl, hb3⟩; have hz3 := hb3.size; have z0 : w3.cell? ⟨w.heap.size, 0, none⟩ = some (.int .i64 n) := (hb3.cell (p := ⟨w.heap.size, 0, none⟩) (by simp <;> omega)).trans (by simp [go_sem, *]); have z1 : w3.cell? ⟨w.heap.size, 1, none⟩ = some (.slice a1 4096 cap1) := (hb3.cell (p := ⟨w.heap.size, 1, none⟩) (by simp <;> omega)).trans (by simp [go_sem, *]); have z2 : w3.cell? ⟨w.heap.size, 2, none⟩ = some (.slice a2 ws.length cap2) := (hb3.cell (p := ⟨w.heap.size, 2, none⟩) (by simp <;> omega)).trans (by simp [go_sem, *]); have z3 : w3.cell? ⟨w.heap.size + 1, 1, none⟩ = some (.int .i64 f) := (hb3.cell (p := ⟨w.heap.size + 1, 1, none⟩) (by simp <;> omega)).trans (by simp [go_sem, *]); have z4 : w3.cell? ⟨w.heap.size + 1, 2, none⟩ = some (.int .i64 t) := (hb3.cell (p := ⟨w.heap.size + 1, 2, none⟩) (by simp <;> omega)).trans (by simp [go_sem, *]); have HB3 : Hid (Below w.heap.size w w3) := HB2.out.trans (hb3.mono (by omega)); clear hb3))
      all_goals go_wp2
      all_goals go_ret
      all_goals first | exact ⟨rfl, HB3.out⟩ | (exfalso; omega)
    by_cases h4 : n = 1099511627776
    · subst h4
      rw [if_pos (.inr rfl)]
      have h3d : ¬ (len : Int) = 4096 := by omega
      clear h3
      go_enter Try.func90, Try.ntmps90
      go_wp2_with (go_at_call 106; refine (HFIT.out _).mono ?_; rintro e w1 ⟨rfl, hb1⟩; have HB1 : Hid (Below w.heap.size w w1) := hb0.out.trans (hb1.mono (by simp; omega)); have hz1 := hb1.size; simp at hz1; have x0 : w1.cell? ⟨w.heap.size, 0, none⟩ = some (.int .i64 1099511627776) := (hb1.cell (p := ⟨w.heap.size, 0, none⟩) (by simp <;> omega)).trans (by simp [go_sem, *]); have x1 : w1.cell? ⟨w.heap.size, 1, none⟩ = some (.slice a1 len cap1) := (hb1.cell (p := ⟨w.heap.size, 1, none⟩) (by simp <;> omega)).trans (by simp [go_sem, *]); have x2 : w1.cell? ⟨w.heap.size, 2, none⟩ = some (.slice a2 ws.length cap2) := (hb1.cell (p := ⟨w.heap.size, 2, none⟩) (by simp <;> omega)).trans (by simp [go_sem, *]); have x3 : w1.cell? ⟨w.heap.size + 1, 1, none⟩ = some (.int .i64 f) := (hb1.cell (p := ⟨w.heap.size + 1, 1, none⟩) (by simp <;> omega)).trans (by simp [go_sem, *]); have x4 : w1.cell? ⟨w.heap.size + 1, 2, none⟩ = some (.int .i64 t) := (hb1.cell (p := ⟨w.heap.size + 1, 2, none⟩) (by simp <;> omega)).trans (by simp [go_sem, *]); clear hb1)
      go_region_held3 (fun w' => w'.cell? ⟨w.heap.size, 2, none⟩ = some (.slice a2 ws.length cap2) ∧ w'.cell? ⟨w.heap.size + 1, 1, none⟩ = some (.int .i64 f) ∧ w'.cell? ⟨w.heap.size + 1, 2, none⟩ = some (.int .i64 t)) (simp [*, go_sem])
        (first
          | (go_at_call 76; refine (HU.out _ HB1.out.drew).mono ?_; rintro r w2 ⟨rfl, hs2, hb2⟩; have hz2 := hb2.size; simp at hz2; have y0 : w2.cell? ⟨w.heap.size, 0, none⟩ = some (.int .i64 1099511627776) := (hb2.cell (p := ⟨w.heap.size, 0, none⟩) (by simp <;> omega)).trans (by simp [go_sem, *]); have y1 : w2.cell? ⟨w.heap.size, 1, none⟩ = some (.slice a1 len cap1) := (hb2.cell (p := ⟨w.heap.size, 1, none⟩) (by simp <;> omega)).trans (by simp [go_sem, *]); have y2 : w2.cell? ⟨w.heap.size, 2, none⟩ = some (.slice a2 ws.length cap2) := (hb2.cell (p := ⟨w.heap.size, 2, none⟩) (by simp <;> omega)).trans (by simp [go_sem, *]); have y3 : w2.cell? ⟨w.heap.size + 1, 1, none⟩ = some (.int .i64 f) := (hb2.cell (p := ⟨w.heap.size + 1, 1, none⟩) (by simp <;> omega)).trans (by simp [go_sem, *]); have y4 : w2.cell? ⟨w.heap.size + 1, 2, none⟩ = some (.int .i64 t) := (hb2.cell (p := ⟨w.heap.size + 1, 2, none⟩) (by simp <;> omega)).trans (by simp [go_sem, *]); have HS2 : Hid (SetAt w2 _ ws) := hs2; have HB2 : Hid (Below w.heap.size w w2) := HB1.out.drew.trans (hb2.mono (by show w.heap.size ≤ w1.heap.size; omega)); clear hs2 hb2)
          | (go_at_call 77; refine (HL.out _ _ HS2.out).mono ?_; rintro r w3 ⟨rfl, hb3⟩; have hz3 := hb3.size; have z0 : w3.cell? ⟨w.heap.size, 0, none⟩ = some (.int .i64 1099511627776) := (hb3.cell (p := ⟨w.heap.size, 0, none⟩) (by simp <;> omega)).trans (by simp [go_sem, *]); have z1 : w3.cell? ⟨w.heap.size, 1, none⟩ = some (.slice a1 len cap1) := (hb3.cell (p := ⟨w.heap.size, 1, none⟩) (by simp <;> omega)).trans (by simp [go_sem, *]); have z2 : w3.cell? ⟨w.heap.size, 2, none⟩ = some (.slice a2 ws.length cap2) := (hb3.cell (p := ⟨w.heap.size, 2, none⟩) (by simp <;> omega)).trans (by simp [go_sem, *]); have z3 : w3.cell? ⟨w.heap.size + 1, 1, none⟩ = some (.int .i64 f) := (hb3.cell (p := ⟨w.heap.size + 1, 1, none⟩) (by simp <;> omega)).trans (by simp [go_sem, *]); have z4 : w3.cell? ⟨w.heap.size + 1, 2, none⟩ = some (.int .i64 t) := (hb3.cell (p := ⟨w.heap.size + 1, 2, none⟩) (by simp <;> omega)).trans (by simp [go_sem, *]); have HB3 : Hid (Below w.heap.size w w3) := HB2.out.trans (hb3.mono (by omega)); clear hb3))
      all_goals go_wp2
      all_goals go_ret
      all_goals first | exact ⟨rfl, HB3.out⟩ | (exfalso; omega)
    rw [if_neg (by simp [h3, h4])]
    have h3d : ¬ (len : Int) = 4096 := by omega
    have h4d : (n == 1099511627776) = false := by simpa using h4
    clear h3 h4
    go_enter Try.func90, Try.ntmps90
    go_wp2_with (go_at_call 106; refine (HFIT.out _).mono ?_; rintro e w1 ⟨rfl, hb1⟩; have HB1 : Hid (Below w.heap.size w w1) := hb0.out.trans (hb1.mono (by simp; omega)); have hz1 := hb1.size; simp at hz1; have x0 : w1.cell? ⟨w.heap.size, 0, none⟩ = some (.int .i64 n) := (hb1.cell (p := ⟨w.heap.size, 0, none⟩) (by simp <;> omega)).trans (by simp [go_sem, *]); have x1 : w1.cell? ⟨w.heap.size, 1, none⟩ = some (.slice a1 len cap1) := (hb1.cell (p := ⟨w.heap.size, 1, none⟩) (by simp <;> omega)).trans (by simp [go_sem, *]); have x2 : w1.cell? ⟨w.heap.size, 2, none⟩ = some (.slice a2 ws.length cap2) := (hb1.cell (p := ⟨w.heap.size, 2, none⟩) (by simp <;> omega)).trans (by simp [go_sem, *]); have x3 : w1.cell? ⟨w.heap.size + 1, 1, none⟩ = some (.int .i64 f) := (hb1.cell (p := ⟨w.heap.size + 1, 1, none⟩) (by simp <;> omega)).trans (by simp [go_sem, *]); have x4 : w1.cell? ⟨w.heap.size + 1, 2, none⟩ = some (.int .i64 t) := (hb1.cell (p := ⟨w.heap.size + 1, 2, none⟩) (by simp <;> omega)).trans (by simp [go_sem, *]); clear hb1)
    go_region_held3 (fun w' => w'.cell? ⟨w.heap.size, 2, none⟩ = some (.slice a2 ws.length cap2) ∧ w'.cell? ⟨w.heap.size + 1, 1, none⟩ = some (.int .i64 f) ∧ w'.cell? ⟨w.heap.size + 1, 2, none⟩ = some (.int .i64 t)) (simp [*, go_sem])
      (first
        | (go_at_call 76; refine (HU.out _ HB1.out.drew).mono ?_; rintro r w2 ⟨rfl, hs2, hb2⟩; have hz2 := hb2.size; simp at hz2; have y0 : w2.cell? ⟨w.heap.size, 0, none⟩ = some (.int .i64 n) := (hb2.cell (p := ⟨w.heap.size, 0, none⟩) (by simp <;> omega)).trans (by simp [go_sem, *]); have y1 : w2.cell? ⟨w.heap.size, 1, none⟩ = some (.slice a1 len cap1) := (hb2.cell (p := ⟨w.heap.size, 1, none⟩) (by simp <;> omega)).trans (by simp [go_sem, *]); have y2 : w2.cell? ⟨w.heap.size, 2, none⟩ = some (.slice a2 ws.length cap2) := (hb2.cell (p := ⟨w.heap.size, 2, none⟩) (by simp <;> omega)).trans (by simp [go_sem, *]); have y3 : w2.cell? ⟨w.heap.size + 1, 1, none⟩ = some (.int .i64 f) := (hb2.cell (p := ⟨w.heap.size + 1, 1, none⟩) (by simp <;> omega)).trans (by simp [go_sem, *]); have y4 : w2.cell? ⟨w.heap.size + 1, 2, none⟩ = some (.int .i64 t) := (hb2.cell (p := ⟨w.heap.size + 1, 2, none⟩) (by simp <;> omega)).trans (by simp [go_sem, *]); have HS2 : Hid (SetAt w2 _ ws) := hs2; have HB2 : Hid (Below w.heap.size w w2) := HB1.out.drew.trans (hb2.mono (by show w.heap.size ≤ w1.heap.size; omega)); clear hs2 hb2)
        | (go_at_call 77; refine (HL.out _ _ HS2.out).mono ?_; rintro r w3 ⟨rfl, hb3⟩; have hz3 := hb3.size; have z0 : w3.cell? ⟨w.heap.size, 0, none⟩ = some (.int .i64 n) := (hb3.cell (p := ⟨w.heap.size, 0, none⟩) (by simp <;> omega)).trans (by simp [go_sem, *]); have z1 : w3.cell? ⟨w.heap.size, 1, none⟩ = some (.slice a1 len cap1) := (hb3.cell (p := ⟨w.heap.size, 1, none⟩) (by simp <;> omega)).trans (by simp [go_sem, *]); have z2 : w3.cell? ⟨w.heap.size, 2, none⟩ = some (.slice a2 ws.length cap2) := (hb3.cell (p := ⟨w.heap.size, 2, none⟩) (by simp <;> omega)).trans (by simp [go_sem, *]); have z3 : w3.cell? ⟨w.heap.size + 1, 1, none⟩ = some (.int .i64 f) := (hb3.cell (p := ⟨w.heap.size + 1, 1, none⟩) (by simp <;> omega)).trans (by simp [go_sem, *]); have z4 : w3.cell? ⟨w.heap.size + 1, 2, none⟩ = some (.int .i64 t) := (hb3.cell (p := ⟨w.heap.size + 1, 2, none⟩) (by simp <;> omega)).trans (by simp [go_sem, *]); have HB3 : Hid (Below w.heap.size w w3) := HB2.out.trans (hb3.mono (by omega)); clear hb3))
    all_goals go_wp2
    all_goals go_ret
    all_goals first | exact ⟨rfl, HB3.out⟩ | (exfalso; omega)
  · have HL : Hid (∀ (u : World) (b : Nat), SetAt u b ws → Calls Try.prog 77 #[.map (some b), .int .i64 f, .int .i64 t] u fun e w' => e = .returned (.bool true) ∧ Below u.heap.size u w') := fun u b h => by rw [← h2]; exact lose_any b ws f t u h hf ht
    simp only [if_true]
    clear h2 hf ht
    go_enter Try.func90, Try.ntmps90
    go_wp2_with (go_at_call 106; refine (HFIT.out _).mono ?_; rintro e w1 ⟨rfl, hb1⟩; have HB1 : Hid (Below w.heap.size w w1) := hb0.out.trans (hb1.mono (by simp; omega)); have hz1 := hb1.size; simp at hz1; have x0 : w1.cell? ⟨w.heap.size, 0, none⟩ = some (.int .i64 n) := (hb1.cell (p := ⟨w.heap.size, 0, none⟩) (by simp <;> omega)).trans (by simp [go_sem, *]); have x1 : w1.cell? ⟨w.heap.size, 1, none⟩ = some (.slice a1 len cap1) := (hb1.cell (p := ⟨w.heap.size, 1, none⟩) (by simp <;> omega)).trans (by simp [go_sem, *]); have x2 : w1.cell? ⟨w.heap.size, 2, none⟩ = some (.slice a2 ws.length cap2) := (hb1.cell (p := ⟨w.heap.size, 2, none⟩) (by simp <;> omega)).trans (by simp [go_sem, *]); have x3 : w1.cell? ⟨w.heap.size + 1, 1, none⟩ = some (.int .i64 f) := (hb1.cell (p := ⟨w.heap.size + 1, 1, none⟩) (by simp <;> omega)).trans (by simp [go_sem, *]); have x4 : w1.cell? ⟨w.heap.size + 1, 2, none⟩ = some (.int .i64 t) := (hb1.cell (p := ⟨w.heap.size + 1, 2, none⟩) (by simp <;> omega)).trans (by simp [go_sem, *]); clear hb1)
    go_region_held3 (fun w' => w'.cell? ⟨w.heap.size, 2, none⟩ = some (.slice a2 ws.length cap2) ∧ w'.cell? ⟨w.heap.size + 1, 1, none⟩ = some (.int .i64 f) ∧ w'.cell? ⟨w.heap.size + 1, 2, none⟩ = some (.int .i64 t)) (simp [*, go_sem])
      (first
        | (go_at_call 76; refine (HU.out _ HB1.out.drew).mono ?_; rintro r w2 ⟨rfl, hs2, hb2⟩; have hz2 := hb2.size; simp at hz2; have y0 : w2.cell? ⟨w.heap.size, 0, none⟩ = some (.int .i64 n) := (hb2.cell (p := ⟨w.heap.size, 0, none⟩) (by simp <;> omega)).trans (by simp [go_sem, *]); have y1 : w2.cell? ⟨w.heap.size, 1, none⟩ = some (.slice a1 len cap1) := (hb2.cell (p := ⟨w.heap.size, 1, none⟩) (by simp <;> omega)).trans (by simp [go_sem, *]); have y2 : w2.cell? ⟨w.heap.size, 2, none⟩ = some (.slice a2 ws.length cap2) := (hb2.cell (p := ⟨w.heap.size, 2, none⟩) (by simp <;> omega)).trans (by simp [go_sem, *]); have y3 : w2.cell? ⟨w.heap.size + 1, 1, none⟩ = some (.int .i64 f) := (hb2.cell (p := ⟨w.heap.size + 1, 1, none⟩) (by simp <;> omega)).trans (by simp [go_sem, *]); have y4 : w2.cell? ⟨w.heap.size + 1, 2, none⟩ = some (.int .i64 t) := (hb2.cell (p := ⟨w.heap.size + 1, 2, none⟩) (by simp <;> omega)).trans (by simp [go_sem, *]); have HS2 : Hid (SetAt w2 _ ws) := hs2; have HB2 : Hid (Below w.heap.size w w2) := HB1.out.drew.trans (hb2.mono (by show w.heap.size ≤ w1.heap.size; omega)); clear hs2 hb2)
        | (go_at_call 77; refine (HL.out _ _ HS2.out).mono ?_; rintro r w3 ⟨rfl, hb3⟩; have hz3 := hb3.size; have z0 : w3.cell? ⟨w.heap.size, 0, none⟩ = some (.int .i64 n) := (hb3.cell (p := ⟨w.heap.size, 0, none⟩) (by simp <;> omega)).trans (by simp [go_sem, *]); have z1 : w3.cell? ⟨w.heap.size, 1, none⟩ = some (.slice a1 len cap1) := (hb3.cell (p := ⟨w.heap.size, 1, none⟩) (by simp <;> omega)).trans (by simp [go_sem, *]); have z2 : w3.cell? ⟨w.heap.size, 2, none⟩ = some (.slice a2 ws.length cap2) := (hb3.cell (p := ⟨w.heap.size, 2, none⟩) (by simp <;> omega)).trans (by simp [go_sem, *]); have z3 : w3.cell? ⟨w.heap.size + 1, 1, none⟩ = some (.int .i64 f) := (hb3.cell (p := ⟨w.heap.size + 1, 1, none⟩) (by simp <;> omega)).trans (by simp [go_sem, *]); have z4 : w3.cell? ⟨w.heap.size + 1, 2, none⟩ = some (.int .i64 t) := (hb3.cell (p := ⟨w.heap.size + 1, 2, none⟩) (by simp <;> omega)).trans (by simp [go_sem, *]); have HB3 : Hid (Below w.heap.size w w3) := HB2.out.trans (hb3.mono (by omega)); clear hb3))
    all_goals go_wp2
    all_goals go_ret
    all_goals first | exact ⟨rfl, HB3.out⟩ | (exfalso; omega)
end Go.Proofs.Ytfcmffdljfljkaa

/-
  impl.putPacket.
-/
namespace Go.Proofs.Ytfcmffdljfljkaa
open Go.RowKit Go.Maps
set_option linter.unusedVariables false
set_option linter.unusedSimpArgs false

theorem OwnP.keep' {w w' : World} {B : Nat} {v : Value} {l : List Pk} (h : OwnP w B v l) (hk : ∀ k, (v.ownBlock = some k ∨ ∃ p ∈ l, p.2.ownBlock = some k) → w'.heap[k]? = w.heap[k]?) : OwnP w' B v l := by
  refine ⟨⟨h.row.1, ?_⟩, fun p hp => ⟨(h.bytes p hp).1.block fun k e => hk k (.inr ⟨p, hp, e⟩), (h.bytes p hp).2⟩, h.off, h.apart⟩
  rcases h.row.2 with h' | ⟨g, cap, cur, hv, hg, hh, r⟩
  · exact .inl h'
  · exact .inr ⟨g, cap, cur, hv, hg, (hk g (.inl (by rw [hv]; rfl))).trans hh, r⟩

set_option maxHeartbeats 8000000 in
set_option maxRecDepth 100000 in
theorem putPacket_any (q : Nat) (n : Int) (va : Option Addr) (vc : Nat) (L : List Pk) (ua : Option Addr) (uc : Nat) (ws : List Int) (i0 f t : Int) (a3 : Option Addr) (cap3 : Nat) (bs : List Int) (w : World) (B N : Nat)
    (hQ : Blk w q #[.int .i64 n, .slice va L.length vc, .slice ua ws.length uc] 29) (hO : OwnP w B (.slice va L.length vc) L) (hq1 : (Value.slice va L.length vc).ownBlock ≠ some q) (hq2 : ∀ p' ∈ L, p'.2.ownBlock ≠ some q) (hqN : q < N) (hB : B ≤ w.heap.size) (hI : Ix w (.slice ua ws.length uc) ws) (hr : ∀ y ∈ ws, 0 ≤ y ∧ y ≤ 1000) (hw : ws.length ≤ 1048576)
    (hp : Own w N (.slice a3 bs.length cap3) bs) (hBN : B ≤ N) (hN : (∀ k, (Value.slice va L.length vc).ownBlock = some k → k < N) ∧ ∀ p' ∈ L, ∀ k, p'.2.ownBlock = some k → k < N) (hbl : bs.length ≤ 1048576) (hn1 : 1 ≤ n) (hn2 : n ≤ 1099511627776) (hL : L.length ≤ 1048576) :
    Calls Try.prog 58 #[.pointer (some ⟨q, 0, none⟩), .agg #[.int .i64 i0, .int .i64 f, .int .i64 t, .slice a3 bs.length cap3]] w fun e w' => e = .returned (.int .i64 (putC n L.length ws f t bs.length)) ∧
      (putC n L.length ws f t bs.length ≠ 0 → Blk w' q #[.int .i64 n, .slice va L.length vc, .slice ua ws.length uc] 29 ∧ Below w.heap.size w w') ∧
      (putC n L.length ws f t bs.length = 0 → ∃ va' vc', Blk w' q #[.int .i64 (n + 1), .slice va' (L.length + 1) vc', .slice ua ws.length uc] 29 ∧ OwnP w' B (.slice va' (L.length + 1) vc') (L ++ [((⟨n, f, t, bs⟩ : Pkt), Value.slice a3 bs.length cap3)]) ∧ ((Value.slice va' (L.length + 1) vc').ownBlock = (Value.slice va L.length vc).ownBlock ∨ ∃ k, (Value.slice va' (L.length + 1) vc').ownBlock = some k ∧ w.heap.size ≤ k) ∧ Touched (fun k => k = q ∨ (Value.slice va L.length vc).ownBlock = some k) w w') := by
  have HC : Hid (∀ w', Below w.heap.size w w' → Calls Try.prog 90 #[.agg #[.int .i64 n, .slice va L.length vc, .slice ua ws.length uc], .agg #[.int .i64 n, .int .i64 f, .int .i64 t, .slice a3 bs.length cap3]] w' fun e w'' => e = .returned (.int .i64 (putC n L.length ws f t bs.length)) ∧ Below w'.heap.size w' w'') := fun w' hb => putCode_any n va L.length vc ua uc ws n f t a3 bs.length cap3 w' (hI.below hb) hr hw (by unfold maxLen; omega) hL
  have HQ : Hid (Blk w q #[.int .i64 n, .slice va L.length vc, .slice ua ws.length uc] 29) := hQ
  have HO : Hid (OwnP w B (.slice va L.length vc) L) := hO
  have HP : Hid (Own w N (.slice a3 bs.length cap3) bs) := hp
  have HN : Hid (_ ∧ _) := hN
  have hqw := hQ.lt
  have q0 : w.cell? ⟨q, 0, none⟩ = some (.int .i64 n) := hQ.cell 0
  have q1 : w.cell? ⟨q, 1, none⟩ = some (.slice va L.length vc) := hQ.cell 1
  have q2 : w.cell? ⟨q, 2, none⟩ = some (.slice ua ws.length uc) := hQ.cell 2
  have qa : ∀ (o : Obj) (j : Nat), (w.alloc o).cell? ⟨q, j, none⟩ = w.cell? ⟨q, j, none⟩ := fun o j => World.cell?_alloc_lt _ _ _ hqw
  have hne1 : ¬ q = w.heap.size := by omega
  have hne2 : ¬ w.heap.size = q := by omega
  have HNQ : Hid ((Value.slice va L.length vc).ownBlock ≠ some q) := hq1
  have HNL : Hid (∀ p' ∈ L, p'.2.ownBlock ≠ some q) := hq2
  have HNX : Hid ((Value.slice va L.length vc).ownBlock ≠ some w.heap.size) := fun e => by have := (World.ownsRow.lt hO.row _ e).2; omega
  clear hQ hO hp hI hN hq1 hq2
  by_cases hc : putC n L.length ws f t bs.length = 0
  case neg =>
    have hcd : (putC n L.length ws f t bs.length != 0) = true := by simpa using hc
    have HNC : Hid (¬ putC n L.length ws f t bs.length = 0) := hc
    clear hc
    generalize putC n L.length ws f t bs.length = c at *
    go_enter Try.func58, Try.ntmps58
    go_wp2
    go_region_held3 (fun w' => w'.cell? ⟨q, 0, none⟩ = some (.int .i64 n) ∧ w'.cell? ⟨q, 1, none⟩ = some (.slice va L.length vc) ∧ w'.cell? ⟨q, 2, none⟩ = some (.slice ua ws.length uc) ∧ w'.cell? ⟨w.heap.size, 0, none⟩ = some (.int .i64 n) ∧ w'.cell? ⟨w.heap.size, 1, none⟩ = some (.int .i64 f) ∧ w'.cell? ⟨w.heap.size, 2, none⟩ = some (.int .i64 t) ∧ w'.cell? ⟨w.heap.size, 3, none⟩ = some (.slice a3 bs.length cap3)) (simp [*, go_sem])
      (first
        | (go_at_call 90; refine (HC.out _ (((Below.refl _ _).alloc (Nat.le_refl _) _).drew)).mono ?_; rintro r w1 ⟨rfl, hb1⟩; have hz1 := hb1.size; simp at hz1; have yq0 : w1.cell? ⟨q, 0, none⟩ = some (.int .i64 n) := (hb1.cell (p := ⟨q, 0, none⟩) (by simp <;> omega)).trans (by simp [go_sem, *]); have yq1 : w1.cell? ⟨q, 1, none⟩ = some (.slice va L.length vc) := (hb1.cell (p := ⟨q, 1, none⟩) (by simp <;> omega)).trans (by simp [go_sem, *]); have yq2 : w1.cell? ⟨q, 2, none⟩ = some (.slice ua ws.length uc) := (hb1.cell (p := ⟨q, 2, none⟩) (by simp <;> omega)).trans (by simp [go_sem, *]); have yx0 : w1.cell? ⟨w.heap.size, 0, none⟩ = some (.int .i64 n) := (hb1.cell (p := ⟨w.heap.size, 0, none⟩) (by simp <;> omega)).trans (by simp [go_sem, *]); have yx1 : w1.cell? ⟨w.heap.size, 1, none⟩ = some (.int .i64 f) := (hb1.cell (p := ⟨w.heap.size, 1, none⟩) (by simp <;> omega)).trans (by simp [go_sem, *]); have yx2 : w1.cell? ⟨w.heap.size, 2, none⟩ = some (.int .i64 t) := (hb1.cell (p := ⟨w.heap.size, 2, none⟩) (by simp <;> omega)).trans (by simp [go_sem, *]); have yx3 : w1.cell? ⟨w.heap.size, 3, none⟩ = some (.slice a3 bs.length cap3) := (hb1.cell (p := ⟨w.heap.size, 3, none⟩) (by simp <;> omega)).trans (by simp [go_sem, *]); have HB1 : Hid (Below _ _ w1) := hb1; clear hb1))
    all_goals go_wp2
    all_goals go_ret
    all_goals exact ⟨rfl, fun _ => ⟨(HQ.out.alloc _).drew.below HB1.out (by simp; omega), ((Below.refl _ _).alloc (Nat.le_refl _) _).drew.trans (HB1.out.mono (by simp))⟩, fun h => absurd h HNC.out⟩
  case pos =>
    rw [hc] at HC ⊢
    clear hc
    go_enter Try.func58, Try.ntmps58
    go_wp2
    go_region_held3 (fun w' => w'.cell? ⟨q, 0, none⟩ = some (.int .i64 n) ∧ w'.cell? ⟨q, 1, none⟩ = some (.slice va L.length vc) ∧ w'.cell? ⟨q, 2, none⟩ = some (.slice ua ws.length uc) ∧ w'.cell? ⟨w.heap.size, 0, none⟩ = some (.int .i64 n) ∧ w'.cell? ⟨w.heap.size, 1, none⟩ = some (.int .i64 f) ∧ w'.cell? ⟨w.heap.size, 2, none⟩ = some (.int .i64 t) ∧ w'.cell? ⟨w.heap.size, 3, none⟩ = some (.slice a3 bs.length cap3)) (simp [*, go_sem])
      (first
        | (go_at_call 90; refine (HC.out _ (((Below.refl _ _).alloc (Nat.le_refl _) _).drew)).mono ?_; rintro r w1 ⟨rfl, hb1⟩; have hz1 := hb1.size; simp at hz1; have yq0 : w1.cell? ⟨q, 0, none⟩ = some (.int .i64 n) := (hb1.cell (p := ⟨q, 0, none⟩) (by simp <;> omega)).trans (by simp [go_sem, *]); have yq1 : w1.cell? ⟨q, 1, none⟩ = some (.slice va L.length vc) := (hb1.cell (p := ⟨q, 1, none⟩) (by simp <;> omega)).trans (by simp [go_sem, *]); have yq2 : w1.cell? ⟨q, 2, none⟩ = some (.slice ua ws.length uc) := (hb1.cell (p := ⟨q, 2, none⟩) (by simp <;> omega)).trans (by simp [go_sem, *]); have yx0 : w1.cell? ⟨w.heap.size, 0, none⟩ = some (.int .i64 n) := (hb1.cell (p := ⟨w.heap.size, 0, none⟩) (by simp <;> omega)).trans (by simp [go_sem, *]); have yx1 : w1.cell? ⟨w.heap.size, 1, none⟩ = some (.int .i64 f) := (hb1.cell (p := ⟨w.heap.size, 1, none⟩) (by simp <;> omega)).trans (by simp [go_sem, *]); have yx2 : w1.cell? ⟨w.heap.size, 2, none⟩ = some (.int .i64 t) := (hb1.cell (p := ⟨w.heap.size, 2, none⟩) (by simp <;> omega)).trans (by simp [go_sem, *]); have yx3 : w1.cell? ⟨w.heap.size, 3, none⟩ = some (.slice a3 bs.length cap3) := (hb1.cell (p := ⟨w.heap.size, 3, none⟩) (by simp <;> omega)).trans (by simp [go_sem, *]); have HB1 : Hid (Below _ _ w1) := hb1; clear hb1))
    all_goals go_wp2
    all_goals
      have ya : ∀ (o : Obj) (j : Nat), (w1.alloc o).cell? ⟨q, j, none⟩ = w1.cell? ⟨q, j, none⟩ := fun o j => World.cell?_alloc_lt _ _ _ (by show q < w1.heap.size; omega)
    all_goals
      have yb : ∀ (o : Obj) (j : Nat), (w1.alloc o).cell? ⟨w.heap.size, j, none⟩ = w1.cell? ⟨w.heap.size, j, none⟩ := fun o j => World.cell?_alloc_lt _ _ _ (by show w.heap.size < w1.heap.size; omega)
    all_goals go_region_law
      (first
        | (refine stp_appendP rfl (.tmp 23) (.tmp 25) rfl ((⟨n, f, t, bs⟩ : Pkt), Value.slice a3 bs.length cap3) (l := L) (B := B) (N := N) (HO.out.below (((((Below.refl _ _).alloc (Nat.le_refl _) _).drew.trans (HB1.out.mono (by simp))).drew).alloc (by show w.heap.size ≤ w1.heap.size; omega) _)) rfl w1.heap.size 1 (pkAt_new _ _ _ _ _ _) rfl (HP.out.below (((((Below.refl _ _).alloc (Nat.le_refl _) _).drew.trans (HB1.out.mono (by simp))).drew).alloc (by show w.heap.size ≤ w1.heap.size; omega) _)) (by show bs.length ≤ maxLen; unfold maxLen; omega) hBN HN.out rfl (by omega) (by simp; omega) ?_; intro v3 w3 ho3 hg3; obtain ⟨a5, cap5, rfl⟩ := ho3.shape; have tq0 : w3.cell? ⟨q, 0, none⟩ = some (.int .i64 n) := (hg3.cell (by simp <;> omega) HNQ.out).trans (by simp [go_sem, *]); have tq1 : w3.cell? ⟨q, 1, none⟩ = some (.slice va L.length vc) := (hg3.cell (by simp <;> omega) HNQ.out).trans (by simp [go_sem, *]); have tq2 : w3.cell? ⟨q, 2, none⟩ = some (.slice ua ws.length uc) := (hg3.cell (by simp <;> omega) HNQ.out).trans (by simp [go_sem, *]); have tx0 : w3.cell? ⟨w.heap.size, 0, none⟩ = some (.int .i64 n) := (hg3.cell (by simp <;> omega) HNX.out).trans (by simp [go_sem, *]); have tx1 : w3.cell? ⟨w.heap.size, 1, none⟩ = some (.int .i64 f) := (hg3.cell (by simp <;> omega) HNX.out).trans (by simp [go_sem, *]); have tx2 : w3.cell? ⟨w.heap.size, 2, none⟩ = some (.int .i64 t) := (hg3.cell (by simp <;> omega) HNX.out).trans (by simp [go_sem, *]); have tx3 : w3.cell? ⟨w.heap.size, 3, none⟩ = some (.slice a3 bs.length cap3) := (hg3.cell (by simp <;> omega) HNX.out).trans (by simp [go_sem, *]); have HP3 : Hid (Blk w3 q #[.int .i64 n, .slice va L.length vc, .slice ua ws.length uc] 29) := ((((HQ.out.alloc _).drew.below HB1.out (by simp; omega)).drew.alloc _)).grewP hg3 HNQ.out; have tpf : ∀ j, w3.frozen? ⟨q, j, none⟩ = false := HP3.out.free; have HO3 : Hid (OwnP w3 B (.slice a5 (L ++ [((⟨n, f, t, bs⟩ : Pkt), Value.slice a3 bs.length cap3)]).length cap5) (L ++ [((⟨n, f, t, bs⟩ : Pkt), Value.slice a3 bs.length cap3)])) := ho3; have HG3 : Hid (Grew _ (.slice va L.length vc) w3 _) := hg3; clear ho3 hg3))
    all_goals go_wp2
    all_goals go_ret
    all_goals
      refine ⟨rfl, fun h => absurd rfl h, fun _ => ⟨a5, cap5, ?_, ?_, ?_, ?_⟩⟩
    all_goals first
      | (have h2 := (HP3.out.set 1 (.slice a5 (L.length + 1) cap5)).set 0 (.int .i64 (n + 1)); exact h2)
      | (have h1 := HO3.out; have hfar := HG3.out.far (k := q) (by simp; omega) HNQ.out; rw [List.length_append] at h1 hfar; refine h1.keep' fun j hj => ?_; have hjq : j ≠ q := (by rintro rfl; rcases hj with hj | ⟨p', hp', e'⟩; exact hfar hj; rcases List.mem_append.1 hp' with hp' | hp'; exact HNL.out p' hp' e'; rw [List.mem_singleton.1 hp'] at e'; have := (HP.out.2.lt _ e').1; omega); rw [Below.heap_setCell _ _ _ _ (by simp only []; exact hjq), Below.heap_setCell _ _ _ _ (by simp only []; exact hjq)])
      | (have h7 := HG3.out.at'; rw [List.length_append] at h7; exact h7.imp id fun ⟨k, e, hk⟩ => ⟨k, e, Nat.le_trans (by simp; omega) hk⟩)
      | (have hs1 := HB1.out.size; have hs3 := HG3.out.g.size; simp at hs1 hs3; refine ⟨HG3.out.g.os.trans HB1.out.os, HG3.out.g.tape.trans HB1.out.tape, HG3.out.g.output.trans HB1.out.output, (by simp [World.setCell]; omega), fun k hk hnk => ?_⟩; rw [Below.heap_setCell _ _ _ _ (by simp only []; exact fun e => hnk (.inl e)), Below.heap_setCell _ _ _ _ (by simp only []; exact fun e => hnk (.inl e)), HG3.out.block (by simp; omega) (fun e => hnk (.inr e))]; exact (Below.heap_alloc _ _ k (by show k < w1.heap.size; omega)).trans ((HB1.out.block k (by simp; omega)).trans (Below.heap_alloc w _ k hk)))
end Go.Proofs.Ytfcmffdljfljkaa

/-
  impl.mod and spec.l1mod: the document's mod.
-/
namespace Go.Proofs.Ytfcmffdljfljkaa
open Go.RowKit
set_option linter.unusedVariables false

theorem tmod_lo (x n : Int) (hn : 0 < n) : -n < x.tmod n := Int.lt_tmod_of_pos x hn
theorem tmod_hi (x n : Int) (hn : 0 < n) : x.tmod n < n := Int.tmod_lt_of_pos x hn
theorem tmod_neg (x n : Int) (hn : 0 < n) (h : x.tmod n < 0) : x.tmod n + n = x % n := by
  have e := Int.tmod_add_mul_tdiv x n
  have b1 := tmod_lo x n hn
  have hx : x = (x.tmod n + n) + n * (x.tdiv n - 1) := by rw [Int.mul_sub]; omega
  have : x % n = ((x.tmod n + n) + n * (x.tdiv n - 1)) % n := by rw [← hx]
  rw [this, Int.add_mul_emod_self_left, Int.emod_eq_of_lt] <;> omega
theorem tmod_pos (x n : Int) (hn : 0 < n) (h : ¬ x.tmod n < 0) : x.tmod n = x % n := by
  have e := Int.tmod_add_mul_tdiv x n
  have b2 := tmod_hi x n hn
  have : x % n = (x.tmod n + n * x.tdiv n) % n := by rw [e]
  rw [this, Int.add_mul_emod_self_left, Int.emod_eq_of_lt] <;> omega

/-- the document's mod, as a name that the walk leaves whole -/
def modI (x n : Int) : Int := x % n
theorem modI_ge (x n : Int) (hn : 0 < n) : 0 ≤ modI x n := Int.emod_nonneg _ (by omega)
theorem modI_lt (x n : Int) (hn : 0 < n) : modI x n < n := Int.emod_lt_of_pos _ hn

set_option maxHeartbeats 400000 in
theorem mod_any (x n : Int) (hn : 0 < n) (hN : n < 2 ^ 62) (hx : -(2 ^ 63) ≤ x) (hX : x < 2 ^ 63) (w : World) :
    Calls Try.prog 103 #[.int .i64 x, .int .i64 n] w fun e w' => e = .returned (.int .i64 (modI x n)) ∧ w' = w := by
  have b1 := tmod_lo x n hn
  have b2 := tmod_hi x n hn
  by_cases h : x.tmod n < 0
  · have hb := tmod_neg x n hn h
    unfold modI; rw [← hb]
    go_enter Try.func103, Try.ntmps103
    go_wp2
    go_ret
    exact ⟨by simp; omega, rfl⟩
  · have hb := tmod_pos x n hn h
    unfold modI; rw [← hb]
    go_enter Try.func103, Try.ntmps103
    go_wp2
    go_ret
    exact ⟨by simp, rfl⟩
end Go.Proofs.Ytfcmffdljfljkaa

/-
  spec.l1mod.
-/
namespace Go.Proofs.Ytfcmffdljfljkaa
open Go.RowKit
set_option linter.unusedVariables false

set_option maxHeartbeats 400000 in
theorem l1mod_any (x n : Int) (hn : 0 < n) (hN : n < 2 ^ 62) (hx : -(2 ^ 63) ≤ x) (hX : x < 2 ^ 63) (w : World) :
    Calls Try.prog 78 #[.int .i64 x, .int .i64 n] w fun e w' => e = .returned (.int .i64 (modI x n)) ∧ w' = w := by
  have b1 := tmod_lo x n hn
  have b2 := tmod_hi x n hn
  by_cases h : x.tmod n < 0
  · have hb := tmod_neg x n hn h
    unfold modI; rw [← hb]
    go_enter Try.func78, Try.ntmps78
    go_wp2
    go_ret
    exact ⟨by simp; omega, rfl⟩
  · have hb := tmod_pos x n hn h
    unfold modI; rw [← hb]
    go_enter Try.func78, Try.ntmps78
    go_wp2
    go_ret
    exact ⟨by simp, rfl⟩

end Go.Proofs.Ytfcmffdljfljkaa

/-
  impl.takePacket.
-/
namespace Go.Proofs.Ytfcmffdljfljkaa
open Go.RowKit
set_option linter.unusedVariables false
set_option linter.unusedSimpArgs false

theorem touched_set (g : Nat) : ∀ (vs : List Value) (o : Nat) (w : World), Touched (fun k => k = g) w (w.setCells g o vs)
  | [], _, w => Touched.refl _ w
  | v :: r, o, w => (Touched.rows (grown_set w g o v (some g) rfl) (fun k e => by injection e with e; exact e.symm)).trans (touched_set g r (o + 1) _)
theorem Own.oneCell {w : World} {B : Nat} {v : Value} {l : List Int} (h : Own w B v l) : v.oneCell' = true := by
  obtain ⟨a, cap, rfl⟩ := h.shape
  rfl
theorem OwnP.caps {w : World} {B g cap : Nat} {L : List Pk} (h : OwnP w B (.slice (some ⟨g, 0, none⟩) L.length cap) L) : L.length ≤ cap ∧ cap ≤ maxLen := by
  rcases h.row.2 with ⟨e, _⟩ | ⟨g', cap', cur, e, _, _, h1, h2, _⟩
  · cases e
  · injection e with _ _ e3
    subst e3
    exact ⟨h1, h2⟩
theorem delete_t (g cap B : Nat) (L : List Pk) (i : Nat) (hi : i < L.length) (w : World) (hO : OwnP w B (.slice (some ⟨g, 0, none⟩) L.length cap) L) (z : Int) (hz : z = (i : Int) + 1) :
    Calls Try.prog 104 #[.slice (some ⟨g, 0, none⟩) L.length cap, .int .i64 i, .int .i64 z] w fun e w' => e = .returned (.slice (some ⟨g, 0, none⟩) (L.length - 1) cap) ∧ (∀ j (h : j < (L.eraseIdx i).length), PkAt w' g (j * 4) (L.eraseIdx i)[j]) ∧ w'.there g 0 ((L.length - 1) * 4) ∧ Touched (fun k => k = g) w w' := by
  refine (delete_any g cap L i hi hO.caps.1 hO.caps.2 w hO.there (fun j hj => hO.at_ j hj) (fun p hp => (hO.bytes p hp).1.oneCell) z hz).mono ?_
  rintro e w' ⟨rfl, rfl⟩
  have hO' : OwnP w.drew B (.slice (some ⟨g, 0, none⟩) L.length cap) L := hO.below (Below.refl _ _).drew
  refine ⟨rfl, del_at hi hO'.there (fun j hj => hO'.at_ j hj), ?_, ?_⟩
  · intro j hj
    exact World.there_setCells (World.there_setCells hO'.there _ _ _) _ _ _ j (by omega)
  · exact (Touched.of_below (Below.refl _ _).drew).trans ((touched_set g _ _ _).trans (touched_set g _ _ _))

set_option maxHeartbeats 4000000 in
set_option maxRecDepth 100000 in
theorem takePacket_any (q : Nat) (n : Int) (g cap : Nat) (L : List Pk) (ua : Option Addr) (um uc : Nat) (pick : Int) (keep : Bool) (w : World) (B : Nat)
    (hQ : Blk w q #[.int .i64 n, .slice (some ⟨g, 0, none⟩) L.length cap, .slice ua um uc] 29) (hO : OwnP w B (.slice (some ⟨g, 0, none⟩) L.length cap) L) (hqg : g ≠ q) (hL : 0 < L.length) (hL' : L.length ≤ 1048576) (hx : -(2 ^ 63) ≤ pick) (hX : pick < 2 ^ 63)
    (i : Nat) (hi : i < L.length) (hmod : modI pick L.length = (i : Int)) (a4 : Option Addr) (c4 : Nat) (he : L[i].2 = .slice a4 L[i].1.bs.length c4) :
    Calls Try.prog 75 #[.pointer (some ⟨q, 0, none⟩), .int .i64 pick, .bool keep] w fun e w' => e = .returned (.agg #[.int .i64 L[i].1.id, .int .i64 L[i].1.fr, .int .i64 L[i].1.tq, .slice a4 L[i].1.bs.length c4]) ∧
      (keep = true → Below w.heap.size w w') ∧
      (keep = false → Blk w' q #[.int .i64 n, .slice (some ⟨g, 0, none⟩) (L.length - 1) cap, .slice ua um uc] 29 ∧ (∀ j (h : j < (L.eraseIdx i).length), PkAt w' g (j * 4) (L.eraseIdx i)[j]) ∧ w'.there g 0 ((L.length - 1) * 4) ∧ Touched (fun k => k = q ∨ k = g) w w') := by
  have HM : Hid (∀ w', Calls Try.prog 103 #[.int .i64 pick, .int .i64 L.length] w' fun e w'' => e = .returned (.int .i64 i) ∧ w'' = w') := fun w' => by
    rw [← hmod]; exact mod_any pick L.length (by omega) (by omega) hx hX w'
  have HD : Hid (∀ w', Below w.heap.size w w' → ∀ z : Int, z = (i : Int) + 1 → Calls Try.prog 104 #[.slice (some ⟨g, 0, none⟩) L.length cap, .int .i64 i, .int .i64 z] w' fun e w'' => e = .returned (.slice (some ⟨g, 0, none⟩) (L.length - 1) cap) ∧ (∀ j (h : j < (L.eraseIdx i).length), PkAt w'' g (j * 4) (L.eraseIdx i)[j]) ∧ w''.there g 0 ((L.length - 1) * 4) ∧ Touched (fun k => k = g) w' w'') := fun w' hb z hz => delete_t g cap B L i hi w' (hO.below hb) z hz
  obtain ⟨c0, c1, c2, c3⟩ := hO.at_ i hi
  rw [he] at c3
  have hgw : g < w.heap.size := (World.ownsRow.lt hO.row g rfl).2
  have hqw := hQ.lt
  have HQ : Hid (Blk w q #[.int .i64 n, .slice (some ⟨g, 0, none⟩) L.length cap, .slice ua um uc] 29) := hQ
  have q0 : w.cell? ⟨q, 0, none⟩ = some (.int .i64 n) := hQ.cell 0
  have q1 : w.cell? ⟨q, 1, none⟩ = some (.slice (some ⟨g, 0, none⟩) L.length cap) := hQ.cell 1
  have q2 : w.cell? ⟨q, 2, none⟩ = some (.slice ua um uc) := hQ.cell 2
  have qa : ∀ (o : Obj) (j : Nat), (w.alloc o).cell? ⟨q, j, none⟩ = w.cell? ⟨q, j, none⟩ := fun o j => World.cell?_alloc_lt _ _ _ hqw
  have ga : ∀ (o : Obj) (j : Nat), (w.alloc o).cell? ⟨g, j, none⟩ = w.cell? ⟨g, j, none⟩ := fun o j => World.cell?_alloc_lt _ _ _ hgw
  have qb : ∀ (o o' : Obj) (j : Nat), ((w.alloc o).alloc o').cell? ⟨q, j, none⟩ = w.cell? ⟨q, j, none⟩ := fun o o' j => by rw [World.cell?_alloc_lt _ _ _ (by simp; omega), qa]
  have hl63 : L.length < 9223372036854775808 := by omega
  clear hQ he hO hmod
  generalize L[i].1 = pk at *
  cases keep
  case true =>
    go_enter Try.func75, Try.ntmps75
    go_wp2_with (go_at_call 103; refine (HM.out _).mono ?_; rintro e w1 ⟨rfl, rfl⟩)
    refine bodyPost_ret (v := .agg #[.int .i64 pk.id, .int .i64 pk.fr, .int .i64 pk.tq, .slice a4 pk.bs.length c4]) (by simp [results, Try.results75, go_sem, *]) rfl ⟨rfl, fun _ => ?_, fun h => absurd h (by simp)⟩
    exact ((Below.refl _ _).alloc (Nat.le_refl _) _).alloc (by simp) _
  case false =>
    generalize hLe : L.eraseIdx i = Le at *
    go_enter Try.func75, Try.ntmps75
    go_wp2_with (first
      | (go_at_call 103; refine (HM.out _).mono ?_; rintro e w1 ⟨rfl, rfl⟩)
      | (go_at_call 104; refine (HD.out _ (((Below.refl _ _).alloc (Nat.le_refl _) _).alloc (by simp) _) _ (by omega)).mono ?_; rintro e w2 ⟨rfl, hp2, hth2, ht2⟩; have HP2 : Hid (∀ j (h : j < Le.length), PkAt w2 g (j * 4) Le[j]) := hp2; have HH2 : Hid (w2.there g 0 ((L.length - 1) * 4)) := hth2; have HT2 : Hid (Touched (fun k => k = g) _ w2) := ht2; have BQ2 : Hid (Blk w2 q #[.int .i64 n, .slice (some ⟨g, 0, none⟩) L.length cap, .slice ua um uc] 29) := ((HQ.out.alloc _).alloc _).keep (ht2.block q (by simp; omega) (fun e => hqg e.symm)); have BR2 : Hid (Blk w2 w.heap.size #[.int .i64 0, .int .i64 0, .int .i64 0, .slice none 0 0] 60) := ((Blk.new w _ _).alloc _).keep (ht2.block w.heap.size (by simp; omega) (fun e => by omega)); have BP2 : Hid (Blk w2 (w.heap.size + 1) #[.int .i64 pk.id, .int .i64 pk.fr, .int .i64 pk.tq, .slice a4 pk.bs.length c4] 60) := (Blk.new' (w.alloc _) _ _ (by simp)).keep (ht2.block (w.heap.size + 1) (by simp) (fun e => by omega)); have y1 : w2.cell? ⟨q, 1, none⟩ = some (.slice (some ⟨g, 0, none⟩) L.length cap) := BQ2.out.cell 1; have fq := BQ2.out.free; have r0 : w2.cell? ⟨w.heap.size, 0, none⟩ = some (.int .i64 0) := BR2.out.cell 0; have r1 : w2.cell? ⟨w.heap.size, 1, none⟩ = some (.int .i64 0) := BR2.out.cell 1; have r2 : w2.cell? ⟨w.heap.size, 2, none⟩ = some (.int .i64 0) := BR2.out.cell 2; have r3 : w2.cell? ⟨w.heap.size, 3, none⟩ = some (.slice none 0 0) := BR2.out.cell 3; have fr := BR2.out.free; have p0 : w2.cell? ⟨w.heap.size + 1, 0, none⟩ = some (.int .i64 pk.id) := BP2.out.cell 0; have p1 : w2.cell? ⟨w.heap.size + 1, 1, none⟩ = some (.int .i64 pk.fr) := BP2.out.cell 1; have p2 : w2.cell? ⟨w.heap.size + 1, 2, none⟩ = some (.int .i64 pk.tq) := BP2.out.cell 2; have p3 : w2.cell? ⟨w.heap.size + 1, 3, none⟩ = some (.slice a4 pk.bs.length c4) := BP2.out.cell 3; have hq1 : ¬ q = w.heap.size := (by omega); have hq2 : ¬ q = w.heap.size + 1 := (by omega); have hz2 : w.heap.size + 2 ≤ w2.heap.size := (by have := ht2.size; simp at this; omega); clear hp2 hth2 ht2))
    refine bodyPost_ret (v := .agg #[.int .i64 pk.id, .int .i64 pk.fr, .int .i64 pk.tq, .slice a4 pk.bs.length c4]) (by simp [results, Try.results75, go_sem, *]) rfl ⟨rfl, ⟨fun h => absurd h (by simp), fun _ => ⟨?_, ?_, ?_, ?_⟩⟩⟩
    · have h1 := BQ2.out.set 1 (.slice (some ⟨g, 0, none⟩) (L.length - 1) cap)
      exact (((h1.set_other _ (by simpa using hq1)).set_other _ (by simpa using hq1)).set_other _ (by simpa using hq1)).set_other _ (by simpa using hq1)
    · intro j hj
      exact (HP2.out j hj).block (by rw [Below.heap_setCell _ _ _ _ (by simp only []; omega), Below.heap_setCell _ _ _ _ (by simp only []; omega), Below.heap_setCell _ _ _ _ (by simp only []; omega), Below.heap_setCell _ _ _ _ (by simp only []; omega), Below.heap_setCell _ _ _ _ (by simp only []; omega)])
    · exact there_block' HH2.out (by rw [Below.heap_setCell _ _ _ _ (by simp only []; omega), Below.heap_setCell _ _ _ _ (by simp only []; omega), Below.heap_setCell _ _ _ _ (by simp only []; omega), Below.heap_setCell _ _ _ _ (by simp only []; omega), Below.heap_setCell _ _ _ _ (by simp only []; omega)])
    · have hs := HT2.out.size
      simp at hs
      refine ⟨HT2.out.os, HT2.out.tape, HT2.out.output, by simp [World.setCell]; omega, fun k hk hn => ?_⟩
      have hn1 : k ≠ q := fun e => hn (.inl e)
      have hn2 : k ≠ g := fun e => hn (.inr e)
      rw [Below.heap_setCell _ _ _ _ (by simp only []; omega), Below.heap_setCell _ _ _ _ (by simp only []; omega), Below.heap_setCell _ _ _ _ (by simp only []; omega), Below.heap_setCell _ _ _ _ (by simp only []; omega), Below.heap_setCell _ _ _ _ (by simp only []; omega), HT2.out.block k (by simp; omega) hn2, Below.heap_alloc _ _ k (by simp; omega), Below.heap_alloc w _ k hk]
end Go.Proofs.Ytfcmffdljfljkaa
