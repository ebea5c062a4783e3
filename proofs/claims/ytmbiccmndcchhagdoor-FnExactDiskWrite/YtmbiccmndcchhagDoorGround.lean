import Derived.Test.YtmbiccmndcchhagDoorRows
import Derived.WalkKit
import Derived.WalkSpells
import Derived.RowKit3
import Derived.Below
import Derived.Deep.Light
import Derived.Deep.QuietTactic
import Derived.BigQuiet
import Derived.Laws.OwnMore
import Derived.Laws.BitsAllLaws
import Derived.OwnWalk
import Derived.Lib.AppendStr
import Derived.Maps.AppendAt
import Derived.Lib.SliceRun
/-
  Small things that every walk wants.
-/
namespace Go.Proofs.YtmbiccmndcchhagDoor
open Go.RowKit
set_option linter.unusedVariables false

theorem bcell {W w1 : World} (hb : Below W.heap.size W w1) : (∀ b o, b < W.heap.size → w1.cell? ⟨b, o, none⟩ = W.cell? ⟨b, o, none⟩) ∧ (∀ b o, b < W.heap.size → w1.frozen? ⟨b, o, none⟩ = W.frozen? ⟨b, o, none⟩) :=
  ⟨fun b o h => hb.cell (p := ⟨b, o, none⟩) h, fun b o h => hb.frozen (p := ⟨b, o, none⟩) h⟩

theorem ret_int {k : IntKind} {a b : Int} (h : a = b) : Ending.returned (.int k a) = .returned (.int k b) := by rw [h]

theorem ifc {α : Type} {p q : Prop} [Decidable p] [Decidable q] {a b c d : α} (h : p ↔ q) (h1 : a = c) (h2 : b = d) : (if p then a else b) = if q then c else d := by
  subst h1 h2
  by_cases hp : p
  · rw [if_pos hp, if_pos (h.1 hp)]
  · rw [if_neg hp, if_neg (fun hq => hp (h.2 hq))]
end Go.Proofs.YtmbiccmndcchhagDoor

/-
  Byte slices: what a slice value holds; laws.toByteS, laws.eqByteS.
-/
namespace Go.Proofs.YtmbiccmndcchhagDoor
open Go.RowKit
set_option linter.unusedVariables false

/-- the slice value v holds, in the world w, the bytes l -/
def Bs (w : World) (v : Value) (l : List Int) : Prop :=
  l.length ≤ maxLen ∧ (∀ x ∈ l, 0 ≤ x ∧ x ≤ 255) ∧
  ∃ a cap, v = .slice a l.length cap ∧ ∀ i, i < l.length → ∃ b off, a = some ⟨b, off, none⟩ ∧ ∀ j, j < l.length → w.cell? ⟨b, off + j, none⟩ = some (.int .u8 (l[j]?.getD 0))

theorem byte_at {l : List Int} (h : ∀ x ∈ l, 0 ≤ x ∧ x ≤ 255) (k : Nat) : 0 ≤ l[k]?.getD 0 ∧ l[k]?.getD 0 ≤ 255 := by
  rcases Nat.lt_or_ge k l.length with hk | hk
  · rw [List.getElem?_eq_getElem hk]; exact h _ (List.getElem_mem hk)
  · rw [List.getElem?_eq_none hk]; simp

theorem cell_lt {w : World} {b o : Nat} {v : Value} (h : w.cell? ⟨b, o, none⟩ = some v) : b < w.heap.size := by
  rcases Nat.lt_or_ge b w.heap.size with h' | h'
  · exact h'
  · rw [World.cell?, Array.getElem?_eq_none h'] at h; simp at h

theorem Bs.below {w w' : World} {v : Value} {l : List Int} (h : Bs w v l) (hb : Below w.heap.size w w') : Bs w' v l := by
  obtain ⟨hl, h8, a, cap, rfl, hc⟩ := h
  refine ⟨hl, h8, a, cap, rfl, fun i hi => ?_⟩
  obtain ⟨b, off, rfl, hj⟩ := hc i hi
  exact ⟨b, off, rfl, fun j hj' => by rw [hb.cell (cell_lt (hj j hj'))]; exact hj j hj'⟩


set_option maxHeartbeats 1000000 in
/-- two slices of the same bytes -/
theorem eqByteS_same (v u : Value) (l : List Int) (w : World) (hv : Bs w v l) (hu : Bs w u l) :
    Calls Tryd.prog 49 #[v, u] w fun e w' => e = .returned (.bool true) ∧ Below w.heap.size w w' := by
  obtain ⟨hl, h8, a, cap, rfl, hc⟩ := hv
  obtain ⟨_, _, a', cap', rfl, hc'⟩ := hu
  unfold maxLen at hl
  go_enter Tryd.func49, Tryd.ntmps49
  go_wp2
  go_loopw [5] (fun i wr => ∃ k : Nat, k ≤ l.length ∧ i = .int .i64 k ∧ ∃ n, wr = w.drewN n) (fun i _ => l.length - (intOf i).toNat)
  case atStart => exact ⟨0, Nat.zero_le _, rfl, 0, rfl⟩
  case round =>
    obtain ⟨k, hk, rfl, n, rfl⟩ := hrel
    by_cases hlt : k < l.length
    · obtain ⟨b, off, rfl, hcell⟩ := hc k hlt
      obtain ⟨b', off', rfl, hcell'⟩ := hc' k hlt
      have hck := hcell k hlt
      have hck' := hcell' k hlt
      clear hcell hcell' hc hc'
      go_wp2
      go_quiet (fail)
      go_wp2
      go_roundw
      case rel => exact ⟨k + 1, by omega, by go_num, _, rfl⟩
      case measure => simp [intOf]; omega
    · have e : k = l.length := by omega
      subst e
      go_wp2
      go_ret
      exact ⟨rfl, rfl, rfl, rfl, Nat.le_refl _, fun _ _ => rfl⟩
end Go.Proofs.YtmbiccmndcchhagDoor

/-
  Byte slices that the call itself owns; append to them.
-/
namespace Go.Proofs.YtmbiccmndcchhagDoor
open Go.RowKit
set_option linter.unusedVariables false

theorem infoU8 : (Tryd.prog.info? 5).map (fun i => (i.zero, i.size, i.bytes)) = some (some (.int .u8 0), 1, 1) := by kernel_rfl

/-- the slice value v, in memory from block B on that is the call's own, holds the bytes l -/
def Own (w : World) (B : Nat) (v : Value) (l : List Int) : Prop :=
  (∀ x ∈ l, 0 ≤ x ∧ x ≤ 255) ∧ w.ownsRow B 5 1 v l.length (l.map (Value.int .u8))

theorem Own.nil (w : World) (B : Nat) : Own w B (.slice none 0 0) [] := ⟨by simp, by simpa using World.ownsRow_nil w B 5 1⟩

theorem Own.shape {w : World} {B : Nat} {v : Value} {l : List Int} (h : Own w B v l) : ∃ a cap, v = .slice a l.length cap := by
  rcases h.2.2 with ⟨rfl, h0⟩ | ⟨g, cap, cur, rfl, _⟩
  · exact ⟨none, 0, by rw [h0]⟩
  · exact ⟨_, _, rfl⟩

theorem Own.shape' {w : World} {B : Nat} {v : Value} {l : List Int} (h : Own w B v l) (hl : 0 < l.length) : ∃ g cap, v = .slice (some ⟨g, 0, none⟩) l.length cap := by
  rcases h.2.2 with ⟨rfl, h0⟩ | ⟨g, cap, cur, rfl, _⟩
  · omega
  · exact ⟨_, _, rfl⟩

theorem Own.le {w : World} {B B' : Nat} {v : Value} {l : List Int} (h : Own w B v l) (hb : B' ≤ B) : Own w B' v l := by
  refine ⟨h.1, h.2.1, ?_⟩
  rcases h.2.2 with h | ⟨g, cap, cur, hv, hg, r⟩
  · exact .inl h
  · exact .inr ⟨g, cap, cur, hv, Nat.le_trans hb hg, r⟩

theorem heap_lt {w : World} {g : Nat} {o : Obj} (h : w.heap[g]? = some o) : g < w.heap.size := by
  rcases Nat.lt_or_ge g w.heap.size with h' | h'
  · exact h'
  · rw [Array.getElem?_eq_none h'] at h; cases h

theorem Own.below {w w' : World} {B : Nat} {v : Value} {l : List Int} (h : Own w B v l) (hb : Below w.heap.size w w') : Own w' B v l := by
  refine ⟨h.1, h.2.1, ?_⟩
  rcases h.2.2 with h | ⟨g, cap, cur, hv, hg, hh, r⟩
  · exact .inl h
  · exact .inr ⟨g, cap, cur, hv, hg, (hb.block g (heap_lt hh)).trans hh, r⟩

theorem cell_add (b o j : Nat) : (⟨b, o, none⟩ : Addr).add j = ⟨b, o + j, none⟩ := by
  unfold Addr.add
  split
  · next h => subst h; rfl
  · rfl

theorem Own.bs {w : World} {B : Nat} {v : Value} {l : List Int} (h : Own w B v l) (hl : l.length ≤ maxLen) : Bs w v l := by
  obtain ⟨a, cap, rfl⟩ := h.shape
  refine ⟨hl, h.1, a, cap, rfl, fun i hi => ?_⟩
  obtain ⟨g, cap', e⟩ := h.shape' (by omega)
  simp only [Value.slice.injEq] at e
  obtain ⟨rfl, _, rfl⟩ := e
  refine ⟨g, 0, rfl, fun j hj => ?_⟩
  have := h.2.cellAt j (by omega)
  rw [Nat.zero_add, this]
  simp [hj]

theorem Own.lit (w : World) (l : List Int) (cs : Array Value) (hc : cs.toList = l.map (Value.int .u8)) (h8 : ∀ x ∈ l, 0 ≤ x ∧ x ≤ 255) (hl : l.length ≤ maxLen) :
    Own (w.alloc (.cells cs 5)) w.heap.size (.slice (some ⟨w.heap.size, 0, none⟩) l.length l.length) l := by
  have hs : cs.size = l.length := by rw [← Array.length_toList, hc, List.length_map]
  refine ⟨h8, by simp, .inr ⟨w.heap.size, l.length, cs, rfl, Nat.le_refl _, ?_, Nat.le_refl _, hl, by omega, ?_⟩⟩
  · show (w.heap.push _)[_]? = _
    simp
  · rw [hc, List.take_of_length_le (by simp)]

/-- w' is w but for v's own row and new blocks; the new value v' lies in v's row or in a new block -/
structure Grew (w : World) (v : Value) (w' : World) (v' : Value) : Prop where
  g : w.grownBy w' v.ownBlock
  at' : v'.ownBlock = v.ownBlock ∨ ∃ k, v'.ownBlock = some k ∧ w.heap.size ≤ k

theorem Grew.refl (w : World) (v : Value) : Grew w v w v := ⟨⟨rfl, rfl, rfl, Nat.le_refl _, fun _ _ _ => rfl⟩, .inl rfl⟩
theorem Grew.trans {w w1 w2 : World} {v v1 v2 : Value} (h : Grew w v w1 v1) (k : Grew w1 v1 w2 v2) : Grew w v w2 v2 := by
  have hs := h.g.size
  refine ⟨⟨k.g.os.trans h.g.os, k.g.tape.trans h.g.tape, k.g.output.trans h.g.output, Nat.le_trans h.g.size k.g.size, fun i hi hne => ?_⟩, ?_⟩
  · refine (k.g.block i (by omega) ?_).trans (h.g.block i hi hne)
    rcases h.at' with e | ⟨j, e, hj⟩
    · rw [e]; exact hne
    · rw [e]; intro he; injection he with he; omega
  · rcases k.at' with e | ⟨j, e, hj⟩
    · rw [e]; exact h.at'
    · exact .inr ⟨j, e, by omega⟩
theorem Grew.alloc {w w' : World} {v v' : Value} (h : Grew w v w' v') (o : Obj) : Grew w v (w'.alloc o) v' :=
  h.trans ⟨World.grownBy_alloc _ _ _, .inl rfl⟩
theorem Grew.below {B : Nat} {w w' : World} {v v' : Value} {l : List Int} (h : Grew w v w' v') (hown : Own w B v l) (hB : B ≤ w.heap.size) : Below B w w' :=
  (Below.refl _ _).grown h.g hB (fun k hk => (hown.2.lt k hk).1)
/-- a block that is not v's own stays -/
theorem Grew.block {w w' : World} {v v' : Value} (h : Grew w v w' v') {k : Nat} (hk : k < w.heap.size) (hne : v.ownBlock ≠ some k) : w'.heap[k]? = w.heap[k]? := h.g.block k hk (fun e => hne e.symm)
theorem Grew.far {w w' : World} {v v' : Value} (h : Grew w v w' v') {k : Nat} (hk : k < w.heap.size) (hne : v.ownBlock ≠ some k) : v'.ownBlock ≠ some k := by
  rcases h.at' with e | ⟨j, e, hj⟩
  · rw [e]; exact hne
  · rw [e]; intro he; injection he with he; omega
theorem Grew.cell {w w' : World} {v v' : Value} (h : Grew w v w' v') {k o : Nat} (hk : k < w.heap.size) (hne : v.ownBlock ≠ some k) : w'.cell? ⟨k, o, none⟩ = w.cell? ⟨k, o, none⟩ := World.cell?_of_block (w := w) (h.block hk hne)
theorem Grew.of_below {w w' : World} {v : Value} (h : Below w.heap.size w w') : Grew w v w' v := ⟨⟨h.os, h.tape, h.output, h.size, fun k hk _ => h.block k hk⟩, .inl rfl⟩

set_option maxRecDepth 100000 in
theorem wpl_append {w : World} {ops : Array Oper} {rest : List Oper} {o : Oper} {a : Act} {Q : Exit → Act → World → Prop} (hgd : o.guard = none) (s x : Operand)
    (ho : o.op = .call { callee := .builtin .append, args := #[s, x], argTypes := #[22, 22] })
    {B : Nat} {v u : Value} {l l2 : List Int} (hown : Own w B v l) (hs : a.eval s = v) (hu : Bs w u l2) (hx : a.eval x = u) (hne : 0 < l2.length) (hlen : l.length + l2.length ≤ 1073741824) (hB : B ≤ w.heap.size)
    (h : ∀ v' w', Own w' B v' (l ++ l2) → Grew w v w' v' → wpList Tryd.prog ops Q rest (a.put o.dst v') w') : wpList Tryd.prog ops Q (o :: rest) a w := by
  obtain ⟨i0, hi, hz0, hz1, hz2⟩ := info_parts infoU8
  obtain ⟨_, h8, au, cu, rfl, hc⟩ := hu
  obtain ⟨b, off, rfl, hcell⟩ := hc 0 hne
  refine wpList_append_own_at w hgd s x 22 ho B 5 i0 (.int .u8 0) 1 1 Tryd.underlying22 hi hz0 hz1 hz2 rfl (by decide) v l.length _ hs hown.2 ⟨b, off, none⟩ l2.length cu (l2.map (Value.int .u8)) hx (by simp) ?_ ?_ (by unfold maxLen; omega) (by omega) hB ?_
  · intro j u hj
    rw [cell_add]
    rw [List.getElem?_map] at hj
    cases hk : l2[j]? with
    | none => rw [hk] at hj; cases hj
    | some y =>
      rw [hk] at hj
      have hjl : j < l2.length := by
        rcases Nat.lt_or_ge j l2.length with h' | h'
        · exact h'
        · rw [List.getElem?_eq_none h'] at hk; cases hk
      rw [hcell j hjl, hk]
      exact hj
  · intro u hu
    simp only [List.mem_map] at hu
    obtain ⟨y, _, rfl⟩ := hu
    rfl
  · intro v' w' h2 h3 _ h5
    refine h v' w' ⟨fun y hy => ?_, by simpa using h2⟩ ⟨h3, h5.imp id fun e => ⟨_, e, Nat.le_refl _⟩⟩
    rcases List.mem_append.1 hy with hy | hy
    · exact hown.1 y hy
    · exact h8 y hy

/-- the bytes of a string -/
def strL (s : ByteArray) : List Int := s.data.toList.map fun c => (c.toNat : Int)
theorem strL_len (s : ByteArray) : (strL s).length = s.size := by simp [strL]
theorem strL_byte (s : ByteArray) : ∀ x ∈ strL s, 0 ≤ x ∧ x ≤ 255 := by
  intro x hx
  simp only [strL, List.mem_map] at hx
  obtain ⟨c, _, rfl⟩ := hx
  have := c.toNat_lt
  omega

set_option maxRecDepth 100000 in
theorem wpl_append_str {w : World} {ops : Array Oper} {rest : List Oper} {o : Oper} {a : Act} {Q : Exit → Act → World → Prop} (hgd : o.guard = none) (sl x : Operand)
    (ho : o.op = .call { callee := .builtin .append, args := #[sl, x], argTypes := #[22, 9] })
    {B : Nat} {v : Value} {l : List Int} {t : ByteArray} (hown : Own w B v l) (hpos : 0 < l.length) (hs : a.eval sl = v) (hx : a.eval x = .string t) (hlen : l.length + t.size ≤ 1073741824) (hB : B ≤ w.heap.size)
    (h : ∀ v' w', Own w' B v' (l ++ strL t) → Grew w v w' v' → wpList Tryd.prog ops Q rest (a.put o.dst v') w') : wpList Tryd.prog ops Q (o :: rest) a w := by
  obtain ⟨i0, hi, hz0, hz1, hz2⟩ := info_parts infoU8
  refine wpList_plain hgd fun K hK => ?_
  obtain ⟨v', w', hr, h2, h3, h4⟩ := Lib.run_append_own_string (P := Tryd.prog) w B 22 9 o.type 5 i0 Tryd.underlying22 Tryd.underlying9 hi hz0 hz1 hz2 v l.length _ hown.2 t (by unfold maxLen; omega) (by omega) hB
  have hat : v'.ownBlock = v.ownBlock ∨ ∃ k, v'.ownBlock = some k ∧ w.heap.size ≤ k := by
    rcases hown.2.2 with ⟨_, h0⟩ | ⟨g, cap, cur, rfl, hbg, hg, hnc, hcm, hcs, htake⟩
    · omega
    · have hcs' : cur.size = cap := by simpa using hcs
      by_cases hroom : l.length + t.size ≤ cap
      · have hr2 := Lib.run_append_room_string (P := Tryd.prog) w 22 9 o.type 5 i0 Tryd.underlying22 Tryd.underlying9 hi hz1 g l.length cap cur hg t hroom (by omega)
        rw [hr2] at hr
        injection hr with e1 e2
        rw [← e1]
        exact .inl rfl
      · have holds := hown.2.cells (g := g) rfl
        have hr2 := Lib.run_append_grow_string (P := Tryd.prog) w 22 9 o.type 5 i0 (.int .u8 0) Tryd.underlying22 Tryd.underlying9 hi hz0 ⟨g, 0, none⟩ l.length cap (l.map (Value.int .u8)) (by rw [hz1]; simp) holds t (by omega) (by omega) (by rw [hz2]; exact growslice_fits (by omega) (by omega))
        rw [hr2] at hr
        injection hr with e1 e2
        rw [← e1]
        exact .inr ⟨_, rfl, Nat.le_refl _⟩
  unfold Oper.wp execOp
  simp only [ho, resolve, invoke, builtin, Sem.run_bind, Sem.run_pure, Result.andThen_ok, List.map_toArray, List.map_cons, List.map_nil, hs, hx, hr]
  refine hK _ _ (h v' w' ⟨fun y hy => ?_, ?_⟩ ⟨h3, hat⟩)
  · rcases List.mem_append.1 hy with hy | hy
    · exact hown.1 y hy
    · exact strL_byte t y hy
  · have e : (l ++ strL t).map (Value.int .u8) = l.map (Value.int .u8) ++ Lib.strCells t := by
      rw [List.map_append]
      congr 1
      simp [strL, Lib.strCells]
    rw [e, List.length_append, strL_len]
    exact h2
end Go.Proofs.YtmbiccmndcchhagDoor

/-
  laws.markByteS, laws.heldByteS.
-/
namespace Go.Proofs.YtmbiccmndcchhagDoor
open Go.RowKit
set_option linter.unusedVariables false

/-- the marks that markByteS writes -/
def marksL (k n : Nat) : List Int := (List.range n).map fun i => (((k + i) % 256 : Nat) : Int)
theorem marksL_len (k n : Nat) : (marksL k n).length = n := by simp [marksL]
theorem marksL_byte (k n : Nat) : ∀ x ∈ marksL k n, 0 ≤ x ∧ x ≤ 255 := by
  intro x hx
  simp only [marksL, List.mem_map] at hx
  obtain ⟨i, _, rfl⟩ := hx
  omega
theorem marksL_get (k n j : Nat) (h : j < n) : (marksL k n)[j]?.getD 0 = (((k + j) % 256 : Nat) : Int) := by
  simp [marksL, h]
theorem marks_step (k : Nat) (l : List Int) (j : Nat) (h : j < l.length) : (marksL k j ++ l.drop j).set j (((k + j) % 256 : Nat) : Int) = marksL k (j + 1) ++ l.drop (j + 1) := by
  have e : marksL k (j + 1) = marksL k j ++ [(((k + j) % 256 : Nat) : Int)] := by simp [marksL, List.range_succ]
  rw [e, List.set_append_right _ _ (by rw [marksL_len]; exact Nat.le_refl _), marksL_len, Nat.sub_self, List.drop_eq_getElem_cons h, List.set_cons_zero]
  simp

theorem Own.store {w : World} {B g cap : Nat} {l : List Int} (h : Own w B (.slice (some ⟨g, 0, none⟩) l.length cap) l) (j : Nat) (x : Int) (h8 : 0 ≤ x ∧ x ≤ 255) :
    Own (w.setCell ⟨g, j, none⟩ (.int .u8 x)) B (.slice (some ⟨g, 0, none⟩) l.length cap) (l.set j x) := by
  refine ⟨fun y hy => ?_, ?_⟩
  · rcases List.mem_or_eq_of_mem_set hy with hy | rfl
    · exact h.1 y hy
    · exact h8
  · have := (h.2.stored j (.int .u8 x)).1
    simpa [List.map_set] using this

theorem grown_set (w : World) (g j : Nat) (x : Value) (row : Option Nat) (hr : row = some g) : w.grownBy (w.setCell ⟨g, j, none⟩ x) row :=
  ⟨rfl, rfl, rfl, by simp [World.setCell], fun k _ hk => Below.heap_setCell _ _ _ _ (fun e => hk (by rw [hr, e]))⟩
theorem grown_trans {w w1 w2 : World} {row : Option Nat} (h : w.grownBy w1 row) (k : w1.grownBy w2 row) : w.grownBy w2 row :=
  ⟨k.os.trans h.os, k.tape.trans h.tape, k.output.trans h.output, Nat.le_trans h.size k.size, fun i hi hne => (k.block i (Nat.lt_of_lt_of_le hi h.size) hne).trans (h.block i hi hne)⟩

set_option maxHeartbeats 1000000 in
set_option maxRecDepth 100000 in
theorem markByteS_any (v : Value) (l : List Int) (k0 : Nat) (w : World) (B : Nat) (hv : Own w B v l) (hl : l.length ≤ 20000000) (hk0 : k0 ≤ 20000000) :
    Calls Tryd.prog 50 #[v, .int .i64 k0] w fun e w' => e = .returned (.int .i64 ((k0 + l.length : Nat) : Int)) ∧ Own w' B v (marksL k0 l.length) ∧ w.grownBy w' v.ownBlock := by
  obtain ⟨a, cap, rfl⟩ := hv.shape
  have hV : Hid (Own w B (.slice a l.length cap) l) := hv
  clear hv
  go_enter Tryd.func50, Tryd.ntmps50
  go_wp2
  go_loopw [1, 5] (fun c i wr => ∃ j : Nat, j ≤ l.length ∧ i = .int .i64 j ∧ c = .int .i64 ((k0 + j : Nat) : Int) ∧ Own wr B (.slice a l.length cap) (marksL k0 j ++ l.drop j) ∧ w.grownBy wr (Value.slice a l.length cap).ownBlock) (fun _ i _ => l.length - (intOf i).toNat)
  case atStart => exact ⟨0, Nat.zero_le _, rfl, by simp, by simpa [marksL] using hV.out, ⟨rfl, rfl, rfl, Nat.le_refl _, fun _ _ _ => rfl⟩⟩
  case round =>
    obtain ⟨j, hj, rfl, rfl, ho, hg⟩ := hrel
    have hlen : (marksL k0 j ++ l.drop j).length = l.length := by simp [marksL_len]; omega
    by_cases hlt : j < l.length
    · obtain ⟨g, cap', e⟩ := hV.out.shape' (by omega)
      simp only [Value.slice.injEq] at e
      obtain ⟨rfl, _, rfl⟩ := e
      have ho' : Own wr B (.slice (some ⟨g, 0, none⟩) (marksL k0 j ++ l.drop j).length cap) (marksL k0 j ++ l.drop j) := by rw [hlen]; exact ho
      have hst := ho'.store j (((k0 + j) % 256 : Nat) : Int) (by omega)
      rw [marks_step k0 l j hlt, hlen] at hst
      have HS : Hid (Own (wr.setCell ⟨g, j, none⟩ (.int .u8 (((k0 + j) % 256 : Nat) : Int))) B (.slice (some ⟨g, 0, none⟩) l.length cap) (marksL k0 (j + 1) ++ l.drop (j + 1))) := hst
      have hf := ho'.2.frozenAt j
      have hcell := ho'.2.cellAt j (by omega)
      obtain ⟨y, hy⟩ : ∃ y, wr.cell? ⟨g, j, none⟩ = some y := by
        rw [hcell]
        exact ⟨_, List.getElem?_eq_getElem (by rw [List.length_map]; omega)⟩
      have HG : Hid (w.grownBy wr (some g)) := hg
      clear hst hcell ho' ho hg hlen
      go_wp2
      go_roundw
      case rel => exact ⟨j + 1, by omega, by go_num, by go_num, by simpa using HS.out, grown_trans HG.out (grown_set _ _ _ _ _ rfl)⟩
      case measure => simp [intOf]; omega
    · have e : j = l.length := by omega
      subst e
      rw [List.drop_length, List.append_nil] at ho
      go_wp2
      go_ret
      exact ⟨rfl, ho, hg⟩

set_option maxHeartbeats 1000000 in
theorem heldByteS_any (v : Value) (k0 n : Nat) (w : World) (hv : Bs w v (marksL k0 n)) (hn : n ≤ 20000000) (hk0 : k0 ≤ 20000000) :
    Calls Tryd.prog 79 #[v, .int .i64 k0] w fun e w' => e = .returned (.int .i64 ((k0 + n : Nat) : Int)) ∧ w' = w := by
  obtain ⟨hl, h8, a, cap, rfl, hc⟩ := hv
  rw [marksL_len] at hc ⊢
  go_enter Tryd.func79, Tryd.ntmps79
  go_wp2
  go_loop [1, 5] (fun c i => ∃ j : Nat, j ≤ n ∧ i = .int .i64 j ∧ c = .int .i64 ((k0 + j : Nat) : Int)) (fun _ i => n - (intOf i).toNat)
  case atStart => exact ⟨0, Nat.zero_le _, rfl, by simp⟩
  case round =>
    obtain ⟨j, hj, rfl, rfl⟩ := hrel
    by_cases hlt : j < n
    · obtain ⟨b, off, rfl, hcell⟩ := hc j hlt
      have hcj := hcell j hlt
      rw [marksL_get k0 n j hlt] at hcj
      clear hcell hc
      go_wp2
      go_round
      case rel => exact ⟨j + 1, by omega, by go_num, by go_num⟩
      case measure => simp [intOf]; omega
    · have e : j = n := by omega
      subst e
      go_wp2
      go_ret
      exact ⟨rfl, rfl⟩

/-- a slice of the call's own stays where only rows from B1 on were written -/
theorem Own.far {w w' : World} {B B1 : Nat} {v : Value} {l : List Int} (h : Own w B v l) (hb : Below B1 w w') (hlt : ∀ k, v.ownBlock = some k → k < B1) : Own w' B v l := by
  refine ⟨h.1, h.2.1, ?_⟩
  rcases h.2.2 with h | ⟨g, cap, cur, hv, hg, hh, r⟩
  · exact .inl h
  · exact .inr ⟨g, cap, cur, hv, hg, (hb.block g (hlt g (by rw [hv]; rfl))).trans hh, r⟩
theorem Own.marked {w w' : World} {B : Nat} {v : Value} {l : List Int} (h : Own w B v l) (hg : w.grownBy w' v.ownBlock) (hB : B ≤ w.heap.size) : Below B w w' :=
  (Below.refl _ _).grown hg hB (fun k hk => (h.2.lt k hk).1)
end Go.Proofs.YtmbiccmndcchhagDoor

/-
  The shortest form of a number, as a list of bytes.
-/
namespace Go.Proofs.YtmbiccmndcchhagDoor
open Go.RowKit
set_option linter.unusedVariables false

/-- with so many steps at the most -/
def numA : Nat → Nat → List Int
  | 0, n => [(n : Int)]
  | f + 1, n => if n < 128 then [(n : Int)] else ((n % 128 + 128 : Nat) : Int) :: numA f (n / 128)
def numL (n : Nat) : List Int := numA n n

theorem numA_enough (f : Nat) : ∀ g n : Nat, n ≤ f → n ≤ g → numA f n = numA g n := by
  induction f with
  | zero =>
    intro g n hf hg
    have e : n = 0 := by omega
    subst e
    cases g with
    | zero => rfl
    | succ g => simp [numA]
  | succ f ih =>
    intro g n hf hg
    cases g with
    | zero =>
      have e : n = 0 := by omega
      subst e
      simp [numA]
    | succ g =>
      by_cases h : n < 128
      · simp [numA, h]
      · simp only [numA, if_neg h]
        rw [ih g (n / 128) (by omega) (by omega)]

theorem numL_small {n : Nat} (h : n < 128) : numL n = [(n : Int)] := by
  unfold numL
  cases n with
  | zero => rfl
  | succ n => simp [numA, h]
theorem numL_big {n : Nat} (h : ¬ n < 128) : numL n = ((n % 128 + 128 : Nat) : Int) :: numL (n / 128) := by
  unfold numL
  cases n with
  | zero => omega
  | succ n =>
    rw [numA, if_neg h, numA_enough n ((n + 1) / 128) ((n + 1) / 128) (by omega) (by omega)]
theorem numL_byte (n : Nat) : ∀ x ∈ numL n, 0 ≤ x ∧ x ≤ 255 := by
  induction n using Nat.strongRecOn with
  | ind n ih =>
    by_cases h : n < 128
    · rw [numL_small h]; intro x hx; simp at hx; subst hx; omega
    · rw [numL_big h]
      intro x hx
      rcases List.mem_cons.1 hx with rfl | hx
      · omega
      · exact ih (n / 128) (by omega) x hx
theorem numL_pos (n : Nat) : 0 < (numL n).length := by
  by_cases h : n < 128
  · rw [numL_small h]; simp
  · rw [numL_big h]; simp
theorem numL_len (k : Nat) : ∀ n : Nat, n < 128 ^ (k + 1) → (numL n).length ≤ k + 1 := by
  induction k with
  | zero => intro n h; rw [numL_small (by simpa using h)]; simp
  | succ k ih =>
    intro n h
    by_cases hn : n < 128
    · rw [numL_small hn]; simp
    · rw [numL_big hn, List.length_cons]
      have : n / 128 < 128 ^ (k + 1) := by
        rw [Nat.div_lt_iff_lt_mul (by decide)]
        rw [Nat.pow_succ] at h
        exact h
      have := ih _ this
      omega
theorem numL_len9 (n : Nat) (h : n < 9223372036854775808) : (numL n).length ≤ 9 := numL_len 8 n (by simpa using h)

/-- what 'byte(n) | 128' is -/
theorem or_128 (m : Nat) : bits .or .u8 ((m : Int) % 256) 128 = ((m % 128 + 128 : Nat) : Int) := by
  have e : (m : Int) % 256 = ((m % 256 : Nat) : Int) := by omega
  rw [e]
  have := u8_or_nat (m % 256) 128 (by omega) (by decide)
  refine this.trans ?_
  congr 1
  have h7 : m % 256 = m % 128 + 128 * (m / 128 % 2) := by omega
  have hj := nat_join 7 128 (m % 128) (by decide) (by omega)
  rcases (by omega : m / 128 % 2 = 0 ∨ m / 128 % 2 = 1) with h | h
  · rw [h7, h, Nat.or_comm]
    simpa [Nat.add_comm] using hj
  · have e2 : m % 256 = 128 ||| (m % 128) := by rw [hj]; omega
    rw [e2, Nat.or_comm, ← Nat.or_assoc, Nat.or_self, hj, Nat.add_comm]
end Go.Proofs.YtmbiccmndcchhagDoor

/-
  impl.putNumber, impl.putNumbers, impl.putText, impl.putWord.
-/
namespace Go.Proofs.YtmbiccmndcchhagDoor
open Go.RowKit
set_option linter.unusedVariables false

theorem Bs.one (w : World) (x : Int) (h : 0 ≤ x ∧ x ≤ 255) : Bs (w.alloc (.cells #[.int .u8 x] 5)) (.slice (some ⟨w.heap.size, 0, none⟩) 1 1) [x] := by
  have := (Own.lit w [x] #[.int .u8 x] rfl (by simpa using h) (by simp [maxLen])).bs (by simp [maxLen])
  simpa using this

set_option maxHeartbeats 1000000 in
set_option maxRecDepth 100000 in
theorem putNumber_any (v : Value) (l : List Int) (n : Nat) (w : World) (B : Nat) (hv : Own w B v l) (hB : B ≤ w.heap.size) (hl : l.length ≤ 1000000000) (hn : n < 9223372036854775808) :
    Calls Tryd.prog 144 #[v, .int .i64 n] w fun e w' => ∃ v', e = .returned v' ∧ Own w' B v' (l ++ numL n) ∧ Grew w v w' v' := by
  go_enter Tryd.func144, Tryd.ntmps144
  go_wp2
  go_loopw [0, 1] (fun o i wr => ∃ (m : Nat) (l' : List Int), i = .int .i64 m ∧ m ≤ n ∧ Own wr B o (l ++ l') ∧ l' ++ numL m = numL n ∧ Grew w v wr o) (fun _ i _ => (intOf i).toNat)
  case atStart => exact ⟨n, [], rfl, Nat.le_refl _, by simpa using hv, by simp, Grew.refl _ _⟩
  case round =>
    obtain ⟨m, l', rfl, hmn, ho, hnum, hb⟩ := hrel
    have HN : Hid (l' ++ numL m = numL n) := hnum
    have hsz := hb.g.size
    have hlen : l'.length + (numL m).length ≤ 9 := by
      have h1 := congrArg List.length hnum
      have h2 := numL_len9 n hn
      simp at h1; omega
    have hpos := numL_pos m
    clear hnum
    by_cases hlt : m < 128
    · have HS : Hid (numL m = [(m : Int)]) := numL_small hlt
      go_wp2_with (at_builtin; refine wpl_append rfl (.tmp 15) (.tmp 18) rfl (ho.below ((Below.refl _ _).alloc (Nat.le_refl _) _)) rfl (Bs.one _ (m : Int) (by omega)) rfl (by simp) (by simp; omega) (by simp; omega) ?_; intro v' w' ho' hb')
      go_ret
      refine ⟨_, rfl, ?_, (hb.alloc _).trans hb'⟩
      rw [← HN.out, HS.out, ← List.append_assoc]
      exact ho'
    · have HS : Hid (numL m = ((m % 128 + 128 : Nat) : Int) :: numL (m / 128)) := numL_big hlt
      have hor := or_128 m
      go_wp2_with (at_builtin; refine wpl_append rfl (.tmp 7) (.tmp 11) rfl (ho.below ((Below.refl _ _).alloc (Nat.le_refl _) _)) rfl (Bs.one _ ((m % 128 + 128 : Nat) : Int) (by omega)) rfl (by simp) (by simp; omega) (by simp; omega) ?_; intro v' w' ho' hb')
      go_roundw
      case rel => exact ⟨m / 128, l' ++ [((m % 128 + 128 : Nat) : Int)], by go_num, by omega, by rw [← List.append_assoc]; exact ho', by rw [← HN.out, HS.out]; simp, (hb.alloc _).trans hb'⟩
      case measure => simp [intOf]; omega

/-- a slice of ints holds the numbers ns -/
def Ints (w : World) (v : Value) (ns : List Nat) : Prop :=
  ∃ b cap, v = .slice (some ⟨b, 0, none⟩) ns.length cap ∧ ∀ j, j < ns.length → w.cell? ⟨b, j, none⟩ = some (.int .i64 (ns[j]?.getD 0 : Nat))

def numsL (ns : List Nat) : List Int := ns.flatMap numL
theorem numsL_snoc (ns : List Nat) (k : Nat) (h : k < ns.length) : numsL (ns.take (k + 1)) = numsL (ns.take k) ++ numL (ns[k]?.getD 0) := by
  rw [List.take_succ_eq_append_getElem h, numsL, numsL, List.flatMap_append]
  simp [h]
theorem numsL_len (ns : List Nat) (h : ∀ n ∈ ns, n < 9223372036854775808) : (numsL ns).length ≤ 9 * ns.length := by
  induction ns with
  | nil => simp [numsL]
  | cons n r ih =>
    have h1 := numL_len9 n (h n (by simp))
    have h2 := ih (fun m hm => h m (by simp [hm]))
    simp only [numsL, List.flatMap_cons, List.length_append, List.length_cons] at h2 ⊢
    omega

set_option maxHeartbeats 1000000 in
set_option maxRecDepth 100000 in
theorem putNumbers_any (v : Value) (l : List Int) (ns : List Nat) (b cap : Nat) (w : World) (B : Nat) (hv : Own w B v l) (hB : B ≤ w.heap.size) (hl : l.length ≤ 900000000) (hns : ∀ n ∈ ns, n < 9223372036854775808) (hnl : ns.length ≤ 100)
    (hc : ∀ j, j < ns.length → w.cell? ⟨b, j, none⟩ = some (.int .i64 (ns[j]?.getD 0 : Nat))) (hfar : v.ownBlock ≠ some b) :
    Calls Tryd.prog 143 #[v, .slice (some ⟨b, 0, none⟩) ns.length cap] w fun e w' => ∃ v', e = .returned v' ∧ Own w' B v' (l ++ numsL ns) ∧ Grew w v w' v' := by
  go_enter Tryd.func143, Tryd.ntmps143
  go_wp2
  go_loopw [0, 9] (fun o i wr => ∃ k : Nat, k ≤ ns.length ∧ i = .int .i64 k ∧ Own wr B o (l ++ numsL (ns.take k)) ∧ Grew w v wr o) (fun _ i _ => ns.length - (intOf i).toNat)
  case atStart => exact ⟨0, Nat.zero_le _, rfl, by simpa [numsL] using hv, Grew.refl _ _⟩
  case round =>
    obtain ⟨k, hk, rfl, ho, hb⟩ := hrel
    have hsz := hb.g.size
    by_cases hlt : k < ns.length
    · have hlen := numsL_len (ns.take k) (fun n hn => hns n (List.mem_of_mem_take hn))
      rw [List.length_take] at hlen
      have hck : wr.cell? ⟨b, k, none⟩ = some (.int .i64 (ns[k]?.getD 0 : Nat)) := by rw [hb.cell (cell_lt (hc k hlt)) hfar]; exact hc k hlt
      have hn : ns[k]?.getD 0 < 9223372036854775808 := by simp [hlt]; exact hns _ (List.getElem_mem hlt)
      have HS : Hid (numsL (ns.take (k + 1)) = numsL (ns.take k) ++ numL (ns[k]?.getD 0)) := numsL_snoc ns k hlt
      generalize ns[k]?.getD 0 = n at hck hn HS
      clear hc
      go_wp2_with (go_at_call 144; refine (putNumber_any _ _ n _ B ho (by omega) (by simp; omega) hn).mono ?_; rintro e w' ⟨v', rfl, ho', hb'⟩)
      go_roundw
      case rel => exact ⟨k + 1, by omega, by go_num, by rw [HS.out, ← List.append_assoc]; exact ho', hb.trans hb'⟩
      case measure => simp [intOf]; omega
    · have e : k = ns.length := by omega
      subst e
      rw [List.take_length] at ho
      go_wp2
      go_ret
      exact ⟨_, rfl, ho, hb⟩

def textL (s : ByteArray) : List Int := numL s.size ++ strL s

set_option maxHeartbeats 1000000 in
set_option maxRecDepth 100000 in
theorem putText_any (v : Value) (l : List Int) (s : ByteArray) (w : World) (B : Nat) (hv : Own w B v l) (hB : B ≤ w.heap.size) (hl : l.length ≤ 1000000) (hs : s.size ≤ 1048576) :
    Calls Tryd.prog 155 #[v, .string s] w fun e w' => ∃ v', e = .returned v' ∧ Own w' B v' (l ++ textL s) ∧ Grew w v w' v' := by
  have h9 := numL_len9 s.size (by omega)
  have hpos := numL_pos s.size
  go_enter Tryd.func155, Tryd.ntmps155
  go_wp2_with (first
    | (go_at_call 144; refine (putNumber_any _ _ s.size _ B hv (by omega) (by omega) (by omega)).mono ?_; rintro e w1 ⟨v1, rfl, ho1, hb1⟩; have hsz := hb1.g.size)
    | (at_builtin; refine wpl_append_str rfl (.tmp 8) (.tmp 9) rfl ho1 (by simp; omega) rfl rfl (by simp; omega) (by omega) ?_; intro v2 w2 ho2 hb2))
  go_ret
  exact ⟨_, rfl, by rw [textL, ← List.append_assoc]; exact ho2, hb1.trans hb2⟩

/-- a word of four bytes, the lowest first -/
def wordL (x : Nat) : List Int := [((x % 256 : Nat) : Int), ((x / 256 % 256 : Nat) : Int), ((x / 65536 % 256 : Nat) : Int), ((x / 16777216 % 256 : Nat) : Int)]
theorem Bs.four (w : World) (x : Nat) (a b c d : Int) (ha : a = ((x % 256 : Nat) : Int)) (hb : b = ((x / 256 % 256 : Nat) : Int)) (hc : c = ((x / 65536 % 256 : Nat) : Int)) (hd : d = ((x / 16777216 % 256 : Nat) : Int)) :
    Bs (w.alloc (.cells #[.int .u8 a, .int .u8 b, .int .u8 c, .int .u8 d] 5)) (.slice (some ⟨w.heap.size, 0, none⟩) 4 4) (wordL x) := by
  subst ha hb hc hd
  have := (Own.lit w (wordL x) #[.int .u8 ((x % 256 : Nat) : Int), .int .u8 ((x / 256 % 256 : Nat) : Int), .int .u8 ((x / 65536 % 256 : Nat) : Int), .int .u8 ((x / 16777216 % 256 : Nat) : Int)] rfl (by simp only [wordL]; intro y hy; simp only [List.mem_cons, List.not_mem_nil, or_false] at hy; omega) (by simp [wordL, maxLen])).bs (by simp [wordL, maxLen])
  simpa [wordL] using this

set_option maxHeartbeats 1000000 in
set_option maxRecDepth 100000 in
theorem putWord_any (v : Value) (l : List Int) (x : Nat) (w : World) (B : Nat) (hv : Own w B v l) (hB : B ≤ w.heap.size) (hl : l.length ≤ 1000000) (hx : x < 4294967296) :
    Calls Tryd.prog 90 #[v, .int .u32 x] w fun e w' => ∃ v', e = .returned v' ∧ Own w' B v' (l ++ wordL x) ∧ Grew w v w' v' := by
  go_enter Tryd.func90, Tryd.ntmps90
  go_wp2_with (at_builtin; refine wpl_append rfl (.tmp 5) (.tmp 17) rfl (hv.below ((Below.refl _ _).alloc (Nat.le_refl _) _)) rfl (Bs.four _ x _ _ _ _ (by omega) (by omega) (by omega) (by omega)) rfl (by simp [wordL]) (by simp [wordL]; omega) (by simp; omega) ?_; intro v' w' ho' hb')
  go_ret
  exact ⟨_, rfl, ho', ((Grew.refl _ _).alloc _).trans hb'⟩

theorem Own.lit0 (w : World) : Own (w.alloc (.cells #[] 5)) w.heap.size (.slice (some ⟨w.heap.size, 0, none⟩) 0 0) [] := Own.lit w [] #[] rfl (by simp) (by simp)

theorem Own.ne {w : World} {B : Nat} {v : Value} {l : List Int} (h : Own w B v l) {k : Nat} (hk : w.heap.size ≤ k) : v.ownBlock ≠ some k := by
  intro e
  have := (h.2.lt k e).2
  omega

theorem textL_len (s : ByteArray) (h : s.size < 9223372036854775808) : (textL s).length ≤ 9 + s.size := by
  have := numL_len9 s.size h
  simp [textL, strL_len]; omega

theorem textL_pos (s : ByteArray) : 0 < (textL s).length := by
  have := numL_pos s.size
  simp [textL]; omega

theorem Grew.held {w w' : World} {v v' : Value} (h : Grew w v w' v') {b o : Nat} {x : Value} (hc : w.cell? ⟨b, o, none⟩ = some x) (hne : v.ownBlock ≠ some b) : w'.cell? ⟨b, o, none⟩ = some x := (h.cell (cell_lt hc) hne).trans hc
end Go.Proofs.YtmbiccmndcchhagDoor

/-
  laws.toByteS: a copy that the call owns; slices.Clone of bytes; spec.l1copy.
-/
namespace Go.Proofs.YtmbiccmndcchhagDoor
open Go.RowKit
set_option linter.unusedVariables false

theorem infoByte : (Tryd.prog.info? 5).map (fun i => (i.zero, i.size, i.bytes)) = some (some (.int .u8 0), 1, 1) := by kernel_rfl

theorem copy_step (l : List Int) (k : Nat) (h : k < l.length) : (l.take k ++ List.replicate (l.length - k) 0).set k (l[k]?.getD 0) = l.take (k + 1) ++ List.replicate (l.length - (k + 1)) 0 := by
  have hk : (l.take k).length = k := by rw [List.length_take]; omega
  have e : l.length - k = (l.length - (k + 1)) + 1 := by omega
  rw [List.set_append_right _ _ (by omega), hk, Nat.sub_self, e, List.replicate_succ, List.set_cons_zero]
  rw [List.getElem?_eq_getElem h, Option.getD_some, show l.take (k + 1) = l.take k ++ [l[k]] by rw [List.take_succ_eq_append_getElem h], List.append_assoc]
  rfl

theorem take_byte {l : List Int} (h8 : ∀ x ∈ l, 0 ≤ x ∧ x ≤ 255) (k n : Nat) : ∀ x ∈ l.take k ++ List.replicate n 0, 0 ≤ x ∧ x ≤ 255 := by
  intro x hx
  rcases List.mem_append.1 hx with h | h
  · exact h8 x (List.mem_of_mem_take h)
  · have := List.eq_of_mem_replicate h; omega

set_option maxHeartbeats 1000000 in
set_option maxRecDepth 100000 in
theorem toByteS_own (v : Value) (l : List Int) (w : World) (hv : Bs w v l) (hl' : l.length ≤ 1048576) :
    Calls Tryd.prog 46 #[v] w fun e w' => ∃ q, e = .returned (.slice (some ⟨q, 0, none⟩) l.length l.length) ∧ w.heap.size ≤ q ∧ q < w'.heap.size ∧ Own w' w.heap.size (.slice (some ⟨q, 0, none⟩) l.length l.length) l ∧ Below w.heap.size w w' := by
  obtain ⟨hl, h8, a, cap, rfl, hc⟩ := hv
  obtain ⟨i0, hi, hz0, hz1, hz2⟩ := info_parts infoByte
  have hmk : ∀ u : World, (Instr.makeSlice 22 (.int .i64 (l.length : Int)) (.int .i64 (l.length : Int))).run Tryd.prog u =
      .ok (.slice (some ⟨u.heap.size, 0, none⟩) l.length l.length) (u.alloc (.cells (madeCells #[.int .u8 0] l.length) 5)) := fun u => by
    have h := run_make (P := Tryd.prog) u 22 5 i0 (.int .u8 0) Tryd.underlying22 hi hz0 .i64 .i64 (l.length : Int) (l.length : Int) (by omega) (Int.le_refl _) (by rw [hz2]; omega) (by omega)
    simpa [hz1, Value.cells] using h
  have H0 : Hid (Own (w.alloc (.cells (madeCells #[.int .u8 0] l.length) 5)) w.heap.size (.slice (some ⟨w.heap.size, 0, none⟩) l.length l.length) (l.take 0 ++ List.replicate (l.length - 0) 0)) := by
    have h := Own.lit w (List.replicate l.length 0) (madeCells #[.int .u8 0] l.length) (by rw [toList_madeCells_one]; simp) (by intro x hx; have := List.eq_of_mem_replicate hx; omega) (by simpa using hl)
    show Own _ _ _ _
    simpa using h
  go_enter Tryd.func46, Tryd.ntmps46
  go_wp2
  go_loopw [4] (fun i wr => ∃ k : Nat, k ≤ l.length ∧ i = .int .i64 k ∧ Own wr w.heap.size (.slice (some ⟨w.heap.size, 0, none⟩) l.length l.length) (l.take k ++ List.replicate (l.length - k) 0) ∧ Below w.heap.size w wr ∧ w.heap.size < wr.heap.size) (fun i _ => l.length - (intOf i).toNat)
  case atStart => exact ⟨0, Nat.zero_le _, rfl, H0.out, (Below.refl _ _).alloc (Nat.le_refl _) _, by simp⟩
  case round =>
    obtain ⟨k, hk, rfl, ho, hb, hz⟩ := hrel
    by_cases hlt : k < l.length
    · obtain ⟨b, off, rfl, hcell⟩ := hc k hlt
      have hlen : (l.take k ++ List.replicate (l.length - k) 0).length = l.length := by simp; omega
      have hck : wr.cell? ⟨b, off + k, none⟩ = some (.int .u8 (l[k]?.getD 0)) := by rw [hb.cell (cell_lt (hcell k hlt))]; exact hcell k hlt
      have ho' : Own wr w.heap.size (.slice (some ⟨w.heap.size, 0, none⟩) (l.take k ++ List.replicate (l.length - k) 0).length l.length) (l.take k ++ List.replicate (l.length - k) 0) := by rw [hlen]; exact ho
      have hst := ho'.store k (l[k]?.getD 0) (byte_at h8 k)
      rw [copy_step l k hlt, hlen] at hst
      have HS : Hid (Own (wr.setCell ⟨w.heap.size, k, none⟩ (.int .u8 (l[k]?.getD 0))) w.heap.size (.slice (some ⟨w.heap.size, 0, none⟩) l.length l.length) (l.take (k + 1) ++ List.replicate (l.length - (k + 1)) 0)) := hst
      have hf := ho'.2.frozenAt k
      have hcell' := ho'.2.cellAt k (by omega)
      obtain ⟨y, hy⟩ : ∃ y, wr.cell? ⟨w.heap.size, k, none⟩ = some y := by
        rw [hcell']
        exact ⟨_, List.getElem?_eq_getElem (by rw [List.length_map]; omega)⟩
      have HB : Hid (Below w.heap.size w (wr.setCell ⟨w.heap.size, k, none⟩ (.int .u8 (l[k]?.getD 0)))) := hb.setCell (Nat.le_refl _) _
      clear hcell hcell' ho ho' hst hb hlen h8 hc
      generalize l[k]?.getD 0 = cc at hck HS HB
      go_wp2
      go_roundw
      case rel => exact ⟨k + 1, by omega, by go_num, HS.out, HB.out, by simpa [World.setCell] using hz⟩
      case measure => simp [intOf]; omega
    · have e : k = l.length := by omega
      subst e
      simp only [List.take_length, Nat.sub_self, List.replicate_zero, List.append_nil] at ho
      go_wp2
      go_ret
      exact ⟨_, rfl, Nat.le_refl _, hz, ho, hb⟩

end Go.Proofs.YtmbiccmndcchhagDoor

/-
  impl.within.
-/
namespace Go.Proofs.YtmbiccmndcchhagDoor
open Go.RowKit
set_option linter.unusedVariables false

/-- in a range, as a Bool that the walk leaves whole -/
def inB (n lo hi : Int) : Bool := decide (lo ≤ n) && decide (n ≤ hi)
theorem inB_iff (n lo hi : Int) : inB n lo hi = true ↔ lo ≤ n ∧ n ≤ hi := by simp [inB]
theorem inB_not (n lo hi : Int) : inB n lo hi = false ↔ (n < lo ∨ hi < n) := by
  by_cases h1 : lo ≤ n <;> by_cases h2 : n ≤ hi <;> simp [inB, h1, h2] <;> omega

set_option maxHeartbeats 400000 in
theorem within_any (n lo hi : Int) (w : World) :
    Calls Tryd.prog 69 #[.int .i64 n, .int .i64 lo, .int .i64 hi] w fun e w' => e = .returned (.bool (inB n lo hi)) ∧ w' = w := by
  by_cases h1 : lo ≤ n
  · by_cases h2 : n ≤ hi
    · have hb : inB n lo hi = true := by simp [inB, h1, h2]
      rw [hb]
      go_enter Tryd.func69, Tryd.ntmps69
      go_wp2
      go_ret
      exact ⟨rfl, rfl⟩
    · have hb : inB n lo hi = false := by simp [inB, h1]; omega
      rw [hb]
      go_enter Tryd.func69, Tryd.ntmps69
      go_wp2
      go_ret
      exact ⟨by simp, rfl⟩
  · have hb : inB n lo hi = false := by simp [inB]; omega
    rw [hb]
    go_enter Tryd.func69, Tryd.ntmps69
    go_wp2
    go_ret
    exact ⟨rfl, rfl⟩

end Go.Proofs.YtmbiccmndcchhagDoor

/-
  spec.l1in.
-/
namespace Go.Proofs.YtmbiccmndcchhagDoor
open Go.RowKit
set_option linter.unusedVariables false

theorem l1in_any (n lo hi : Int) (w : World) :
    Calls Tryd.prog 65 #[.int .i64 n, .int .i64 lo, .int .i64 hi] w fun e w' => e = .returned (.bool (inB n lo hi)) ∧ w' = w := by
  by_cases h1 : lo ≤ n
  · by_cases h2 : n ≤ hi
    · have hb : inB n lo hi = true := by simp [inB, h1, h2]
      rw [hb]
      go_enter Tryd.func65, Tryd.ntmps65
      go_wp2
      go_ret
      exact ⟨rfl, rfl⟩
    · have hb : inB n lo hi = false := by simp [inB, h1]; omega
      rw [hb]
      go_enter Tryd.func65, Tryd.ntmps65
      go_wp2
      go_ret
      exact ⟨by simp, rfl⟩
  · have hb : inB n lo hi = false := by simp [inB]; omega
    rw [hb]
    go_enter Tryd.func65, Tryd.ntmps65
    go_wp2
    go_ret
    exact ⟨rfl, rfl⟩

end Go.Proofs.YtmbiccmndcchhagDoor

/-
  slices.Clone of bytes; impl.diskFits, impl.cutDisk; spec.l2diskOk, spec.l1copy, spec.l2diskCopy.
-/
namespace Go.Proofs.YtmbiccmndcchhagDoor
open Go.RowKit
set_option linter.unusedVariables false

set_option maxRecDepth 100000 in
/-- append of nothing, or of bytes that lie somewhere -/
theorem wpl_append_at {w : World} {ops : Array Oper} {rest : List Oper} {o : Oper} {a : Act} {Q : Exit → Act → World → Prop} (hgd : o.guard = none) (s x : Operand)
    (ho : o.op = .call { callee := .builtin .append, args := #[s, x], argTypes := #[22, 22] })
    {B : Nat} {v : Value} {l l2 : List Int} {b off cu : Nat} (hown : Own w B v l) (hs : a.eval s = v) (hu : Bs w (.slice (some ⟨b, off, none⟩) l2.length cu) l2) (hx : a.eval x = .slice (some ⟨b, off, none⟩) l2.length cu) (hlen : l.length + l2.length ≤ 1073741824) (hB : B ≤ w.heap.size)
    (h : ∀ v' w', Own w' B v' (l ++ l2) → Grew w v w' v' → wpList Tryd.prog ops Q rest (a.put o.dst v') w') : wpList Tryd.prog ops Q (o :: rest) a w := by
  obtain ⟨i0, hi, hz0, hz1, hz2⟩ := info_parts infoU8
  obtain ⟨_, h8, au, cu', e, hc⟩ := hu
  refine wpList_append_own_at w hgd s x 22 ho B 5 i0 (.int .u8 0) 1 1 Tryd.underlying22 hi hz0 hz1 hz2 rfl (by decide) v l.length _ hs hown.2 ⟨b, off, none⟩ l2.length cu (l2.map (Value.int .u8)) hx (by simp) ?_ ?_ (by unfold maxLen; omega) (by omega) hB ?_
  · intro j u hj
    rw [cell_add]
    rw [List.getElem?_map] at hj
    cases hk : l2[j]? with
    | none => rw [hk] at hj; cases hj
    | some y =>
      rw [hk] at hj
      have hjl : j < l2.length := by
        rcases Nat.lt_or_ge j l2.length with h' | h'
        · exact h'
        · rw [List.getElem?_eq_none h'] at hk; cases hk
      obtain ⟨b', off', e', hcell⟩ := hc j hjl
      injection e with e1 e2 e3
      rw [← e1] at e'
      injection e' with e'
      injection e' with f1 f2 f3
      subst f1 f2
      rw [hcell j hjl, hk]
      exact hj
  · intro u hu
    simp only [List.mem_map] at hu
    obtain ⟨y, _, rfl⟩ := hu
    rfl
  · intro v' w' h2 h3 _ h5
    refine h v' w' ⟨fun y hy => ?_, by simpa using h2⟩ ⟨h3, h5.imp id fun e => ⟨_, e, Nat.le_refl _⟩⟩
    rcases List.mem_append.1 hy with hy | hy
    · exact hown.1 y hy
    · exact h8 y hy

set_option maxHeartbeats 1000000 in
set_option maxRecDepth 100000 in
theorem clone_any (b off cap : Nat) (l : List Int) (w : World) (hv : Bs w (.slice (some ⟨b, off, none⟩) l.length cap) l) (hl : l.length ≤ 1048576) :
    Calls Tryd.prog 70 #[.slice (some ⟨b, off, none⟩) l.length cap] w fun e w' => ∃ a' cap', e = .returned (.slice a' l.length cap') ∧ Own w' w.heap.size (.slice a' l.length cap') l ∧ Below w.heap.size w w' := by
  have h0 := Own.lit0 w
  have hv' : Hid (Bs (w.alloc (.cells #[] 5)) (.slice (some ⟨b, off, none⟩) l.length cap) l) := hv.below ((Below.refl _ _).alloc (Nat.le_refl _) _)
  have hnil : ∀ u : World, (binOp .eql 22 (.slice (some ⟨b, off, none⟩) l.length cap) (.slice none 0 0)).run Tryd.prog u = .ok (.bool false) u := fun u => by
    rw [Lib.run_eql_slice_nil u 22 5 (some ⟨b, off, none⟩) l.length cap 0 0 Tryd.underlying22]; rfl
  go_enter Tryd.func70, Tryd.ntmps70
  go_wp2_with (at_builtin; refine wpl_append_at rfl (.tmp 5) (.tmp 6) rfl h0 rfl hv'.out rfl (by simp; omega) (by simp) ?_; intro v3 w3 ho3 hg3; have hB3 := hg3.below h0 (by simp))
  go_ret
  rw [List.nil_append] at ho3
  obtain ⟨a', cap', rfl⟩ := ho3.shape
  exact ⟨_, _, rfl, ho3, ((Below.refl _ _).alloc (Nat.le_refl _) _).trans hB3⟩

theorem Own.setLow {w : World} {B : Nat} {v : Value} {l : List Int} (h : Own w B v l) {b i : Nat} (hb : b < B) (x : Value) : Own (w.setCell ⟨b, i, none⟩ x) B v l := by
  refine ⟨h.1, h.2.1, ?_⟩
  rcases h.2.2 with h | ⟨g, cap, cur, hv, hg, hh, r⟩
  · exact .inl h
  · exact .inr ⟨g, cap, cur, hv, hg, (Below.heap_setCell _ _ _ _ (fun e => by simp only at e; omega)).trans hh, r⟩

/-- a disk is well-formed -/
def diskB (c y : Int) (n : Nat) : Bool := inB c 0 1048576 && decide ((n : Int) ≤ c) && inB y 0 n
theorem diskB_le {c y : Int} {n : Nat} (h : diskB c y n = true) : n ≤ 1048576 ∧ 0 ≤ y ∧ y ≤ n ∧ 0 ≤ c ∧ c ≤ 1048576 ∧ (n : Int) ≤ c := by
  simp only [diskB, Bool.and_eq_true, inB_iff, decide_eq_true_eq] at h
  omega

set_option maxHeartbeats 1000000 in
set_option maxRecDepth 100000 in
theorem diskFits_any (c y : Int) (a : Option Addr) (n cap : Nat) (hn : n ≤ 1048576) (w : World) :
    Calls Tryd.prog 39 #[.agg #[.int .i64 c, .int .i64 y, .slice a n cap]] w fun e w' => e = .returned (.bool (diskB c y n)) ∧ Below w.heap.size w w' := by
  cases h1 : inB c 0 1048576
  · have hd : diskB c y n = false := by simp [diskB, h1]
    rw [hd]
    go_enter Tryd.func39, Tryd.ntmps39
    go_wp2_with (go_at_call 69; refine (within_any _ _ _ _).mono ?_; rintro e w1 ⟨rfl, rfl⟩; rw [h1])
    go_ret
    exact ⟨rfl, (Below.refl _ _).alloc (Nat.le_refl _) _⟩
  · by_cases h2 : (n : Int) ≤ c
    · have hd : diskB c y n = inB y 0 n := by simp [diskB, h1, h2]
      rw [hd]
      have g1 : True := trivial
      go_enter Tryd.func39, Tryd.ntmps39
      go_wp2_with (first
        | (go_at_call 69; clear g1; refine (within_any c 0 1048576 _).mono ?_; rintro e w1 ⟨rfl, rfl⟩; rw [h1])
        | (go_at_call 69; refine (within_any y 0 n _).mono ?_; rintro e w1 ⟨rfl, rfl⟩))
      go_ret
      exact ⟨rfl, (Below.refl _ _).alloc (Nat.le_refl _) _⟩
    · have hd : diskB c y n = false := by simp [diskB, h1, h2]
      rw [hd]
      go_enter Tryd.func39, Tryd.ntmps39
      go_wp2_with (go_at_call 69; refine (within_any _ _ _ _).mono ?_; rintro e w1 ⟨rfl, rfl⟩; rw [h1])
      go_ret
      exact ⟨rfl, (Below.refl _ _).alloc (Nat.le_refl _) _⟩

set_option maxHeartbeats 1000000 in
set_option maxRecDepth 100000 in
theorem l2diskOk_any (c y : Int) (a : Option Addr) (n cap : Nat) (hn : n ≤ 1048576) (w : World) :
    Calls Tryd.prog 35 #[.agg #[.int .i64 c, .int .i64 y, .slice a n cap]] w fun e w' => e = .returned (.bool (diskB c y n)) ∧ Below w.heap.size w w' := by
  cases h1 : inB c 0 1048576
  · have hd : diskB c y n = false := by simp [diskB, h1]
    rw [hd]
    go_enter Tryd.func35, Tryd.ntmps35
    go_wp2_with (go_at_call 65; refine (l1in_any _ _ _ _).mono ?_; rintro e w1 ⟨rfl, rfl⟩; rw [h1])
    go_ret
    exact ⟨rfl, (Below.refl _ _).alloc (Nat.le_refl _) _⟩
  · by_cases h2 : (n : Int) ≤ c
    · have hd : diskB c y n = inB y 0 n := by simp [diskB, h1, h2]
      rw [hd]
      have g1 : True := trivial
      go_enter Tryd.func35, Tryd.ntmps35
      go_wp2_with (first
        | (go_at_call 65; clear g1; refine (l1in_any c 0 1048576 _).mono ?_; rintro e w1 ⟨rfl, rfl⟩; rw [h1])
        | (go_at_call 65; refine (l1in_any y 0 n _).mono ?_; rintro e w1 ⟨rfl, rfl⟩))
      go_ret
      exact ⟨rfl, (Below.refl _ _).alloc (Nat.le_refl _) _⟩
    · have hd : diskB c y n = false := by simp [diskB, h1, h2]
      rw [hd]
      go_enter Tryd.func35, Tryd.ntmps35
      go_wp2_with (go_at_call 65; refine (l1in_any _ _ _ _).mono ?_; rintro e w1 ⟨rfl, rfl⟩; rw [h1])
      go_ret
      exact ⟨rfl, (Below.refl _ _).alloc (Nat.le_refl _) _⟩

theorem Bs.take {w : World} {a : Option Addr} {cap : Nat} {l : List Int} (h : Bs w (.slice a l.length cap) l) (n : Nat) (hn : n ≤ l.length) : Bs w (.slice a n cap) (l.take n) := by
  obtain ⟨hl, h8, a', cap', e, hc⟩ := h
  injection e with e1 e2 e3
  subst e1 e3
  have hlen : (l.take n).length = n := by rw [List.length_take]; omega
  refine ⟨by omega, fun x hx => h8 x (List.mem_of_mem_take hx), _, _, by rw [hlen], fun i hi => ?_⟩
  rw [hlen] at hi
  obtain ⟨b, off, rfl, hj⟩ := hc i (by omega)
  refine ⟨b, off, rfl, fun j hj' => ?_⟩
  rw [hlen] at hj'
  rw [hj j (by omega)]
  simp [hj']

set_option maxHeartbeats 1000000 in
set_option maxRecDepth 100000 in
theorem cutDisk_any (c y : Int) (b off cap : Nat) (l : List Int) (n : Nat) (w : World) (hv : Bs w (.slice (some ⟨b, off, none⟩) l.length cap) l) (hc : l.length ≤ cap) (hn : n ≤ l.length) (hl : l.length ≤ 1048576) :
    Calls Tryd.prog 40 #[.agg #[.int .i64 c, .int .i64 y, .slice (some ⟨b, off, none⟩) l.length cap], .int .i64 n] w fun e w' =>
      ∃ a' cap', e = .returned (.agg #[.int .i64 c, .int .i64 y, .slice a' n cap']) ∧ Own w' w.heap.size (.slice a' n cap') (l.take n) ∧ Below w.heap.size w w' := by
  have hlen : (l.take n).length = n := by rw [List.length_take]; omega
  have HT : Hid (∀ w', Below w.heap.size w w' → Calls Tryd.prog 70 #[.slice (some ⟨b, off, none⟩) n cap] w' fun e w'' => ∃ a' cap', e = .returned (.slice a' n cap') ∧ Own w'' w'.heap.size (.slice a' n cap') (l.take n) ∧ Below w'.heap.size w' w'') := fun w' hb => by
    have h := hv.take n hn
    have h2 := clone_any b off cap (l.take n) w' (by rw [hlen]; exact h.below hb) (by rw [hlen]; omega)
    rw [hlen] at h2
    exact h2
  have hb0 : Hid (Below w.heap.size w ((w.alloc (.cells #[.int .i64 c, .int .i64 y, .slice (some ⟨b, off, none⟩) l.length cap] 24)).alloc (.cells #[.int .i64 0, .int .i64 0, .slice none 0 0] 24))) := ((Below.refl _ _).alloc (Nat.le_refl _) _).alloc (by simp) _
  go_enter Tryd.func40, Tryd.ntmps40
  go_wp2_with (go_at_call 70; refine (HT.out _ hb0.out).mono ?_; rintro e w1 ⟨a1, cap1, rfl, ho1, hb1⟩; obtain ⟨hcc, hff⟩ := bcell hb1; have hz1 := hb1.size; simp at hz1; have k2 : w1.cell? ⟨w.heap.size, 2, none⟩ = some (.slice (some ⟨b, off, none⟩) l.length cap) := (hcc _ 2 (by simp; omega)).trans (by simp); have k2' := World.cell?_setCell_same w1 ⟨w.heap.size, 2, none⟩ (.slice a1 n cap1) k2; have r0 : w1.cell? ⟨w.heap.size + 1, 0, none⟩ = some (.int .i64 0) := (hcc _ 0 (by simp)).trans (by simp); have r1 : w1.cell? ⟨w.heap.size + 1, 1, none⟩ = some (.int .i64 0) := (hcc _ 1 (by simp)).trans (by simp); have r2 : w1.cell? ⟨w.heap.size + 1, 2, none⟩ = some (.slice none 0 0) := (hcc _ 2 (by simp)).trans (by simp))
  refine bodyPost_ret (v := .agg #[.int .i64 c, .int .i64 y, .slice a1 n cap1]) (by simp [results, Tryd.results40, go_sem, r0, r1, r2]) rfl ⟨_, _, rfl, ?_, ?_⟩
  · exact ((((ho1.setLow (by simp; omega) _).setLow (by simp) _).setLow (by simp) _).setLow (by simp) _).le (by simp; omega)
  · exact ((((hb0.out.trans (hb1.mono (by simp; omega))).setCell (Nat.le_refl _) _).setCell (Nat.le_succ _) _).setCell (Nat.le_succ _) _).setCell (Nat.le_succ _) _

/-! ### the specification's -/
set_option maxHeartbeats 1000000 in
set_option maxRecDepth 100000 in
theorem l1copy_any (a : Option Addr) (cap : Nat) (l : List Int) (w : World) (hv : Bs w (.slice a l.length cap) l) (hl : l.length ≤ 1048576) :
    Calls Tryd.prog 45 #[.slice a l.length cap] w fun e w' => ∃ a' cap', e = .returned (.slice a' l.length cap') ∧ Own w' w.heap.size (.slice a' l.length cap') l ∧ Below w.heap.size w w' := by
  have h0 := Own.lit0 w
  obtain ⟨hm, h8, a', cap', e, hc⟩ := hv
  injection e with e1 e2 e3
  subst e1 e3
  clear e2
  have h0' : Hid (Own (w.alloc (.cells #[] 5)) w.heap.size (.slice (some ⟨w.heap.size, 0, none⟩) 0 0) (l.take 0)) := h0
  clear h0
  go_enter Tryd.func45, Tryd.ntmps45
  go_wp2
  go_loopw [3, 4] (fun o i wr => ∃ k : Nat, k ≤ l.length ∧ i = .int .i64 k ∧ Own wr w.heap.size o (l.take k) ∧ Below w.heap.size w wr) (fun _ i _ => l.length - (intOf i).toNat)
  case atStart => exact ⟨0, Nat.zero_le _, rfl, h0'.out, (Below.refl _ _).alloc (Nat.le_refl _) _⟩
  case round =>
    obtain ⟨k, hk, rfl, ho, hb⟩ := hrel
    by_cases hlt : k < l.length
    · obtain ⟨b, off, rfl, hcell⟩ := hc k hlt
      have hck : wr.cell? ⟨b, off + k, none⟩ = some (.int .u8 (l[k]?.getD 0)) := by rw [hb.cell (cell_lt (hcell k hlt))]; exact hcell k hlt
      have h8k := byte_at h8 k
      have hlk : (l.take k).length = k := by rw [List.length_take]; omega
      have e1 : l.take (k + 1) = l.take k ++ [l[k]?.getD 0] := by rw [List.take_succ_eq_append_getElem hlt, List.getElem?_eq_getElem hlt]; rfl
      have HT : Hid (l.take (k + 1) = l.take k ++ [l[k]?.getD 0]) := e1
      have hz := hb.size
      clear hcell h8 hc e1
      generalize l[k]?.getD 0 = z at hck h8k HT
      obtain ⟨z0, z1⟩ := h8k
      go_wp2_with (at_builtin; refine wpl_append rfl (.tmp 12) (.tmp 17) rfl (ho.below ((Below.refl _ _).alloc (Nat.le_refl _) _)) rfl (Bs.one _ z ⟨z0, z1⟩) rfl (by simp) (by simp; omega) (by simp; omega) ?_; intro v2 w2 ho2 hg2)
      go_roundw
      case rel => exact ⟨k + 1, by omega, by go_num, by rw [HT.out]; exact ho2, hb.trans (((Below.refl _ _).alloc (by omega) _).trans (hg2.below (ho.below ((Below.refl _ _).alloc (Nat.le_refl _) _)) (by simp; omega)))⟩
      case measure => simp [intOf]; omega
    · have e : l.take k = l := List.take_of_length_le (by omega)
      rw [e] at ho
      obtain ⟨a', cap', rfl⟩ := ho.shape
      go_wp2
      go_ret
      exact ⟨_, _, rfl, ho, hb⟩

/-- a disk that a call answers: new memory -/
def DiskAt (w w' : World) (e : Ending) (C Y : Int) (L : List Int) : Prop :=
  ∃ a' cap', e = .returned (.agg #[.int .i64 C, .int .i64 Y, .slice a' L.length cap']) ∧ Own w' w.heap.size (.slice a' L.length cap') L ∧ Below w.heap.size w w'

end Go.Proofs.YtmbiccmndcchhagDoor
