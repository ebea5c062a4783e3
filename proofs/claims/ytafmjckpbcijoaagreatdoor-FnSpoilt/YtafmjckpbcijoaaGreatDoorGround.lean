import Derived.Test.YtafmjckpbcijoaaGreatDoorRows
import Derived.WalkKit
import Derived.WalkSpells
import Derived.RowKit3
import Derived.Below
import Derived.Deep.Light
import Derived.Deep.QuietTactic
import Derived.BigQuiet
import Derived.Laws.OwnMore
import Derived.Laws.BitsAllLaws
import Derived.OwnWalk
import Derived.Lib.AppendStr
import Derived.Maps.AppendAt
import Derived.Lib.SliceRun
import Derived.Deep.RegionWith
import Derived.LaidEql
import Derived.Stop.Asserts
import Derived.RowKitTokens
import Derived.Deep.MidRow
import Derived.Deep.WholeRow
/-
  Small things that every walk wants.
-/
namespace Go.Proofs.YtafmjckpbcijoaaGreatDoor
open Go.RowKit
set_option linter.unusedVariables false

theorem bcell {W w1 : World} (hb : Below W.heap.size W w1) : (∀ b o, b < W.heap.size → w1.cell? ⟨b, o, none⟩ = W.cell? ⟨b, o, none⟩) ∧ (∀ b o, b < W.heap.size → w1.frozen? ⟨b, o, none⟩ = W.frozen? ⟨b, o, none⟩) :=
  ⟨fun b o h => hb.cell (p := ⟨b, o, none⟩) h, fun b o h => hb.frozen (p := ⟨b, o, none⟩) h⟩

theorem ret_int {k : IntKind} {a b : Int} (h : a = b) : Ending.returned (.int k a) = .returned (.int k b) := by rw [h]

theorem ifc {α : Type} {p q : Prop} [Decidable p] [Decidable q] {a b c d : α} (h : p ↔ q) (h1 : a = c) (h2 : b = d) : (if p then a else b) = if q then c else d := by
  subst h1 h2
  by_cases hp : p
  · rw [if_pos hp, if_pos (h.1 hp)]
  · rw [if_neg hp, if_neg (fun hq => hp (h.2 hq))]
end Go.Proofs.YtafmjckpbcijoaaGreatDoor

/-
  Byte slices: what a slice value holds; laws.toByteS, laws.eqByteS.
-/
namespace Go.Proofs.YtafmjckpbcijoaaGreatDoor
open Go.RowKit
set_option linter.unusedVariables false

/-- the slice value v holds, in the world w, the bytes l -/
def Bs (w : World) (v : Value) (l : List Int) : Prop :=
  l.length ≤ maxLen ∧ (∀ x ∈ l, 0 ≤ x ∧ x ≤ 255) ∧
  ∃ a cap, v = .slice a l.length cap ∧ ∀ i, i < l.length → ∃ b off, a = some ⟨b, off, none⟩ ∧ ∀ j, j < l.length → w.cell? ⟨b, off + j, none⟩ = some (.int .u8 (l[j]?.getD 0))

theorem byte_at {l : List Int} (h : ∀ x ∈ l, 0 ≤ x ∧ x ≤ 255) (k : Nat) : 0 ≤ l[k]?.getD 0 ∧ l[k]?.getD 0 ≤ 255 := by
  rcases Nat.lt_or_ge k l.length with hk | hk
  · rw [List.getElem?_eq_getElem hk]; exact h _ (List.getElem_mem hk)
  · rw [List.getElem?_eq_none hk]; simp

theorem cell_lt {w : World} {b o : Nat} {v : Value} (h : w.cell? ⟨b, o, none⟩ = some v) : b < w.heap.size := by
  rcases Nat.lt_or_ge b w.heap.size with h' | h'
  · exact h'
  · rw [World.cell?, Array.getElem?_eq_none h'] at h; simp at h

theorem Bs.below {w w' : World} {v : Value} {l : List Int} (h : Bs w v l) (hb : Below w.heap.size w w') : Bs w' v l := by
  obtain ⟨hl, h8, a, cap, rfl, hc⟩ := h
  refine ⟨hl, h8, a, cap, rfl, fun i hi => ?_⟩
  obtain ⟨b, off, rfl, hj⟩ := hc i hi
  exact ⟨b, off, rfl, fun j hj' => by rw [hb.cell (cell_lt (hj j hj'))]; exact hj j hj'⟩


end Go.Proofs.YtafmjckpbcijoaaGreatDoor

/-
  Byte slices that the call itself owns; append to them.
-/
namespace Go.Proofs.YtafmjckpbcijoaaGreatDoor
open Go.RowKit
set_option linter.unusedVariables false

theorem infoU8 : (Tryz.prog.info? 5).map (fun i => (i.zero, i.size, i.bytes)) = some (some (.int .u8 0), 1, 1) := by kernel_rfl

/-- the slice value v, in memory from block B on that is the call's own, holds the bytes l -/
def Own (w : World) (B : Nat) (v : Value) (l : List Int) : Prop :=
  (∀ x ∈ l, 0 ≤ x ∧ x ≤ 255) ∧ w.ownsRow B 5 1 v l.length (l.map (Value.int .u8))

theorem Own.nil (w : World) (B : Nat) : Own w B (.slice none 0 0) [] := ⟨by simp, by simpa using World.ownsRow_nil w B 5 1⟩

theorem Own.shape {w : World} {B : Nat} {v : Value} {l : List Int} (h : Own w B v l) : ∃ a cap, v = .slice a l.length cap := by
  rcases h.2.2 with ⟨rfl, h0⟩ | ⟨g, cap, cur, rfl, _⟩
  · exact ⟨none, 0, by rw [h0]⟩
  · exact ⟨_, _, rfl⟩

theorem Own.shape' {w : World} {B : Nat} {v : Value} {l : List Int} (h : Own w B v l) (hl : 0 < l.length) : ∃ g cap, v = .slice (some ⟨g, 0, none⟩) l.length cap := by
  rcases h.2.2 with ⟨rfl, h0⟩ | ⟨g, cap, cur, rfl, _⟩
  · omega
  · exact ⟨_, _, rfl⟩

theorem Own.le {w : World} {B B' : Nat} {v : Value} {l : List Int} (h : Own w B v l) (hb : B' ≤ B) : Own w B' v l := by
  refine ⟨h.1, h.2.1, ?_⟩
  rcases h.2.2 with h | ⟨g, cap, cur, hv, hg, r⟩
  · exact .inl h
  · exact .inr ⟨g, cap, cur, hv, Nat.le_trans hb hg, r⟩

theorem heap_lt {w : World} {g : Nat} {o : Obj} (h : w.heap[g]? = some o) : g < w.heap.size := by
  rcases Nat.lt_or_ge g w.heap.size with h' | h'
  · exact h'
  · rw [Array.getElem?_eq_none h'] at h; cases h

theorem Own.below {w w' : World} {B : Nat} {v : Value} {l : List Int} (h : Own w B v l) (hb : Below w.heap.size w w') : Own w' B v l := by
  refine ⟨h.1, h.2.1, ?_⟩
  rcases h.2.2 with h | ⟨g, cap, cur, hv, hg, hh, r⟩
  · exact .inl h
  · exact .inr ⟨g, cap, cur, hv, hg, (hb.block g (heap_lt hh)).trans hh, r⟩

theorem Own.block {w w' : World} {B : Nat} {v : Value} {l : List Int} (h : Own w B v l) (hb : ∀ k, v.ownBlock = some k → w'.heap[k]? = w.heap[k]?) : Own w' B v l := by
  refine ⟨h.1, h.2.1, ?_⟩
  rcases h.2.2 with h | ⟨g, cap, cur, hv, hg, hh, r⟩
  · exact .inl h
  · subst hv
    exact .inr ⟨g, cap, cur, rfl, hg, (hb g rfl).trans hh, r⟩

theorem cell_add (b o j : Nat) : (⟨b, o, none⟩ : Addr).add j = ⟨b, o + j, none⟩ := by
  unfold Addr.add
  split
  · next h => subst h; rfl
  · rfl

theorem Own.bs {w : World} {B : Nat} {v : Value} {l : List Int} (h : Own w B v l) (hl : l.length ≤ maxLen) : Bs w v l := by
  obtain ⟨a, cap, rfl⟩ := h.shape
  refine ⟨hl, h.1, a, cap, rfl, fun i hi => ?_⟩
  obtain ⟨g, cap', e⟩ := h.shape' (by omega)
  simp only [Value.slice.injEq] at e
  obtain ⟨rfl, _, rfl⟩ := e
  refine ⟨g, 0, rfl, fun j hj => ?_⟩
  have := h.2.cellAt j (by omega)
  rw [Nat.zero_add, this]
  simp [hj]

theorem Own.lit (w : World) (l : List Int) (cs : Array Value) (hc : cs.toList = l.map (Value.int .u8)) (h8 : ∀ x ∈ l, 0 ≤ x ∧ x ≤ 255) (hl : l.length ≤ maxLen) :
    Own (w.alloc (.cells cs 5)) w.heap.size (.slice (some ⟨w.heap.size, 0, none⟩) l.length l.length) l := by
  have hs : cs.size = l.length := by rw [← Array.length_toList, hc, List.length_map]
  refine ⟨h8, by simp, .inr ⟨w.heap.size, l.length, cs, rfl, Nat.le_refl _, ?_, Nat.le_refl _, hl, by omega, ?_⟩⟩
  · show (w.heap.push _)[_]? = _
    simp
  · rw [hc, List.take_of_length_le (by simp)]

/-- w' is w but for v's own row and new blocks; the new value v' lies in v's row or in a new block -/
structure Grew (w : World) (v : Value) (w' : World) (v' : Value) : Prop where
  g : w.grownBy w' v.ownBlock
  at' : v'.ownBlock = v.ownBlock ∨ ∃ k, v'.ownBlock = some k ∧ w.heap.size ≤ k

theorem Grew.refl (w : World) (v : Value) : Grew w v w v := ⟨⟨rfl, rfl, rfl, Nat.le_refl _, fun _ _ _ => rfl⟩, .inl rfl⟩
theorem Grew.trans {w w1 w2 : World} {v v1 v2 : Value} (h : Grew w v w1 v1) (k : Grew w1 v1 w2 v2) : Grew w v w2 v2 := by
  have hs := h.g.size
  refine ⟨⟨k.g.os.trans h.g.os, k.g.tape.trans h.g.tape, k.g.output.trans h.g.output, Nat.le_trans h.g.size k.g.size, fun i hi hne => ?_⟩, ?_⟩
  · refine (k.g.block i (by omega) ?_).trans (h.g.block i hi hne)
    rcases h.at' with e | ⟨j, e, hj⟩
    · rw [e]; exact hne
    · rw [e]; intro he; injection he with he; omega
  · rcases k.at' with e | ⟨j, e, hj⟩
    · rw [e]; exact h.at'
    · exact .inr ⟨j, e, by omega⟩
theorem Grew.alloc {w w' : World} {v v' : Value} (h : Grew w v w' v') (o : Obj) : Grew w v (w'.alloc o) v' :=
  h.trans ⟨World.grownBy_alloc _ _ _, .inl rfl⟩
theorem Grew.below {B : Nat} {w w' : World} {v v' : Value} {l : List Int} (h : Grew w v w' v') (hown : Own w B v l) (hB : B ≤ w.heap.size) : Below B w w' :=
  (Below.refl _ _).grown h.g hB (fun k hk => (hown.2.lt k hk).1)
/-- a block that is not v's own stays -/
theorem Grew.block {w w' : World} {v v' : Value} (h : Grew w v w' v') {k : Nat} (hk : k < w.heap.size) (hne : v.ownBlock ≠ some k) : w'.heap[k]? = w.heap[k]? := h.g.block k hk (fun e => hne e.symm)
theorem Grew.far {w w' : World} {v v' : Value} (h : Grew w v w' v') {k : Nat} (hk : k < w.heap.size) (hne : v.ownBlock ≠ some k) : v'.ownBlock ≠ some k := by
  rcases h.at' with e | ⟨j, e, hj⟩
  · rw [e]; exact hne
  · rw [e]; intro he; injection he with he; omega
theorem Grew.cell {w w' : World} {v v' : Value} (h : Grew w v w' v') {k o : Nat} (hk : k < w.heap.size) (hne : v.ownBlock ≠ some k) : w'.cell? ⟨k, o, none⟩ = w.cell? ⟨k, o, none⟩ := World.cell?_of_block (w := w) (h.block hk hne)
theorem Grew.of_below {w w' : World} {v : Value} (h : Below w.heap.size w w') : Grew w v w' v := ⟨⟨h.os, h.tape, h.output, h.size, fun k hk _ => h.block k hk⟩, .inl rfl⟩

set_option maxRecDepth 100000 in
theorem wpl_append {w : World} {ops : Array Oper} {rest : List Oper} {o : Oper} {a : Act} {Q : Exit → Act → World → Prop} (hgd : o.guard = none) (s x : Operand)
    (ho : o.op = .call { callee := .builtin .append, args := #[s, x], argTypes := #[22, 22] })
    {B : Nat} {v u : Value} {l l2 : List Int} (hown : Own w B v l) (hs : a.eval s = v) (hu : Bs w u l2) (hx : a.eval x = u) (hne : 0 < l2.length) (hlen : l.length + l2.length ≤ 1073741824) (hB : B ≤ w.heap.size)
    (h : ∀ v' w', Own w' B v' (l ++ l2) → Grew w v w' v' → wpList Tryz.prog ops Q rest (a.put o.dst v') w') : wpList Tryz.prog ops Q (o :: rest) a w := by
  obtain ⟨i0, hi, hz0, hz1, hz2⟩ := info_parts infoU8
  obtain ⟨_, h8, au, cu, rfl, hc⟩ := hu
  obtain ⟨b, off, rfl, hcell⟩ := hc 0 hne
  refine wpList_append_own_at w hgd s x 22 ho B 5 i0 (.int .u8 0) 1 1 Tryz.underlying22 hi hz0 hz1 hz2 rfl (by decide) v l.length _ hs hown.2 ⟨b, off, none⟩ l2.length cu (l2.map (Value.int .u8)) hx (by simp) ?_ ?_ (by unfold maxLen; omega) (by omega) hB ?_
  · intro j u hj
    rw [cell_add]
    rw [List.getElem?_map] at hj
    cases hk : l2[j]? with
    | none => rw [hk] at hj; cases hj
    | some y =>
      rw [hk] at hj
      have hjl : j < l2.length := by
        rcases Nat.lt_or_ge j l2.length with h' | h'
        · exact h'
        · rw [List.getElem?_eq_none h'] at hk; cases hk
      rw [hcell j hjl, hk]
      exact hj
  · intro u hu
    simp only [List.mem_map] at hu
    obtain ⟨y, _, rfl⟩ := hu
    rfl
  · intro v' w' h2 h3 _ h5
    refine h v' w' ⟨fun y hy => ?_, by simpa using h2⟩ ⟨h3, h5.imp id fun e => ⟨_, e, Nat.le_refl _⟩⟩
    rcases List.mem_append.1 hy with hy | hy
    · exact hown.1 y hy
    · exact h8 y hy

/-- the bytes of a string -/
def strL (s : ByteArray) : List Int := s.data.toList.map fun c => (c.toNat : Int)
theorem strL_len (s : ByteArray) : (strL s).length = s.size := by simp [strL]
theorem strL_byte (s : ByteArray) : ∀ x ∈ strL s, 0 ≤ x ∧ x ≤ 255 := by
  intro x hx
  simp only [strL, List.mem_map] at hx
  obtain ⟨c, _, rfl⟩ := hx
  have := c.toNat_lt
  omega

set_option maxRecDepth 100000 in
theorem wpl_append_str {w : World} {ops : Array Oper} {rest : List Oper} {o : Oper} {a : Act} {Q : Exit → Act → World → Prop} (hgd : o.guard = none) (sl x : Operand)
    (ho : o.op = .call { callee := .builtin .append, args := #[sl, x], argTypes := #[22, 9] })
    {B : Nat} {v : Value} {l : List Int} {t : ByteArray} (hown : Own w B v l) (hpos : 0 < l.length) (hs : a.eval sl = v) (hx : a.eval x = .string t) (hlen : l.length + t.size ≤ 1073741824) (hB : B ≤ w.heap.size)
    (h : ∀ v' w', Own w' B v' (l ++ strL t) → Grew w v w' v' → wpList Tryz.prog ops Q rest (a.put o.dst v') w') : wpList Tryz.prog ops Q (o :: rest) a w := by
  obtain ⟨i0, hi, hz0, hz1, hz2⟩ := info_parts infoU8
  refine wpList_plain hgd fun K hK => ?_
  obtain ⟨v', w', hr, h2, h3, h4⟩ := Lib.run_append_own_string (P := Tryz.prog) w B 22 9 o.type 5 i0 Tryz.underlying22 Tryz.underlying9 hi hz0 hz1 hz2 v l.length _ hown.2 t (by unfold maxLen; omega) (by omega) hB
  have hat : v'.ownBlock = v.ownBlock ∨ ∃ k, v'.ownBlock = some k ∧ w.heap.size ≤ k := by
    rcases hown.2.2 with ⟨_, h0⟩ | ⟨g, cap, cur, rfl, hbg, hg, hnc, hcm, hcs, htake⟩
    · omega
    · have hcs' : cur.size = cap := by simpa using hcs
      by_cases hroom : l.length + t.size ≤ cap
      · have hr2 := Lib.run_append_room_string (P := Tryz.prog) w 22 9 o.type 5 i0 Tryz.underlying22 Tryz.underlying9 hi hz1 g l.length cap cur hg t hroom (by omega)
        rw [hr2] at hr
        injection hr with e1 e2
        rw [← e1]
        exact .inl rfl
      · have holds := hown.2.cells (g := g) rfl
        have hr2 := Lib.run_append_grow_string (P := Tryz.prog) w 22 9 o.type 5 i0 (.int .u8 0) Tryz.underlying22 Tryz.underlying9 hi hz0 ⟨g, 0, none⟩ l.length cap (l.map (Value.int .u8)) (by rw [hz1]; simp) holds t (by omega) (by omega) (by rw [hz2]; exact growslice_fits (by omega) (by omega))
        rw [hr2] at hr
        injection hr with e1 e2
        rw [← e1]
        exact .inr ⟨_, rfl, Nat.le_refl _⟩
  unfold Oper.wp execOp
  simp only [ho, resolve, invoke, builtin, Sem.run_bind, Sem.run_pure, Result.andThen_ok, List.map_toArray, List.map_cons, List.map_nil, hs, hx, hr]
  refine hK _ _ (h v' w' ⟨fun y hy => ?_, ?_⟩ ⟨h3, hat⟩)
  · rcases List.mem_append.1 hy with hy | hy
    · exact hown.1 y hy
    · exact strL_byte t y hy
  · have e : (l ++ strL t).map (Value.int .u8) = l.map (Value.int .u8) ++ Lib.strCells t := by
      rw [List.map_append]
      congr 1
      simp [strL, Lib.strCells]
    rw [e, List.length_append, strL_len]
    exact h2
end Go.Proofs.YtafmjckpbcijoaaGreatDoor

/-
  Bytes that the call lays itself: one, none.
-/
namespace Go.Proofs.YtafmjckpbcijoaaGreatDoor
open Go.RowKit
set_option linter.unusedVariables false

theorem Bs.one (w : World) (x : Int) (h : 0 ≤ x ∧ x ≤ 255) : Bs (w.alloc (.cells #[.int .u8 x] 5)) (.slice (some ⟨w.heap.size, 0, none⟩) 1 1) [x] := by
  have := (Own.lit w [x] #[.int .u8 x] rfl (by simpa using h) (by simp [maxLen])).bs (by simp [maxLen])
  simpa using this

theorem Own.lit0 (w : World) : Own (w.alloc (.cells #[] 5)) w.heap.size (.slice (some ⟨w.heap.size, 0, none⟩) 0 0) [] := Own.lit w [] #[] rfl (by simp) (by simp)

theorem Own.ne {w : World} {B : Nat} {v : Value} {l : List Int} (h : Own w B v l) {k : Nat} (hk : w.heap.size ≤ k) : v.ownBlock ≠ some k := by
  intro e
  have := (h.2.lt k e).2
  omega

end Go.Proofs.YtafmjckpbcijoaaGreatDoor

/-
  slices.Clone of bytes; spec.l1copy.
-/
namespace Go.Proofs.YtafmjckpbcijoaaGreatDoor
open Go.RowKit
set_option linter.unusedVariables false

set_option maxRecDepth 100000 in
/-- append of nothing, or of bytes that lie somewhere -/
theorem wpl_append_at {w : World} {ops : Array Oper} {rest : List Oper} {o : Oper} {a : Act} {Q : Exit → Act → World → Prop} (hgd : o.guard = none) (s x : Operand)
    (ho : o.op = .call { callee := .builtin .append, args := #[s, x], argTypes := #[22, 22] })
    {B : Nat} {v : Value} {l l2 : List Int} {b off cu : Nat} (hown : Own w B v l) (hs : a.eval s = v) (hu : Bs w (.slice (some ⟨b, off, none⟩) l2.length cu) l2) (hx : a.eval x = .slice (some ⟨b, off, none⟩) l2.length cu) (hlen : l.length + l2.length ≤ 1073741824) (hB : B ≤ w.heap.size)
    (h : ∀ v' w', Own w' B v' (l ++ l2) → Grew w v w' v' → wpList Tryz.prog ops Q rest (a.put o.dst v') w') : wpList Tryz.prog ops Q (o :: rest) a w := by
  obtain ⟨i0, hi, hz0, hz1, hz2⟩ := info_parts infoU8
  obtain ⟨_, h8, au, cu', e, hc⟩ := hu
  refine wpList_append_own_at w hgd s x 22 ho B 5 i0 (.int .u8 0) 1 1 Tryz.underlying22 hi hz0 hz1 hz2 rfl (by decide) v l.length _ hs hown.2 ⟨b, off, none⟩ l2.length cu (l2.map (Value.int .u8)) hx (by simp) ?_ ?_ (by unfold maxLen; omega) (by omega) hB ?_
  · intro j u hj
    rw [cell_add]
    rw [List.getElem?_map] at hj
    cases hk : l2[j]? with
    | none => rw [hk] at hj; cases hj
    | some y =>
      rw [hk] at hj
      have hjl : j < l2.length := by
        rcases Nat.lt_or_ge j l2.length with h' | h'
        · exact h'
        · rw [List.getElem?_eq_none h'] at hk; cases hk
      obtain ⟨b', off', e', hcell⟩ := hc j hjl
      injection e with e1 e2 e3
      rw [← e1] at e'
      injection e' with e'
      injection e' with f1 f2 f3
      subst f1 f2
      rw [hcell j hjl, hk]
      exact hj
  · intro u hu
    simp only [List.mem_map] at hu
    obtain ⟨y, _, rfl⟩ := hu
    rfl
  · intro v' w' h2 h3 _ h5
    refine h v' w' ⟨fun y hy => ?_, by simpa using h2⟩ ⟨h3, h5.imp id fun e => ⟨_, e, Nat.le_refl _⟩⟩
    rcases List.mem_append.1 hy with hy | hy
    · exact hown.1 y hy
    · exact h8 y hy

set_option maxHeartbeats 1000000 in
set_option maxRecDepth 100000 in
theorem clone_any (b off cap : Nat) (l : List Int) (w : World) (hv : Bs w (.slice (some ⟨b, off, none⟩) l.length cap) l) (hl : l.length ≤ 1048576) :
    Calls Tryz.prog 53 #[.slice (some ⟨b, off, none⟩) l.length cap] w fun e w' => ∃ a' cap', e = .returned (.slice a' l.length cap') ∧ Own w' w.heap.size (.slice a' l.length cap') l ∧ Below w.heap.size w w' := by
  have h0 := Own.lit0 w
  have hv' : Hid (Bs (w.alloc (.cells #[] 5)) (.slice (some ⟨b, off, none⟩) l.length cap) l) := hv.below ((Below.refl _ _).alloc (Nat.le_refl _) _)
  have hnil : ∀ u : World, (binOp .eql 22 (.slice (some ⟨b, off, none⟩) l.length cap) (.slice none 0 0)).run Tryz.prog u = .ok (.bool false) u := fun u => by
    rw [Lib.run_eql_slice_nil u 22 5 (some ⟨b, off, none⟩) l.length cap 0 0 Tryz.underlying22]; rfl
  go_enter Tryz.func53, Tryz.ntmps53
  go_wp2_with (at_builtin; refine wpl_append_at rfl (.tmp 5) (.tmp 6) rfl h0 rfl hv'.out rfl (by simp; omega) (by simp) ?_; intro v3 w3 ho3 hg3; have hB3 := hg3.below h0 (by simp))
  go_ret
  rw [List.nil_append] at ho3
  obtain ⟨a', cap', rfl⟩ := ho3.shape
  exact ⟨_, _, rfl, ho3, ((Below.refl _ _).alloc (Nat.le_refl _) _).trans hB3⟩

theorem Own.setLow {w : World} {B : Nat} {v : Value} {l : List Int} (h : Own w B v l) {b i : Nat} (hb : b < B) (x : Value) : Own (w.setCell ⟨b, i, none⟩ x) B v l := by
  refine ⟨h.1, h.2.1, ?_⟩
  rcases h.2.2 with h | ⟨g, cap, cur, hv, hg, hh, r⟩
  · exact .inl h
  · exact .inr ⟨g, cap, cur, hv, hg, (Below.heap_setCell _ _ _ _ (fun e => by simp only at e; omega)).trans hh, r⟩
end Go.Proofs.YtafmjckpbcijoaaGreatDoor

/-
  A byte set in a row of one's own.
-/
namespace Go.Proofs.YtafmjckpbcijoaaGreatDoor
open Go.RowKit
set_option linter.unusedVariables false
set_option linter.unusedSimpArgs false

theorem Own.store {w : World} {B g cap : Nat} {l : List Int} (h : Own w B (.slice (some ⟨g, 0, none⟩) l.length cap) l) (j : Nat) (x : Int) (h8 : 0 ≤ x ∧ x ≤ 255) :
    Own (w.setCell ⟨g, j, none⟩ (.int .u8 x)) B (.slice (some ⟨g, 0, none⟩) l.length cap) (l.set j x) := by
  refine ⟨fun y hy => ?_, ?_⟩
  · rcases List.mem_or_eq_of_mem_set hy with hy | rfl
    · exact h.1 y hy
    · exact h8
  · have := (h.2.stored j (.int .u8 x)).1
    simpa [List.map_set] using this
end Go.Proofs.YtafmjckpbcijoaaGreatDoor

/-
  impl.within.
-/
namespace Go.Proofs.YtafmjckpbcijoaaGreatDoor
open Go.RowKit
set_option linter.unusedVariables false

/-- in a range, as a Bool that the walk leaves whole -/
def inB (n lo hi : Int) : Bool := decide (lo ≤ n) && decide (n ≤ hi)
theorem inB_iff (n lo hi : Int) : inB n lo hi = true ↔ lo ≤ n ∧ n ≤ hi := by simp [inB]
theorem inB_not (n lo hi : Int) : inB n lo hi = false ↔ (n < lo ∨ hi < n) := by
  by_cases h1 : lo ≤ n <;> by_cases h2 : n ≤ hi <;> simp [inB, h1, h2] <;> omega

set_option maxHeartbeats 400000 in
theorem within_any (n lo hi : Int) (w : World) :
    Calls Tryz.prog 52 #[.int .i64 n, .int .i64 lo, .int .i64 hi] w fun e w' => e = .returned (.bool (inB n lo hi)) ∧ w' = w := by
  by_cases h1 : lo ≤ n
  · by_cases h2 : n ≤ hi
    · have hb : inB n lo hi = true := by simp [inB, h1, h2]
      rw [hb]
      go_enter Tryz.func52, Tryz.ntmps52
      go_wp2
      go_ret
      exact ⟨rfl, rfl⟩
    · have hb : inB n lo hi = false := by simp [inB, h1]; omega
      rw [hb]
      go_enter Tryz.func52, Tryz.ntmps52
      go_wp2
      go_ret
      exact ⟨by simp, rfl⟩
  · have hb : inB n lo hi = false := by simp [inB]; omega
    rw [hb]
    go_enter Tryz.func52, Tryz.ntmps52
    go_wp2
    go_ret
    exact ⟨rfl, rfl⟩

end Go.Proofs.YtafmjckpbcijoaaGreatDoor

/-
  spec.l1in.
-/
namespace Go.Proofs.YtafmjckpbcijoaaGreatDoor
open Go.RowKit
set_option linter.unusedVariables false

theorem l1in_any (n lo hi : Int) (w : World) :
    Calls Tryz.prog 25 #[.int .i64 n, .int .i64 lo, .int .i64 hi] w fun e w' => e = .returned (.bool (inB n lo hi)) ∧ w' = w := by
  by_cases h1 : lo ≤ n
  · by_cases h2 : n ≤ hi
    · have hb : inB n lo hi = true := by simp [inB, h1, h2]
      rw [hb]
      go_enter Tryz.func25, Tryz.ntmps25
      go_wp2
      go_ret
      exact ⟨rfl, rfl⟩
    · have hb : inB n lo hi = false := by simp [inB, h1]; omega
      rw [hb]
      go_enter Tryz.func25, Tryz.ntmps25
      go_wp2
      go_ret
      exact ⟨by simp, rfl⟩
  · have hb : inB n lo hi = false := by simp [inB]; omega
    rw [hb]
    go_enter Tryz.func25, Tryz.ntmps25
    go_wp2
    go_ret
    exact ⟨rfl, rfl⟩

end Go.Proofs.YtafmjckpbcijoaaGreatDoor

/-
  impl.mod and spec.l1mod: the document's mod.
-/
namespace Go.Proofs.YtafmjckpbcijoaaGreatDoor
open Go.RowKit
set_option linter.unusedVariables false

theorem tmod_lo (x n : Int) (hn : 0 < n) : -n < x.tmod n := Int.lt_tmod_of_pos x hn
theorem tmod_hi (x n : Int) (hn : 0 < n) : x.tmod n < n := Int.tmod_lt_of_pos x hn
theorem tmod_neg (x n : Int) (hn : 0 < n) (h : x.tmod n < 0) : x.tmod n + n = x % n := by
  have e := Int.tmod_add_mul_tdiv x n
  have b1 := tmod_lo x n hn
  have hx : x = (x.tmod n + n) + n * (x.tdiv n - 1) := by rw [Int.mul_sub]; omega
  have : x % n = ((x.tmod n + n) + n * (x.tdiv n - 1)) % n := by rw [← hx]
  rw [this, Int.add_mul_emod_self_left, Int.emod_eq_of_lt] <;> omega
theorem tmod_pos (x n : Int) (hn : 0 < n) (h : ¬ x.tmod n < 0) : x.tmod n = x % n := by
  have e := Int.tmod_add_mul_tdiv x n
  have b2 := tmod_hi x n hn
  have : x % n = (x.tmod n + n * x.tdiv n) % n := by rw [e]
  rw [this, Int.add_mul_emod_self_left, Int.emod_eq_of_lt] <;> omega

/-- the document's mod, as a name that the walk leaves whole -/
def modI (x n : Int) : Int := x % n
theorem modI_ge (x n : Int) (hn : 0 < n) : 0 ≤ modI x n := Int.emod_nonneg _ (by omega)
theorem modI_lt (x n : Int) (hn : 0 < n) : modI x n < n := Int.emod_lt_of_pos _ hn

set_option maxHeartbeats 400000 in
theorem mod_any (x n : Int) (hn : 0 < n) (hN : n < 2 ^ 62) (hx : -(2 ^ 63) ≤ x) (hX : x < 2 ^ 63) (w : World) :
    Calls Tryz.prog 54 #[.int .i64 x, .int .i64 n] w fun e w' => e = .returned (.int .i64 (modI x n)) ∧ w' = w := by
  have b1 := tmod_lo x n hn
  have b2 := tmod_hi x n hn
  by_cases h : x.tmod n < 0
  · have hb := tmod_neg x n hn h
    unfold modI; rw [← hb]
    go_enter Tryz.func54, Tryz.ntmps54
    go_wp2
    go_ret
    exact ⟨by simp; omega, rfl⟩
  · have hb := tmod_pos x n hn h
    unfold modI; rw [← hb]
    go_enter Tryz.func54, Tryz.ntmps54
    go_wp2
    go_ret
    exact ⟨by simp, rfl⟩
end Go.Proofs.YtafmjckpbcijoaaGreatDoor

/-
  impl.Spoil.
-/
namespace Go.Proofs.YtafmjckpbcijoaaGreatDoor
open Go.RowKit
set_option linter.unusedVariables false

def xorB (c m : Int) : Int := bits .xor .u8 c m
/-- what Spoil answers -/
def spoilL (l : List Int) (at' x : Int) : List Int :=
  if inB l.length 1 16384 = true then l.set (modI at' l.length).toNat (xorB (l[(modI at' l.length).toNat]?.getD 0) (1 + modI x 255)) else []
theorem spoilL_le (l : List Int) (at' x : Int) : (spoilL l at' x).length ≤ l.length := by unfold spoilL; split <;> simp
theorem xorB_byte (c m : Int) (h0 : 0 ≤ c) (h1 : c ≤ 255) (h2 : 0 ≤ m) (h3 : m ≤ 255) : 0 ≤ xorB c m ∧ xorB c m ≤ 255 := by
  obtain ⟨a, rfl⟩ := Int.eq_ofNat_of_zero_le h0
  obtain ⟨b, rfl⟩ := Int.eq_ofNat_of_zero_le h2
  have e : xorB a b = ((a ^^^ b : Nat) : Int) := u8_xor_nat a b (by omega) (by omega)
  have hlt : a ^^^ b < 256 := Nat.xor_lt_two_pow (n := 8) (by omega) (by omega)
  rw [e]
  omega

set_option maxHeartbeats 20000000 in
set_option maxRecDepth 100000 in
theorem spoil_any (b off cap : Nat) (l : List Int) (at' x : Int) (w : World) (hv : Bs w (.slice (some ⟨b, off, none⟩) l.length cap) l) (hl : l.length ≤ 1048576) (ha : -(2 ^ 63) ≤ at') (ha' : at' < 2 ^ 63) (hx : -(2 ^ 63) ≤ x) (hx' : x < 2 ^ 63) :
    Calls Tryz.prog 27 #[.slice (some ⟨b, off, none⟩) l.length cap, .int .i64 at', .int .i64 x] w fun e w' => ∃ a' cap', e = .returned (.slice a' (spoilL l at' x).length cap') ∧ Own w' w.heap.size (.slice a' (spoilL l at' x).length cap') (spoilL l at' x) ∧ Below w.heap.size w w' := by
  cases hi : inB l.length 1 16384
  · have e : spoilL l at' x = [] := by simp [spoilL, hi]
    rw [e]
    go_enter Tryz.func27, Tryz.ntmps27
    go_wp2_with (go_at_call 52; refine (within_any _ _ _ _).mono ?_; rintro e w1 ⟨rfl, hw⟩; obtain rfl := hw.symm; rw [hi])
    go_ret
    exact ⟨none, 0, rfl, Own.nil _ _, Below.refl _ _⟩
  · have hi' := (inB_iff _ _ _).mp hi
    have m0 := modI_ge at' l.length (by omega)
    have m1 := modI_lt at' l.length (by omega)
    have e : spoilL l at' x = l.set (modI at' l.length).toNat (xorB (l[(modI at' l.length).toNat]?.getD 0) (1 + modI x 255)) := by unfold spoilL; rw [if_pos hi]
    rw [e]
    obtain ⟨k, hk⟩ := Int.eq_ofNat_of_zero_le m0
    rw [hk, Int.toNat_natCast, List.length_set]
    have hkl : k < l.length := by omega
    have n0 := modI_ge x 255 (by omega)
    have n1 := modI_lt x 255 (by omega)
    obtain ⟨cc, hcc⟩ : ∃ z, z = l[k]?.getD 0 := ⟨_, rfl⟩
    rw [← hcc]
    go_enter Tryz.func27, Tryz.ntmps27
    go_wp2_with (first
      | (go_at_call 52; refine (within_any _ _ _ _).mono ?_; rintro e w1 ⟨rfl, hw⟩; obtain rfl := hw.symm; rw [hi])
      | (go_at_call 53; refine (clone_any b off cap l _ hv (by omega)).mono ?_; rintro e w2 ⟨a2, cap2, rfl, ho2, hb2⟩; obtain ⟨g, cg, eg⟩ := ho2.shape' (by omega); simp only [Value.slice.injEq] at eg; obtain ⟨rfl, _, rfl⟩ := eg; have hfz := ho2.2.frozenAt k; have hcl : w2.cell? ⟨g, k, none⟩ = some (.int .u8 cc) := (by rw [hcc, ho2.2.cellAt k (by omega)]; simp [hkl]); have h8 := byte_at ho2.1 k; rw [← hcc] at h8; have HO : Hid (Own w2 w.heap.size (.slice (some ⟨g, 0, none⟩) l.length cap2) l) := ho2; clear ho2))
    have hxb := xorB_byte (cc) (1 + modI x 255) h8.1 h8.2 (by omega) (by omega)
    have HST := HO.out.store k _ hxb
    have HS : Hid (Own (w2.setCell ⟨g, k, none⟩ (.int .u8 (xorB (cc) (1 + modI x 255)))) w.heap.size (.slice (some ⟨g, 0, none⟩) l.length cap2) (l.set k (xorB (cc) (1 + modI x 255)))) := HST
    have hgB : w.heap.size ≤ g := (HO.out.2.lt g rfl).1
    have HB : Hid (Below w.heap.size w (w2.setCell ⟨g, k, none⟩ (.int .u8 (xorB (cc) (1 + modI x 255))))) := hb2.setCell hgB _
    have hkl' : (k : Int) < (l.length : Int) := by omega
    have hw1 : IntKind.i64.wrap (1 + modI x 255) = 1 + modI x 255 := by simp [IntKind.wrap, IntKind.signed, IntKind.bits]; omega
    have hw2 : IntKind.u8.wrap (1 + modI x 255) = 1 + modI x 255 := by simp [IntKind.wrap, IntKind.signed, IntKind.bits]; omega
    clear hb2 hv hi hkl HST hxb HO e hcc
    go_region_with (go_at_call 54; refine (mod_any _ _ (by omega) (by omega) (by omega) (by omega) _).mono ?_; rintro e w3 ⟨rfl, hw⟩; obtain rfl := hw.symm; (try rw [hk]))
    all_goals go_wp2
    all_goals go_ret
    all_goals exact ⟨_, _, rfl, HS.out, HB.out.drew⟩
end Go.Proofs.YtafmjckpbcijoaaGreatDoor

/-
  The check sum: the program's and the specification's, over one plain function of lists.
-/
namespace Go.Proofs.YtafmjckpbcijoaaGreatDoor
open Go.RowKit
set_option linter.unusedVariables false

def stepN (r : Nat) : Nat := if r % 2 = 1 then (r / 2) ^^^ 3988292384 else r / 2
def stepsN : Nat → Nat → Nat
  | 0, r => r
  | n + 1, r => stepN (stepsN n r)
/-- the register behind the first k bytes -/
def crcSt (l : List Int) : Nat → Nat
  | 0 => 4294967295
  | k + 1 => stepsN 8 (crcSt l k ^^^ (l[k]?.getD 0).toNat)

theorem stepN_lt (q : Nat) (h : q < 4294967296) : stepN q < 4294967296 := by
  unfold stepN
  split
  · exact Nat.xor_lt_two_pow (n := 32) (by omega) (by decide)
  · omega
theorem stepsN_lt (n q : Nat) (h : q < 4294967296) : stepsN n q < 4294967296 := by
  induction n with
  | zero => exact h
  | succ n ih => exact stepN_lt _ ih
theorem xor_lt (a b : Nat) (ha : a < 4294967296) (hb : b < 4294967296) : a ^^^ b < 4294967296 := Nat.xor_lt_two_pow (n := 32) ha hb
theorem crcSt_lt (l : List Int) (h8 : ∀ x ∈ l, 0 ≤ x ∧ x ≤ 255) (k : Nat) : crcSt l k < 4294967296 := by
  induction k with
  | zero => exact (by decide : (4294967295 : Nat) < 4294967296)
  | succ k ih =>
    have := byte_at h8 k
    exact stepsN_lt _ _ (xor_lt _ _ ih (by omega))

theorem bit0 (q : Nat) (hq : q < 4294967296) : bits .and .u32 (q : Int) 1 = ((q % 2 : Nat) : Int) := by
  have := u32_and_nat q 1 hq (by decide)
  rw [Nat.and_one_is_mod] at this
  exact this
theorem i1 (q : Nat) (hq : q < 4294967296) (h : (bits .and .u32 (q : Int) 1 == 1) = true) : bits .xor .u32 ((q : Int) / 2) 3988292384 = ((stepN q : Nat) : Int) := by
  rw [bit0 q hq] at h
  have h' : q % 2 = 1 := by simp at h; omega
  have := u32_xor_nat (q / 2) 3988292384 (by omega) (by decide)
  rw [stepN, if_pos h']
  rw [← this]
  congr 1
theorem i0 (q : Nat) (hq : q < 4294967296) (h : (bits .and .u32 (q : Int) 1 == 1) = false) : (q : Int) / 2 = ((stepN q : Nat) : Int) := by
  rw [bit0 q hq] at h
  have h' : ¬ q % 2 = 1 := by simp at h; omega
  rw [stepN, if_neg h']
  rfl
theorem x0 (r : Nat) (c : Int) (hr : r < 4294967296) (h0 : 0 ≤ c) (h1 : c ≤ 255) : bits .xor .u32 (r : Int) c = ((r ^^^ c.toNat : Nat) : Int) := by
  have e : c = (c.toNat : Int) := by omega
  have := u32_xor_nat r c.toNat hr (by omega)
  rw [← e] at this
  exact this

theorem xor_max (r : Nat) (hr : r < 4294967296) : bits .xor .u32 (r : Int) 4294967295 = ((r ^^^ 4294967295 : Nat) : Int) := u32_xor_nat r 4294967295 hr (by decide)
theorem max_xor (r : Nat) (hr : r < 4294967296) : bits .xor .u32 IntKind.u32.max (r : Int) = ((r ^^^ 4294967295 : Nat) : Int) := by
  rw [Nat.xor_comm]
  exact u32_xor_nat 4294967295 r (by decide) hr

/-! the specification's step: its register is the program's, with the rest of the byte taken out again -/
theorem low_eq (S d r : Nat) (hr : r = S ^^^ d) (hr' : r < 4294967296) (hd : d < 4294967296) :
    bits .and .u32 (bits .xor .u32 (r : Int) (bits .and .u32 (d : Int) 1)) 1 = ((S % 2 : Nat) : Int) := by
  rw [bit0 d hd, u32_xor_nat r (d % 2) hr' (by omega), bit0 _ (xor_lt _ _ hr' (by omega))]
  congr 1
  subst hr
  have m2 : ∀ a b : Nat, (a ^^^ b) % 2 = (a % 2) ^^^ (b % 2) := fun a b => Nat.xor_mod_two_pow (n := 1)
  rw [m2, m2, Nat.mod_mod, Nat.xor_assoc, Nat.xor_self, Nat.xor_zero]
theorem half_xor (S d : Nat) : (S ^^^ d) / 2 = (S / 2) ^^^ (d / 2) := by
  have := Nat.shiftRight_xor_distrib (a := S) (b := d) (i := 1)
  simpa [Nat.shiftRight_eq_div_pow] using this
theorem half_pow (c j : Nat) : c / 2 ^ j / 2 = c / 2 ^ (j + 1) := by rw [Nat.div_div_eq_div_mul, Nat.pow_succ]
theorem byte_shift (c : Int) (j : Nat) (h0 : 0 ≤ c) (h1 : c ≤ 255) : c / 2 ^ j % 4294967296 = ((c.toNat / 2 ^ j : Nat) : Int) := by
  obtain ⟨n, rfl⟩ := Int.eq_ofNat_of_zero_le h0
  have h : n / 2 ^ j ≤ n := Nat.div_le_self _ _
  have e : ((n : Int) / 2 ^ j) = ((n / 2 ^ j : Nat) : Int) := by simp
  rw [e]
  simp only [Int.toNat_natCast]
  generalize n / 2 ^ j = d at h
  omega
theorem s1 (S c : Nat) (j : Nat) (lk : Int) (h0 : 0 ≤ lk) (h1 : lk ≤ 255) (hc : c = lk.toNat) (hS : S < 4294967296)
    (h : (bits .and .u32 (bits .xor .u32 ((S ^^^ c / 2 ^ j : Nat) : Int) (bits .and .u32 (lk / 2 ^ j % 4294967296) 1)) 1 == 1) = true) :
    bits .xor .u32 (((S ^^^ c / 2 ^ j : Nat) : Int) / 2) 3988292384 = ((stepN S ^^^ c / 2 ^ (j + 1) : Nat) : Int) := by
  have hd : c / 2 ^ j ≤ c := Nat.div_le_self _ _
  have hlt := xor_lt S (c / 2 ^ j) hS (by omega)
  rw [byte_shift lk j h0 h1, ← hc, low_eq S (c / 2 ^ j) _ rfl hlt (by omega)] at h
  have h' : S % 2 = 1 := by simp at h; omega
  rw [stepN, if_pos h', ← half_pow]
  have := u32_xor_nat ((S ^^^ c / 2 ^ j) / 2) 3988292384 (by omega) (by decide)
  rw [half_xor] at this
  have e : ((S ^^^ c / 2 ^ j : Nat) : Int) / 2 = (((S / 2) ^^^ (c / 2 ^ j / 2) : Nat) : Int) := by rw [← half_xor]; rfl
  rw [e]
  refine this.trans ?_
  congr 1
  rw [Nat.xor_assoc, Nat.xor_comm (c / 2 ^ j / 2), ← Nat.xor_assoc]
theorem s0 (S c : Nat) (j : Nat) (lk : Int) (h0 : 0 ≤ lk) (h1 : lk ≤ 255) (hc : c = lk.toNat) (hS : S < 4294967296)
    (h : (bits .and .u32 (bits .xor .u32 ((S ^^^ c / 2 ^ j : Nat) : Int) (bits .and .u32 (lk / 2 ^ j % 4294967296) 1)) 1 == 1) = false) :
    ((S ^^^ c / 2 ^ j : Nat) : Int) / 2 = ((stepN S ^^^ c / 2 ^ (j + 1) : Nat) : Int) := by
  have hd : c / 2 ^ j ≤ c := Nat.div_le_self _ _
  have hlt := xor_lt S (c / 2 ^ j) hS (by omega)
  rw [byte_shift lk j h0 h1, ← hc, low_eq S (c / 2 ^ j) _ rfl hlt (by omega)] at h
  have h' : ¬ S % 2 = 1 := by simp at h; omega
  rw [stepN, if_neg h', ← half_pow, ← half_xor]
  rfl
end Go.Proofs.YtafmjckpbcijoaaGreatDoor

/-
  The check sum finds one changed byte: the register's step loses nothing.
-/
namespace Go.Proofs.YtafmjckpbcijoaaGreatDoor
open Go.RowKit
set_option linter.unusedVariables false

theorem xor_can {a b c : Nat} (h : a ^^^ c = b ^^^ c) : a = b := by
  have h2 : (a ^^^ c) ^^^ c = (b ^^^ c) ^^^ c := by rw [h]
  rwa [Nat.xor_assoc, Nat.xor_self, Nat.xor_zero, Nat.xor_assoc, Nat.xor_self, Nat.xor_zero] at h2
theorem stepN_top {a : Nat} (h : a < 4294967296) : (stepN a).testBit 31 = decide (a % 2 = 1) := by
  have e : (a / 2).testBit 31 = false := Nat.testBit_lt_two_pow (by omega)
  unfold stepN
  split
  · rename_i h1
    rw [Nat.testBit_xor, e, decide_eq_true h1]
    decide
  · rename_i h1
    rw [e, decide_eq_false h1]
theorem stepN_inj {a b : Nat} (ha : a < 4294967296) (hb : b < 4294967296) (h : stepN a = stepN b) : a = b := by
  have t : decide (a % 2 = 1) = decide (b % 2 = 1) := by rw [← stepN_top ha, ← stepN_top hb, h]
  unfold stepN at h
  by_cases h1 : a % 2 = 1
  · have h2 : b % 2 = 1 := by simpa [h1] using t
    rw [if_pos h1, if_pos h2] at h
    have := xor_can h
    omega
  · have h2 : ¬ b % 2 = 1 := by simpa [h1] using t
    rw [if_neg h1, if_neg h2] at h
    omega
theorem stepsN_inj (n : Nat) {a b : Nat} (ha : a < 4294967296) (hb : b < 4294967296) (h : stepsN n a = stepsN n b) : a = b := by
  induction n with
  | zero => exact h
  | succ n ih => exact ih (stepN_inj (stepsN_lt n a ha) (stepsN_lt n b hb) h)
/-- as long as the bytes are the same, the register is -/
theorem crcSt_same (l m : List Int) (k : Nat) (h : ∀ i < k, l[i]? = m[i]?) : crcSt l k = crcSt m k := by
  induction k with
  | zero => rfl
  | succ k ih => rw [crcSt, crcSt, ih (fun i hi => h i (by omega)), h k (by omega)]
/-- one byte is another, those behind it are the same: the register is another ever after -/
theorem crcSt_diff (l m : List Int) (h8 : ∀ x ∈ l, 0 ≤ x ∧ x ≤ 255) (m8 : ∀ x ∈ m, 0 ≤ x ∧ x ≤ 255) (p : Nat) (hl : p < l.length) (hm : p < m.length)
    (hne : l[p] ≠ m[p]) (h : ∀ i, i ≠ p → l[i]? = m[i]?) (k : Nat) (hk : p < k) : crcSt l k ≠ crcSt m k := by
  induction k with
  | zero => omega
  | succ k ih =>
    have b1 := byte_at h8 k
    have b2 := byte_at m8 k
    intro e
    rw [crcSt, crcSt] at e
    have e' := stepsN_inj 8 (xor_lt _ _ (crcSt_lt l h8 k) (by omega)) (xor_lt _ _ (crcSt_lt m m8 k) (by omega)) e
    by_cases hp : p = k
    · subst hp
      rw [crcSt_same l m p (fun i hi => h i (by omega)), Nat.xor_comm, Nat.xor_comm (crcSt m p)] at e'
      have e2 := xor_can e'
      rw [List.getElem?_eq_getElem hl] at e2 b1
      rw [List.getElem?_eq_getElem hm] at e2 b2
      simp only [Option.getD_some] at e2 b1 b2
      exact hne (by omega)
    · rw [h k (by omega)] at e'
      exact ih (by omega) (xor_can e')

end Go.Proofs.YtafmjckpbcijoaaGreatDoor

/-
  Reading a body from left to right: on lists.
-/
namespace Go.Proofs.YtafmjckpbcijoaaGreatDoor
open Go.RowKit
set_option linter.unusedVariables false

/-- what the first k bytes of a number's form add up to -/
def valL (l : List Int) : Nat → Nat
  | 0 => 0
  | k + 1 => valL l k + (l[k]?.getD 0).toNat % 128 * 128 ^ k
theorem valL_lt (l : List Int) (k : Nat) : valL l k < 128 ^ k := by
  induction k with
  | zero => simp [valL]
  | succ k ih =>
    have h : (l[k]?.getD 0).toNat % 128 ≤ 127 := by omega
    have := Nat.mul_le_mul_right (128 ^ k) h
    rw [valL, Nat.pow_succ]
    omega

/-- the number whose form begins at place k, in at most f bytes: its value and how many bytes there are in all -/
def numAt (l : List Int) : Nat → Nat → Option (Nat × Nat)
  | 0, _ => none
  | f + 1, k =>
    if k < l.length then
      (if 128 ≤ l[k]?.getD 0 then numAt l f (k + 1)
       else if l[k]?.getD 0 = 0 ∧ 0 < k then none
       else some (valL l (k + 1), k + 1))
    else none
def numR (l : List Int) : Option (Nat × Nat) := numAt l 5 0

theorem numAt_bounds (l : List Int) (f : Nat) : ∀ k v n, f + k ≤ 5 → numAt l f k = some (v, n) → n ≤ l.length ∧ k < n ∧ v < 34359738368 := by
  induction f with
  | zero => intro k v n _ h; cases h
  | succ f ih =>
    intro k v n hk h
    unfold numAt at h
    split at h
    · next hl =>
      split at h
      · have := ih (k + 1) v n (by omega) h
        omega
      · split at h
        · cases h
        · injection h with h
          injection h with h1 h2
          have hv := valL_lt l (k + 1)
          have hp : 128 ^ (k + 1) ≤ 128 ^ 5 := Nat.pow_le_pow_right (by decide) (by omega)
          have : (128 : Nat) ^ 5 = 34359738368 := by decide
          omega
    · cases h
theorem numR_bounds {l : List Int} {v n : Nat} (h : numR l = some (v, n)) : n ≤ l.length ∧ 0 < n ∧ v < 34359738368 := numAt_bounds l 5 0 v n (by decide) h

/-- a reader's state: what is left, none behind a refusal -/
abbrev RSt := Option (List Int)

def rdNum : RSt → Nat × RSt
  | none => (0, none)
  | some l => match numR l with
    | none => (0, none)
    | some (v, n) => (v, some (l.drop n))
theorem rdNum_lt (st : RSt) : (rdNum st).1 < 34359738368 := by
  unfold rdNum
  split
  · simp
  · split
    · simp
    · next h => exact (numR_bounds h).2.2
def stLen : RSt → Nat
  | none => 0
  | some l => l.length
theorem rdNum_len (st : RSt) : stLen (rdNum st).2 ≤ stLen st := by
  unfold rdNum
  split
  · simp
  · split
    · simp [stLen]
    · next h => simp [stLen]

/-- the text of bytes -/
def textOf (l : List Int) : ByteArray := strOfNums l

def rdText (st : RSt) : ByteArray × RSt :=
  match (rdNum st).2 with
  | none => (ByteArray.empty, none)
  | some l => if 64 < (rdNum st).1 ∨ l.length < (rdNum st).1 then (ByteArray.empty, none) else (strOfNums (l.take (rdNum st).1), some (l.drop (rdNum st).1))

theorem rdText_size (st : RSt) : (rdText st).1.size ≤ 64 := by
  unfold rdText
  split
  · decide
  · split
    · decide
    · next h =>
      rw [strOfNums_size, List.length_take]
      omega
theorem rdText_len (st : RSt) : stLen (rdText st).2 ≤ stLen st := by
  have h := rdNum_len st
  unfold rdText
  split
  · simp [stLen]
  · next l e =>
    rw [e] at h
    split
    · simp [stLen]
    · simp only [stLen, List.length_drop] at h ⊢
      omega

theorem i64_or_nat (a b : Nat) (ha : a < 9223372036854775808) (hb : b < 9223372036854775808) : bits .or .i64 (a : Int) (b : Int) = ((a ||| b : Nat) : Int) := by
  have hx : a ||| b < 2 ^ 63 := Nat.or_lt_two_pow (by omega) (by omega)
  show IntKind.i64.wrap ((BitVec.ofInt 64 (a : Int) ||| BitVec.ofInt 64 (b : Int)).toNat : Int) = _
  rw [BitVec.toNat_or, ofInt_u64 a (by omega), ofInt_u64 b (by omega)]
  rw [IntKind.wrap_i64]
  omega
theorem or_step (a x k : Nat) (ha : a < 128 ^ k) (hx : x < 128) (hk : k ≤ 4) : bits .or .i64 (a : Int) ((x : Int) * 128 ^ k) = ((a + x * 128 ^ k : Nat) : Int) := by
  have h2 : (128 : Nat) ^ k = 2 ^ (7 * k) := by rw [Nat.pow_mul]
  have hp : 128 ^ k ≤ 128 ^ 4 := Nat.pow_le_pow_right (by decide) hk
  have h5 : (128 : Nat) ^ 4 = 268435456 := by decide
  have hm : x * 128 ^ k ≤ 127 * 128 ^ k := Nat.mul_le_mul_right _ (by omega)
  have e : (x : Int) * 128 ^ k = ((x * 128 ^ k : Nat) : Int) := by simp
  rw [e, i64_or_nat a (x * 128 ^ k) (by omega) (by omega)]
  congr 1
  rw [Nat.or_comm, nat_join (7 * k) (x * 128 ^ k) a (by rw [h2]; exact Nat.mul_mod_left _ _) (by rw [← h2]; exact ha), Nat.add_comm]
theorem and_127 (c : Int) (h0 : 0 ≤ c) (h1 : c ≤ 255) : bits .and .u8 c 127 = ((c.toNat % 128 : Nat) : Int) := by
  rw [u8_and c 127 h0 (by omega) (by decide) (by decide)]
  congr 1
  exact Nat.and_two_pow_sub_one_eq_mod _ 7
end Go.Proofs.YtafmjckpbcijoaaGreatDoor

/-
  Over a store into a row.
-/
namespace Go.Proofs.YtafmjckpbcijoaaGreatDoor
open Go.RowKit
set_option linter.unusedVariables false

theorem Rd.frame {w : World} {b : Nat} (x : Nat) (v : Value) : w.grownBy (w.setCell ⟨b, x, none⟩ v) (some b) :=
  ⟨rfl, rfl, rfl, by simp [World.setCell], fun k _ hk => Below.heap_setCell _ _ _ _ (fun e => hk (by rw [e]))⟩

theorem grownBy_trans {w w1 w2 : World} {row : Option Nat} (h : w.grownBy w1 row) (k : w1.grownBy w2 row) : w.grownBy w2 row :=
  ⟨k.os.trans h.os, k.tape.trans h.tape, k.output.trans h.output, Nat.le_trans h.size k.size, fun i hi hne => (k.block i (Nat.lt_of_lt_of_le hi h.size) hne).trans (h.block i hi hne)⟩
theorem grownBy_refl (w : World) (row : Option Nat) : w.grownBy w row := ⟨rfl, rfl, rfl, Nat.le_refl _, fun _ _ _ => rfl⟩
end Go.Proofs.YtafmjckpbcijoaaGreatDoor

/-
  errors.Is and errors.As at the errors of the wire: nil, and a refusal that wraps a sentinel.
-/
namespace Go.Proofs.YtafmjckpbcijoaaGreatDoor
open Go.RowKit Go.Extern.Stop Go.Stop Go.Extern
set_option linter.unusedVariables false

/-- the value of a sentinel -/
abbrev sentV (a : Addr) : Value := .iface 160 (.pointer (some a))
/-- an error that wraps the sentinel at a, with a fault -/
abbrev refV (a : Addr) (f : Int) : Value := .iface 102 (.agg #[sentV a, .int .i64 f])

theorem isTypeOf (v : Value) (w : World) : (Extern.ReflectliteType.typeOf #[.iface 160 v]).run Tryz.prog w = .ok (.iface 145 (.agg #[.pointer (some ⟨7, 160, none⟩)])) w := by kernel_rfl
def cmpM : Array Value → Sem Value := Extern.ReflectliteType.method fun t => do Rtype.noPackHeld "Comparable" t; pure (.bool (← typeInfo t).comparable)
theorem isComparable (w : World) : (cmpM #[.agg #[.pointer (some ⟨7, 160, none⟩)]]).run Tryz.prog w = .ok (.bool true) w := by kernel_rfl
theorem isMethodComparable (v : Value) (w : World) : (Go.method 300 145 v "Comparable").run Tryz.prog w = .ok (143, v) w := by kernel_rfl
theorem isComp : (Tryz.prog.info? 160).map (·.comparable) = some true := by kernel_rfl
theorem isSize : (Tryz.prog.info? 188).map (·.size) = some 1 := by kernel_rfl
theorem noIsE (v : Value) (xT : TypeId) (w : World) : (Instr.typeAssert (.iface 160 v) xT 147 true).run Tryz.prog w = .ok (.tuple #[.nilIface, .bool false]) w := run_typeAssert_lacksB Tryz.underlying147 (by kernel_rfl) (by kernel_rfl) v xT w
theorem noUnwrapE (v : Value) (xT : TypeId) (w : World) : (Instr.typeAssert (.iface 160 v) xT 150 true).run Tryz.prog w = .ok (.tuple #[.nilIface, .bool false]) w := run_typeAssert_lacksB Tryz.underlying150 (by kernel_rfl) (by kernel_rfl) v xT w
theorem noUnwrapsE (v : Value) (xT : TypeId) (w : World) : (Instr.typeAssert (.iface 160 v) xT 151 true).run Tryz.prog w = .ok (.tuple #[.nilIface, .bool false]) w := run_typeAssert_lacksB Tryz.underlying151 (by kernel_rfl) (by kernel_rfl) v xT w
theorem noIsW (v : Value) (xT : TypeId) (w : World) : (Instr.typeAssert (.iface 102 v) xT 147 true).run Tryz.prog w = .ok (.tuple #[.nilIface, .bool false]) w := run_typeAssert_lacksB Tryz.underlying147 (by kernel_rfl) (by kernel_rfl) v xT w
theorem hasUnwrapW (v : Value) (xT : TypeId) (w : World) : (Instr.typeAssert (.iface 102 v) xT 150 true).run Tryz.prog w = .ok (.tuple #[.iface 102 v, .bool true]) w := run_typeAssert_hasB Tryz.underlying150 (by kernel_rfl) v xT w
theorem methodUnwrap (v : Value) (w : World) : (Go.method 300 102 v "Unwrap").run Tryz.prog w = .ok (137, v) w := by kernel_rfl

theorem refusal_unwrap (a : Addr) (f : Int) (w : World) :
    Calls Tryz.prog 137 #[.agg #[sentV a, .int .i64 f]] w fun e w' => e = .returned (sentV a) ∧ w' = w.alloc (.cells #[sentV a, .int .i64 f] 102) := by
  go_enter Tryz.func137, Tryz.ntmps137
  go_wp2
  go_ret
  exact ⟨rfl, rfl⟩

/-- errors.Is(nil, x). -/
theorem is_nil (b : Addr) (w : World) :
    Calls Tryz.prog 76 #[.nilIface, sentV b] w fun e w' => e = .returned (.bool false) ∧ w' = w := by
  have hn := run_eql_iface_nil_left (P := Tryz.prog) w 160 (.pointer (some b)) Tryz.underlying80
  go_enter Tryz.func76, Tryz.ntmps76
  go_wp2
  go_ret
  exact ⟨rfl, rfl⟩

/-- errors.Is(e, x), e a refusal that wraps x itself: one Unwrap, then equal. -/
theorem is_same (b : Addr) (f : Int) (w : World) :
    Calls Tryz.prog 76 #[refV b f, sentV b] w fun e w' => e = .returned (.bool true) ∧ Below w.heap.size w w' := by
  obtain ⟨i, hi, hcmp⟩ := Option.map_eq_some_iff.1 isComp
  obtain ⟨j, hj, hjs⟩ := Option.map_eq_some_iff.1 isSize
  have h8 := @run_callFunc_extern Tryz.prog 85 _ Extern.ReflectliteType.typeOf Tryz.func85 (by kernel_rfl) (by kernel_rfl) (by kernel_rfl) (by kernel_rfl)
  have h32 := @run_callFunc_extern Tryz.prog 143 _ cmpM Tryz.func143 (by kernel_rfl) (by kernel_rfl) (by kernel_rfl) (by kernel_rfl)
  have tT := isTypeOf
  have cT := isComparable
  have mR := isMethodComparable
  have nW := noIsW
  have uW := hasUnwrapW
  have mU := methodUnwrap
  have heq := run_eql_iface_ptr_same (P := Tryz.prog) (w.alloc (.cells #[sentV b, .int .i64 f] 102)) b Tryz.underlying80 Tryz.underlying160 hi hcmp hj
  have hty := run_eql_iface_types (P := Tryz.prog) 102 160 (.agg #[sentV b, .int .i64 f]) (.pointer (some b)) Tryz.underlying80 (by decide) w
  go_enter Tryz.func76, Tryz.ntmps76
  go_wp2
  refine wp_loop_rounds 2 ?_
  rw [rounds_succ]
  go_wp2
  rw [rounds_succ]
  go_wp2
  go_ret
  exact ⟨rfl, (Below.refl _ _).alloc (Nat.le_refl _) _⟩

/-- errors.Is(e, x), e a refusal that wraps another sentinel. -/
theorem is_other (a b : Addr) (f : Int) (ca cb : Array Value) (ta tb : TypeId) (w : World) (hne : a ≠ b) (ha : w.heap[a.block]? = some (.cells ca ta (0, 0))) (hb : w.heap[b.block]? = some (.cells cb tb (0, 0))) :
    Calls Tryz.prog 76 #[refV a f, sentV b] w fun e w' => e = .returned (.bool false) ∧ Below w.heap.size w w' := by
  obtain ⟨i, hi, hcmp⟩ := Option.map_eq_some_iff.1 isComp
  obtain ⟨j, hj, hjs⟩ := Option.map_eq_some_iff.1 isSize
  have h8 := @run_callFunc_extern Tryz.prog 85 _ Extern.ReflectliteType.typeOf Tryz.func85 (by kernel_rfl) (by kernel_rfl) (by kernel_rfl) (by kernel_rfl)
  have h32 := @run_callFunc_extern Tryz.prog 143 _ cmpM Tryz.func143 (by kernel_rfl) (by kernel_rfl) (by kernel_rfl) (by kernel_rfl)
  have tT := isTypeOf
  have cT := isComparable
  have mR := isMethodComparable
  have nE := noIsE
  have uE := noUnwrapE
  have vE := noUnwrapsE
  have nW := noIsW
  have uW := hasUnwrapW
  have mU := methodUnwrap
  have al : ∀ (k : Nat) (o : Obj), w.heap[k]? = some o → (w.alloc (.cells #[sentV a, .int .i64 f] 102)).heap[k]? = some o := fun k o h => by
    have hlt : k < w.heap.size := by
      rcases Nat.lt_or_ge k w.heap.size with h' | h'
      · exact h'
      · rw [Array.getElem?_eq_none h'] at h; cases h
    show (w.heap.push _)[k]? = _
    rw [Array.getElem?_push, if_neg (Nat.ne_of_lt hlt)]
    exact h
  have heq := run_eql_iface_ptr_other (P := Tryz.prog) (w.alloc (.cells #[sentV a, .int .i64 f] 102)) Tryz.underlying80 Tryz.underlying160 hi hcmp hj (by rw [hjs]; decide) hne (al _ _ ha) (al _ _ hb)
  have hty := run_eql_iface_types (P := Tryz.prog) 102 160 (.agg #[sentV a, .int .i64 f]) (.pointer (some b)) Tryz.underlying80 (by decide) w
  go_enter Tryz.func76, Tryz.ntmps76
  go_wp2
  refine wp_loop_rounds 2 ?_
  rw [rounds_succ]
  go_wp2
  rw [rounds_succ]
  go_wp2
  go_ret
  exact ⟨rfl, (Below.refl _ _).alloc (Nat.le_refl _) _⟩
end Go.Proofs.YtafmjckpbcijoaaGreatDoor

/-
  The six sentinels.
-/
namespace Go.Proofs.YtafmjckpbcijoaaGreatDoor
open Go.RowKit Go.Extern.Stop Go.Stop Go.Extern
set_option linter.unusedVariables false

/-- the six sentinels lie at A 1 .. A 6, in the order of the codes -/
structure Sents (w : World) (A : Nat → Addr) (B : Nat) : Prop where
  g1 : w.cell? ⟨2, 0, none⟩ = some (sentV (A 1))
  g2 : w.cell? ⟨3, 0, none⟩ = some (sentV (A 2))
  g3 : w.cell? ⟨4, 0, none⟩ = some (sentV (A 3))
  g4 : w.cell? ⟨0, 0, none⟩ = some (sentV (A 4))
  g5 : w.cell? ⟨5, 0, none⟩ = some (sentV (A 5))
  g6 : w.cell? ⟨1, 0, none⟩ = some (sentV (A 6))
  ty : w.cell? ⟨6, 0, none⟩ = some (.iface 145 (.agg #[.pointer (some ⟨7, 80, none⟩)]))
  row : ∀ i, 1 ≤ i → i ≤ 6 → ∃ c t, w.heap[(A i).block]? = some (.cells c t (0, 0))
  ne : ∀ i j, 1 ≤ i → i ≤ 6 → 1 ≤ j → j ≤ 6 → i ≠ j → A i ≠ A j
  gl : 7 ≤ B
  lt : ∀ i, 1 ≤ i → i ≤ 6 → (A i).block < B
  le : B ≤ w.heap.size

theorem Sents.kept {w w' : World} {A : Nat → Addr} {B : Nat} (h : Sents w A B) (hb : Below B w w') : Sents w' A B := by
  have hg := h.gl
  have c : ∀ {k o : Nat} {v : Value}, k < B → w.cell? ⟨k, o, none⟩ = some v → w'.cell? ⟨k, o, none⟩ = some v := fun {k o v} hk hc => by rw [hb.cell (p := ⟨k, o, none⟩) hk]; exact hc
  refine ⟨c (by omega) h.g1, c (by omega) h.g2, c (by omega) h.g3, c (by omega) h.g4, c (by omega) h.g5, c (by omega) h.g6, c (by omega) h.ty, fun i h1 h6 => ?_, h.ne, hg, h.lt, Nat.le_trans h.le hb.size⟩
  obtain ⟨x, t, e⟩ := h.row i h1 h6
  exact ⟨x, t, (hb.block _ (h.lt i h1 h6)).trans e⟩
theorem Sents.below {w w' : World} {A : Nat → Addr} {B : Nat} (h : Sents w A B) (hb : Below w.heap.size w w') : Sents w' A B := h.kept (hb.mono h.le)

theorem is_at {w : World} {A : Nat → Addr} {B : Nat} (hs : Sents w A B) (i j : Nat) (f : Int) (h1 : 1 ≤ i) (h6 : i ≤ 6) (k1 : 1 ≤ j) (k6 : j ≤ 6) :
    Calls Tryz.prog 76 #[refV (A i) f, sentV (A j)] w fun e w' => e = .returned (.bool (decide (i = j))) ∧ Below w.heap.size w w' := by
  by_cases e : i = j
  · subst e
    simpa using is_same (A i) f w
  · obtain ⟨c, t, hc⟩ := hs.row i h1 h6
    obtain ⟨c', t', hc'⟩ := hs.row j k1 k6
    simpa [e] using is_other (A i) (A j) f c c' t t' w (hs.ne i j h1 h6 k1 k6 e) hc hc'
end Go.Proofs.YtafmjckpbcijoaaGreatDoor

/-
  impl.reader in memory; refuse, number.
-/
namespace Go.Proofs.YtafmjckpbcijoaaGreatDoor
open Go.RowKit
set_option linter.unusedVariables false

/-- a slice value whose length is within its capacity; it lies below D -/
def Fits (D : Nat) (v : Value) (l : List Int) : Prop := ∃ a n c, v = .slice a n c ∧ n ≤ c ∧ (0 < l.length → ∃ x, a = some x ∧ x.block < D)

/-- the reader that lies in block b, B ≤ b < D, has the state st; its bytes lie below D -/
def Rd (w : World) (b : Nat) (A : Nat → Addr) (B D : Nat) (st : RSt) : Prop :=
  B ≤ b ∧ b < D ∧ D ≤ w.heap.size ∧ (∀ i, w.frozen? ⟨b, i, none⟩ = false) ∧
  match st with
  | none => w.cell? ⟨b, 0, none⟩ = some (.slice none 0 0) ∧ w.cell? ⟨b, 1, none⟩ = some (refV (A 5) 0)
  | some l => (∃ v, w.cell? ⟨b, 0, none⟩ = some v ∧ Bs w v l ∧ Fits D v l) ∧ w.cell? ⟨b, 1, none⟩ = some .nilIface

def noByte : Value → Prop
  | .int .u8 _ => False
  | _ => True

/-- bytes stay where a cell that is no byte is written -/
theorem Bs.setCell {w : World} {v : Value} {l : List Int} (h : Bs w v l) {b i : Nat} {x : Value} (hx : w.cell? ⟨b, i, none⟩ = some x) (hn : noByte x) (y : Value) : Bs (w.setCell ⟨b, i, none⟩ y) v l := by
  obtain ⟨hl, h8, a, cap, rfl, hc⟩ := h
  refine ⟨hl, h8, a, cap, rfl, fun k hk => ?_⟩
  obtain ⟨b', off, rfl, hj⟩ := hc k hk
  refine ⟨b', off, rfl, fun j hj' => ?_⟩
  rw [World.cell?_setCell_other w _ _ _ ?_]
  · exact hj j hj'
  · intro e
    have hj2 := hj j hj'
    rw [← e, hx] at hj2
    injection hj2 with e'
    rw [e'] at hn
    exact hn

theorem Bs.drop {w : World} {a : Option Addr} {n c : Nat} {l : List Int} (h : Bs w (.slice a n c) l) (hc : n ≤ c) {D : Nat} (hD : 0 < l.length → ∃ x, a = some x ∧ x.block < D) (k : Nat) (hk : k ≤ l.length) :
    Bs w (sliced a k n c 1) (l.drop k) ∧ Fits D (sliced a k n c 1) (l.drop k) := by
  obtain ⟨hl, h8, a', cap, e, hcell⟩ := h
  injection e with e1 e2 e3
  subst e1 e2 e3
  refine ⟨⟨by simp; omega, fun x hx => h8 x (List.mem_of_mem_drop hx), _, c - k, by simp [sliced]; rfl, fun i hi => ?_⟩, ⟨_, _, _, rfl, by omega, fun hp => ?_⟩⟩
  rotate_left
  · rw [List.length_drop] at hp
    obtain ⟨x, rfl, hx⟩ := hD (by omega)
    rw [if_neg (by omega)]
    refine ⟨_, rfl, ?_⟩
    show (x.add (k * 1)).block < D
    unfold Addr.add
    split <;> exact hx
  rw [List.length_drop] at hi
  obtain ⟨b, off, rfl, hj⟩ := hcell 0 (by omega)
  refine ⟨b, off + k, ?_, fun j hj' => ?_⟩
  · rw [if_neg (by omega)]
    simp [cell_add]
  · rw [List.length_drop] at hj'
    have := hj (k + j) (by omega)
    rw [← Nat.add_assoc] at this
    rw [this, List.getElem?_drop]

theorem size5 : ∀ w, (Go.sizeOf 5).run Tryz.prog w = .ok 1 w := fun w => by kernel_rfl


theorem grown_below {w w' : World} {b B : Nat} (h : w.grownBy w' (some b)) (hb : B ≤ b) (hB : B ≤ w.heap.size) : Below B w w' :=
  (Below.refl _ _).grown h hB (fun k hk => by injection hk with hk; omega)

theorem Rd.below {w w' : World} {b : Nat} {A : Nat → Addr} {B D : Nat} {st : RSt} (h : Rd w b A B D st) (hb : Below D w w') : Rd w' b A B D st := by
  obtain ⟨hB, hbD, hDw, hf, h⟩ := h
  refine ⟨hB, hbD, Nat.le_trans hDw hb.size, fun i => by rw [hb.frozen (p := ⟨b, i, none⟩) hbD]; exact hf i, ?_⟩
  have c := fun (o : Nat) => hb.cell (p := ⟨b, o, none⟩) hbD
  cases st with
  | none => exact ⟨(c 0).trans h.1, (c 1).trans h.2⟩
  | some l =>
    obtain ⟨⟨v, h0, hbs, hfit⟩, h1⟩ := h
    refine ⟨⟨v, (c 0).trans h0, ?_, hfit⟩, (c 1).trans h1⟩
    obtain ⟨a, n, cc, rfl, _, hD⟩ := hfit
    obtain ⟨hl, h8, a', cap, e, hc⟩ := hbs
    injection e with e1 e2 e3
    subst e1 e2 e3
    refine ⟨hl, h8, _, _, rfl, fun i hi => ?_⟩
    obtain ⟨b', off, rfl, hj⟩ := hc i hi
    obtain ⟨x, ex, hx⟩ := hD (by omega)
    injection ex with ex
    subst ex
    exact ⟨b', off, rfl, fun j hj' => by rw [hb.cell (p := ⟨b', off + j, none⟩) hx]; exact hj j hj'⟩

theorem refuse_any (b : Nat) (w : World) (A : Nat → Addr) (B D : Nat) (st : RSt) (hs : Sents w A B) (h : Rd w b A B D st) :
    Calls Tryz.prog 82 #[.pointer (some ⟨b, 0, none⟩)] w fun e w' => (∃ v, e = .returned v) ∧ Rd w' b A B D none ∧ w.grownBy w' (some b) := by
  obtain ⟨hB, hbD, hDw, hf, h⟩ := h
  have hg := hs.g5
  have hn := hs.gl
  have hf0 := hf 0
  have hf1 := hf 1
  have hne : b ≠ 5 := by omega
  have h0 : ∃ v, w.cell? ⟨b, 0, none⟩ = some v := by
    cases st with
    | none => exact ⟨_, h.1⟩
    | some l => obtain ⟨⟨v, hv, _⟩, _⟩ := h; exact ⟨v, hv⟩
  obtain ⟨v0, h0⟩ := h0
  have o1 : ⟨b, 0, none⟩ ≠ (⟨b, 1, none⟩ : Addr) := by intro h; injection h with _ h2 _; cases h2
  have o5 : ⟨b, 0, none⟩ ≠ (⟨5, 0, none⟩ : Addr) := by intro h; injection h with h2 _ _; exact hne h2
  have e1 := fun y => World.cell?_setCell_other w ⟨b, 0, none⟩ ⟨b, 1, none⟩ y o1
  have e5 := fun y => World.cell?_setCell_other w ⟨b, 0, none⟩ ⟨5, 0, none⟩ y o5
  have e0 := fun y => World.cell?_setCell_same w ⟨b, 0, none⟩ y h0
  cases st with
  | none =>
    obtain ⟨_, h1⟩ := h
    go_enter Tryz.func82, Tryz.ntmps82
    go_wp2
    (try simp only [Exit.inBlock, Exit.then])
    refine bodyPost_end (results_none rfl _ _ _) rfl ?_
    refine ⟨⟨_, rfl⟩, ⟨hB, hbD, by simpa [World.setCell] using hDw, fun i => ?_, ?_, ?_⟩, Rd.frame _ _⟩
    · rw [World.frozen?_setCell]; exact hf i
    · exact e0 _
    · exact (e1 _).trans h1
  | some l =>
    obtain ⟨_, h1⟩ := h
    go_enter Tryz.func82, Tryz.ntmps82
    go_wp2
    (try simp only [Exit.inBlock, Exit.then])
    refine bodyPost_end (results_none rfl _ _ _) rfl ?_
    refine ⟨⟨_, rfl⟩, ⟨hB, hbD, by simpa [World.setCell] using hDw, fun i => ?_, ?_, ?_⟩, grownBy_trans (Rd.frame _ _) (Rd.frame _ _)⟩
    · rw [World.frozen?_setCell, World.frozen?_setCell]; exact hf i
    · rw [World.cell?_setCell_other _ _ _ _ (Ne.symm o1)]; exact e0 _
    · exact World.cell?_setCell_same _ _ _ ((e1 _).trans h1)

set_option maxHeartbeats 4000000 in
set_option maxRecDepth 100000 in
theorem number_any (b : Nat) (w : World) (A : Nat → Addr) (B D : Nat) (st : RSt) (hs : Sents w A B) (h : Rd w b A B D st) :
    Calls Tryz.prog 91 #[.pointer (some ⟨b, 0, none⟩)] w fun e w' => e = .returned (.int .i64 ((rdNum st).1 : Nat)) ∧ Rd w' b A B D (rdNum st).2 ∧ w.grownBy w' (some b) := by
  have HR : Hid (Rd w b A B D st) := h
  obtain ⟨hB, hbD, hDw, hf, h⟩ := h
  cases st with
  | none =>
    obtain ⟨h0, h1⟩ := h
    go_enter Tryz.func91, Tryz.ntmps91
    go_wp2
    refine wp_loop_rounds 1 ?_
    rw [rounds_succ]
    go_wp2_with (go_at_call 82; refine (refuse_any b w A B D none hs HR.out).mono ?_; rintro e w1 ⟨⟨v, rfl⟩, hr, hg⟩)
    go_ret
    exact ⟨rfl, hr, hg⟩
  | some l =>
    obtain ⟨⟨v, h0, hbs, hfit⟩, h1⟩ := h
    have HB : Hid (Bs w v l) := hbs
    obtain ⟨a, n, c, rfl, hnc, hD⟩ := hfit
    obtain ⟨hl, h8, a', cap, e, hc⟩ := hbs
    injection e with e1 e2 e3
    subst e1 e2 e3
    unfold maxLen at hl
    have hf0 := hf 0
    go_enter Tryz.func91, Tryz.ntmps91
    go_wp2
    go_loop [3, 4] (fun m i => ∃ k : Nat, k ≤ 5 ∧ i = .int .i64 k ∧ m = .int .i64 (valL l k : Nat) ∧ numR l = numAt l (5 - k) k) (fun _ i => 5 - (intOf i).toNat)
    case atStart => exact ⟨0, by omega, rfl, rfl, rfl⟩
    case round =>
      obtain ⟨k, hk, rfl, rfl, hnum⟩ := hrel
      by_cases hk5 : k < 5
      · by_cases hlt : k < l.length
        · obtain ⟨b', off, rfl, hcell⟩ := hc k hlt
          have hck := hcell k hlt
          have h8k := byte_at h8 k
          have hA := and_127 _ h8k.1 h8k.2
          have hx : (l[k]?.getD 0).toNat % 128 < 128 := Nat.mod_lt _ (by decide)
          have hO := or_step (valL l k) ((l[k]?.getD 0).toNat % 128) k (valL_lt l k) hx (by omega)
          have hS : Hid (valL l (k + 1) = valL l k + (l[k]?.getD 0).toNat % 128 * 128 ^ k) := rfl
          have hN : Hid (numAt l (5 - k) k = if 128 ≤ l[k]?.getD 0 then numAt l (5 - (k + 1)) (k + 1) else if l[k]?.getD 0 = 0 ∧ 0 < k then none else some (valL l (k + 1), k + 1)) := by
            have e : 5 - k = (5 - (k + 1)) + 1 := by omega
            rw [e]
            show numAt l _ k = _
            rw [numAt, if_pos hlt]
          have eg : l[k]?.getD 0 = l[k] := by simp [hlt]
          rw [eg] at hck h8k hA hx hO hS hN
          generalize hxx : l[k].toNat % 128 = x at hA hx hO hS
          generalize hcc : l[k] = cc at hck h8k hA hN
          generalize hvv : valL l k = V at hO hS
          obtain ⟨b0, b1⟩ := h8k
          clear hxx hcc hvv hcell hc eg h8
          by_cases h128 : 128 ≤ cc
          · rw [if_pos h128] at hN
            obtain rfl | rfl | rfl | rfl | rfl : k = 0 ∨ k = 1 ∨ k = 2 ∨ k = 3 ∨ k = 4 := by omega
            all_goals
              simp at hO
              (try rw [Nat.add_zero] at hck)
              go_wp2
              go_round
              case rel => first | exact ⟨1, by decide, rfl, by rw [hS.out]; simp, hnum.trans hN.out⟩ | exact ⟨2, by decide, rfl, by rw [hS.out]; simp, hnum.trans hN.out⟩ | exact ⟨3, by decide, rfl, by rw [hS.out]; simp, hnum.trans hN.out⟩ | exact ⟨4, by decide, rfl, by rw [hS.out]; simp, hnum.trans hN.out⟩ | exact ⟨5, by decide, rfl, by rw [hS.out]; simp, hnum.trans hN.out⟩
              case measure => simp [intOf]
          · rw [if_neg h128] at hN
            by_cases hz : cc = 0 ∧ 0 < k
            · rw [if_pos hz] at hN
              obtain ⟨rfl, hk0⟩ := hz
              have hnn : numR l = none := hnum.trans hN.out
              obtain rfl | rfl | rfl | rfl : k = 1 ∨ k = 2 ∨ k = 3 ∨ k = 4 := by omega
              all_goals
                simp at hO
                go_wp2_with (go_at_call 82; refine (refuse_any b w A B D (some l) hs HR.out).mono ?_; rintro e w1 ⟨⟨v, rfl⟩, hr, hg⟩)
                go_ret
                rw [rdNum, hnn]
                exact ⟨rfl, hr, hg⟩
            · rw [if_neg hz] at hN
              have hnn : numR l = some (valL l (k + 1), k + 1) := hnum.trans hN.out
              have HW : ∀ (y : Value) (l' : List Int), Bs w y l' → Fits D y l' → Rd (w.setCell ⟨b, 0, none⟩ y) b A B D (some l') := fun y l' hy hfy =>
                ⟨hB, hbD, by simpa [World.setCell] using hDw, fun i => by rw [World.frozen?_setCell]; exact hf i, ⟨y, World.cell?_setCell_same w _ _ h0, hy.setCell h0 trivial y, hfy⟩,
                  (World.cell?_setCell_other w _ _ _ (by intro h; injection h with _ h2 _; cases h2)).trans h1⟩
              have HD := HB.out.drop hnc hD (k + 1) (by omega)
              have HW2 : Hid (Rd (w.setCell ⟨b, 0, none⟩ (sliced (some ⟨b', off, none⟩) (k + 1) l.length c 1)) b A B D (some (l.drop (k + 1)))) := HW _ _ HD.1 HD.2
              clear HW HD
              have hzz : ¬ (cc = 0 ∧ (0 : Int) < k) := by omega
              obtain rfl | rfl | rfl | rfl | rfl : k = 0 ∨ k = 1 ∨ k = 2 ∨ k = 3 ∨ k = 4 := by omega
              all_goals
                simp at hO
                (try rw [Nat.add_zero] at hck)
                go_wp2
                all_goals go_ret
                all_goals rw [rdNum, hnn]
                all_goals exact ⟨by rw [hS.out]; simp, by have h2 := HW2.out; go_light; simp_all [sliced, cell_add], Rd.frame _ _⟩
        · have hnn : numR l = none := by
            rw [hnum]
            have e : 5 - k = (5 - (k + 1)) + 1 := by omega
            rw [e, numAt, if_neg hlt]
          go_wp2_with (go_at_call 82; refine (refuse_any b w A B D (some l) hs HR.out).mono ?_; rintro e w1 ⟨⟨v, rfl⟩, hr, hg⟩)
          go_ret
          rw [rdNum, hnn]
          exact ⟨rfl, hr, hg⟩
      · have e : k = 5 := by omega
        subst e
        go_wp2_with (go_at_call 82; refine (refuse_any b w A B D (some l) hs HR.out).mono ?_; rintro e w1 ⟨⟨v, rfl⟩, hr, hg⟩)
        go_ret
        rw [rdNum, hnum]
        exact ⟨rfl, hr, hg⟩
end Go.Proofs.YtafmjckpbcijoaaGreatDoor

/-
  impl.reader: text, end.
-/
namespace Go.Proofs.YtafmjckpbcijoaaGreatDoor
open Go.RowKit
set_option linter.unusedVariables false

theorem elem22 : Tryz.prog.elem 22 = 5 := by rw [Program.elem, Tryz.underlying22]
theorem under22 : Tryz.prog.underlying 22 = some (.slice (Tryz.prog.elem 22)) := by rw [elem22]; exact Tryz.underlying22

theorem slice_h (a : Option Addr) (len c n : Nat) (h : n ≤ c) (wx : World) : (Instr.slice 22 (.slice a len c) none (some (.int .i64 (n : Int))) none).run Tryz.prog wx = .ok (sliced a 0 n c 1) wx := by
  rw [run_slice_h wx 22 a len c under22 .i64 (n : Int) (by omega) (by omega), elem22, size5]
  rfl
theorem slice_l (a : Option Addr) (len c n : Nat) (h : n ≤ len) (wx : World) : (Instr.slice 22 (.slice a len c) (some (.int .i64 (n : Int))) none none).run Tryz.prog wx = .ok (sliced a n len c 1) wx := by
  rw [run_slice_l wx 22 a len c under22 .i64 (n : Int) (by omega) (by omega), elem22, size5]
  rfl

theorem conv_zero (a : Option Addr) (c : Nat) (w : World) : (convert 22 9 (.slice a 0 c)).run Tryz.prog w = .ok (.string (strOfNums [])) w := by
  cases a with
  | none =>
    rw [run_convert_bytes_nil w 22 5 Tryz.underlying22 Tryz.underlying5 0 c 9 Tryz.underlying9]
    rfl
  | some a =>
    have hl : (loadCells a 0).run Tryz.prog w = .ok (([] : List Int).map (Value.int .u8)).toArray w := by
      simpa using run_loadCells_list (P := Tryz.prog) w a [] (fun j v hj => by simp at hj)
    rw [run_convert_bytes_string w 22 9 5 (some a) 0 c Tryz.underlying22 Tryz.underlying5 Tryz.underlying9, run_bytesToString w a 0 c [] hl]
    rfl

set_option maxRecDepth 100000 in
theorem conv_take {w : World} {a : Option Addr} {len c : Nat} {l : List Int} (h : Bs w (.slice a len c) l) (hc : len ≤ c) (n : Nat) (hn : n ≤ l.length) :
    (convert 22 9 (sliced a 0 n c 1)).run Tryz.prog w = .ok (.string (strOfNums (l.take n))) w := by
  by_cases h0 : n = 0
  · subst h0
    rw [List.take_zero]
    exact conv_zero (if c = 0 then a else a.map (·.add (0 * 1))) (c - 0) w
  · obtain ⟨hl, h8, a', cap, e, hcell⟩ := h
    injection e with e1 e2 e3
    subst e1 e2 e3
    obtain ⟨b, off, rfl, hj⟩ := hcell 0 (by omega)
    have hne : ¬ c = 0 := by omega
    have hs : sliced (some ⟨b, off, none⟩) 0 n c 1 = .slice (some ⟨b, off, none⟩) n c := by simp [sliced, hne, cell_add]
    rw [hs]
    refine run_convert_bytes_arg w 22 5 Tryz.underlying22 Tryz.underlying5 b off n c (l.take n) (by simp; omega) (fun i hi => ?_) 9 Tryz.underlying9
    rw [hj i (by omega)]
    simp [List.getD, hi]

theorem rdNum_none {st : RSt} (h : (rdNum st).2 = none) : (rdNum st).1 = 0 := by
  unfold rdNum at h ⊢
  split
  · rfl
  · split
    · rfl
    · next h' => simp [h'] at h

set_option maxHeartbeats 4000000 in
set_option maxRecDepth 100000 in
theorem text_any (b : Nat) (w : World) (A : Nat → Addr) (B D : Nat) (st : RSt) (hs : Sents w A B) (h : Rd w b A B D st) :
    Calls Tryz.prog 92 #[.pointer (some ⟨b, 0, none⟩)] w fun e w' => e = .returned (.string (rdText st).1) ∧ Rd w' b A B D (rdText st).2 ∧ w.grownBy w' (some b) := by
  have HN : Hid (Calls Tryz.prog 91 #[.pointer (some ⟨b, 0, none⟩)] w fun e w' => e = .returned (.int .i64 ((rdNum st).1 : Nat)) ∧ Rd w' b A B D (rdNum st).2 ∧ w.grownBy w' (some b)) := number_any b w A B D st hs h
  have hB0 := h.1
  have hbD := h.2.1
  have hn := rdNum_lt st
  have h0 := @rdNum_none st
  unfold rdText
  generalize (rdNum st).1 = n at HN hn h0
  generalize (rdNum st).2 = t at HN h0
  cases t with
  | none =>
    obtain rfl := h0 rfl
    have c0 := fun w => conv_zero none 0 w
    have e0 : strOfNums [] = ByteArray.empty := rfl
    rw [e0] at c0
    go_enter Tryz.func92, Tryz.ntmps92
    go_wp2_with (go_at_call 91; refine HN.out.mono ?_; rintro e w1 ⟨rfl, hr, hg⟩; obtain ⟨_, _, hDw, hf, q0, q1⟩ := hr; have hf0 := hf 0)
    go_ret
    refine ⟨rfl, ⟨hB0, hbD, by simpa [World.setCell] using hDw, fun i => ?_, ?_, ?_⟩, grownBy_trans hg (Rd.frame _ _)⟩
    · rw [World.frozen?_setCell]; exact hf i
    · exact World.cell?_setCell_same _ _ _ q0
    · rw [World.cell?_setCell_other _ _ _ _ (by intro h; injection h with _ h2 _; cases h2)]; exact q1
  | some l =>
    clear h0
    by_cases hlong : 64 < n ∨ l.length < n
    · simp only [if_pos hlong]
      have hl64 : 64 < (n : Int) ∨ (l.length : Int) < n := by omega
      go_enter Tryz.func92, Tryz.ntmps92
      go_wp2_with (first
        | (go_at_call 91; refine HN.out.mono ?_; rintro e w1 ⟨rfl, hr, hg⟩; have HR : Hid (Rd w1 b A B D (some l)) := hr; obtain ⟨_, _, hDw, hf, ⟨v, q0, ⟨_, _, a, c, rfl, _⟩, _⟩, q1⟩ := hr; have hs1 := hs.kept (grown_below hg hB0 hs.le))
        | (go_at_call 82; refine (refuse_any b _ A B D (some l) hs1 HR.out).mono ?_; rintro e w2 ⟨⟨v, rfl⟩, hr2, hg2⟩))
      all_goals go_ret
      all_goals exact ⟨rfl, hr2, grownBy_trans hg hg2⟩
    · simp only [if_neg hlong]
      have hl64 : (n : Int) ≤ 64 ∧ (n : Int) ≤ l.length := by omega
      go_enter Tryz.func92, Tryz.ntmps92
      go_wp2_with (first
        | (go_at_call 91; refine HN.out.mono ?_; rintro e w1 ⟨rfl, hr, hg⟩; obtain ⟨_, _, hDw, hf, ⟨v, q0, hbs, ⟨a, len, c, rfl, hlc, hD⟩⟩, q1⟩ := hr; have hf0 := hf 0; have HB : Hid (Bs w1 (.slice a len c) l) := hbs; have el : len = l.length := (by obtain ⟨_, _, _, _, e, _⟩ := hbs; injection e); subst el; clear hbs; have t1 := slice_h a l.length c n (by omega); have t2 := slice_l a l.length c n (by omega); have cv := conv_take HB.out hlc n (by omega); have dr := HB.out.drop hlc hD n (by omega); obtain ⟨a2, n2, c2, e2, _, _⟩ := dr.2; rw [e2] at t2 dr; have DR : Hid (Bs w1 (.slice a2 n2 c2) (l.drop n) ∧ Fits D (.slice a2 n2 c2) (l.drop n)) := dr; generalize sliced a 0 n c 1 = S1 at t1 cv; clear dr e2))
      go_ret
      refine ⟨rfl, ⟨hB0, hbD, by simpa [World.setCell] using hDw, fun i => ?_, ⟨_, ?_, DR.out.1.setCell q0 trivial _, DR.out.2⟩, ?_⟩, grownBy_trans hg (Rd.frame _ _)⟩
      · rw [World.frozen?_setCell]; exact hf i
      · exact World.cell?_setCell_same _ _ _ q0
      · rw [World.cell?_setCell_other _ _ _ _ (by intro h; injection h with _ h2 _; cases h2)]; exact q1

theorem grown_cell {w w' : World} {b q : Nat} (h : w.grownBy w' (some b)) (hq : q < w.heap.size) (hne : q ≠ b) : (∀ o, w'.cell? ⟨q, o, none⟩ = w.cell? ⟨q, o, none⟩) ∧ (∀ o, w'.frozen? ⟨q, o, none⟩ = w.frozen? ⟨q, o, none⟩) := by
  have hb := h.block q hq (by intro e; injection e with e; exact hne e)
  exact ⟨fun o => World.cell?_of_block (w := w) hb, fun o => by simp only [World.frozen?, hb]⟩

/-- number, with what stays -/
theorem number_s (b : Nat) (w : World) (A : Nat → Addr) (B D : Nat) (st : RSt) (hs : Sents w A B) (h : Rd w b A B D st) :
    Calls Tryz.prog 91 #[.pointer (some ⟨b, 0, none⟩)] w fun e w' => e = .returned (.int .i64 ((rdNum st).1 : Nat)) ∧ Sents w' A B ∧ Rd w' b A B D (rdNum st).2 ∧ w.grownBy w' (some b) :=
  (number_any b w A B D st hs h).mono fun e w' ⟨h1, h2, h3⟩ => ⟨h1, hs.kept (grown_below h3 h.1 hs.le), h2, h3⟩
theorem text_s (b : Nat) (w : World) (A : Nat → Addr) (B D : Nat) (st : RSt) (hs : Sents w A B) (h : Rd w b A B D st) :
    Calls Tryz.prog 92 #[.pointer (some ⟨b, 0, none⟩)] w fun e w' => e = .returned (.string (rdText st).1) ∧ Sents w' A B ∧ Rd w' b A B D (rdText st).2 ∧ w.grownBy w' (some b) :=
  (text_any b w A B D st hs h).mono fun e w' ⟨h1, h2, h3⟩ => ⟨h1, hs.kept (grown_below h3 h.1 hs.le), h2, h3⟩
theorem grown_alloc {w w' : World} {row : Option Nat} (h : w.grownBy w' row) (o : Obj) : w.grownBy (w'.alloc o) row := grownBy_trans h (World.grownBy_alloc _ _ _)
theorem grown_setNew {w w' : World} {row : Option Nat} (h : w.grownBy w' row) (q i : Nat) (v : Value) (hq : w.heap.size ≤ q) : w.grownBy (w'.setCell ⟨q, i, none⟩ v) row :=
  ⟨h.os, h.tape, h.output, by simpa [World.setCell] using h.size, fun k hk hne => (Below.heap_setCell _ _ _ _ (by show k ≠ q; omega)).trans (h.block k hk hne)⟩

/-- what end answers -/
def endV (A : Nat → Addr) (st : RSt) : Value := if st = some [] then .nilIface else refV (A 5) 0

set_option maxHeartbeats 1000000 in
theorem end_any (b : Nat) (w : World) (A : Nat → Addr) (B D : Nat) (st : RSt) (hs : Sents w A B) (h : Rd w b A B D st) :
    Calls Tryz.prog 64 #[.pointer (some ⟨b, 0, none⟩)] w fun e w' => e = .returned (endV A st) ∧ w.grownBy w' (some b) := by
  have HR : Hid (Rd w b A B D st) := h
  obtain ⟨hB, hbD, hDw, hf, h⟩ := h
  cases st with
  | none =>
    obtain ⟨h0, h1⟩ := h
    go_enter Tryz.func64, Tryz.ntmps64
    go_wp2
    go_ret
    exact ⟨rfl, grownBy_refl _ _⟩
  | some l =>
    obtain ⟨⟨v, h0, ⟨hl, _, a, c, rfl, _⟩, _⟩, h1⟩ := h
    unfold maxLen at hl
    cases l with
    | nil =>
      go_enter Tryz.func64, Tryz.ntmps64
      go_wp2
      go_ret
      exact ⟨rfl, grownBy_refl _ _⟩
    | cons x l =>
      have hp : (0 : Int) < (x :: l).length := by simp
      generalize hL : x :: l = L at *
      have hv : endV A (some L) = refV (A 5) 0 := by subst hL; rfl
      rw [hv]
      go_enter Tryz.func64, Tryz.ntmps64
      go_wp2_with (go_at_call 82; refine (refuse_any b w A B D (some L) hs HR.out).mono ?_; rintro e w1 ⟨⟨v, rfl⟩, hr, hg⟩; obtain ⟨_, _, _, _, q0, q1⟩ := hr)
      go_ret
      exact ⟨rfl, hg⟩
end Go.Proofs.YtafmjckpbcijoaaGreatDoor

/-
  The walks of both Crc32 and of the law FnExactCrc32.
-/
namespace Go.Proofs.YtafmjckpbcijoaaGreatDoor
open Go.RowKit
set_option linter.unusedVariables false

/-- the check sum -/
def crcOf (l : List Int) : Nat := crcSt l l.length ^^^ 4294967295

set_option maxHeartbeats 1000000 in
theorem implCrc_any (v : Value) (l : List Int) (w : World) (hv : Bs w v l) :
    Calls Tryz.prog 75 #[v] w fun e w' => e = .returned (.int .u32 (crcOf l : Nat)) ∧ w' = w := by
  obtain ⟨hl, h8, a, cap, rfl, hc⟩ := hv
  unfold maxLen at hl
  go_enter Tryz.func75, Tryz.ntmps75
  go_wp2
  go_loop [3, 9] (fun s i => ∃ k : Nat, k ≤ l.length ∧ i = .int .i64 k ∧ s = .int .u32 (crcSt l k : Nat)) (fun _ i => l.length - (intOf i).toNat)
  case atStart => exact ⟨0, Nat.zero_le _, rfl, rfl⟩
  case round =>
    obtain ⟨k, hk, rfl, rfl⟩ := hrel
    have hr := crcSt_lt l h8 k
    by_cases hlt : k < l.length
    · obtain ⟨b, off, rfl, hcell⟩ := hc k hlt
      have hck := hcell k hlt
      have h8k := byte_at h8 k
      have hx := x0 (crcSt l k) _ hr h8k.1 h8k.2
      have hS : Hid (crcSt l (k + 1) = stepsN 8 (crcSt l k ^^^ (l[k]?.getD 0).toNat)) := rfl
      have hs0 := xor_lt (crcSt l k) (l[k]?.getD 0).toNat hr (by omega)
      generalize hg : crcSt l k ^^^ (l[k]?.getD 0).toNat = s0 at hx hS hs0
      have eg : l[k]?.getD 0 = l[k] := by simp [hlt]
      rw [eg] at hx h8k hck
      clear hcell hc hg eg
      go_wp2
      go_loop [3, 17] (fun s i => ∃ j : Nat, j ≤ 8 ∧ i = .int .i64 j ∧ s = .int .u32 (stepsN j s0 : Nat)) (fun _ i => 8 - (intOf i).toNat)
      case atStart => exact ⟨0, by omega, rfl, by simp [stepsN]⟩
      case round =>
        obtain ⟨j, hj, rfl, rfl⟩ := hrel
        have hq := stepsN_lt j s0 hs0
        by_cases hlt' : j < 8
        · have H1 := i1 (stepsN j s0) hq
          have H0 := i0 (stepsN j s0) hq
          have HS : Hid (stepsN (j + 1) s0 = stepN (stepsN j s0)) := rfl
          generalize stepsN j s0 = q at HS hq H1 H0
          have K1 : Hid ((bits .and .u32 (q : Int) 1 == 1) = true → bits .xor .u32 ((q : Int) / 2) 3988292384 = ((stepN q : Nat) : Int)) := H1
          have K0 : Hid ((bits .and .u32 (q : Int) 1 == 1) = false → (q : Int) / 2 = ((stepN q : Nat) : Int)) := H0
          clear H1 H0
          go_wp2
          · go_round
            case rel => exact ⟨j + 1, by omega, by go_num, by rw [HS.out, ← K1.out (by assumption)]⟩
            case measure => simp [intOf]; omega
          · go_round
            case rel => exact ⟨j + 1, by omega, by go_num, by rw [HS.out, ← K0.out (by assumption)]⟩
            case measure => simp [intOf]; omega
        · have e8 : j = 8 := by omega
          subst e8
          go_wp2
          go_round
          case rel => exact ⟨k + 1, by omega, by go_num, by rw [hS.out]⟩
          case measure => simp [intOf]; omega
    · have e : k = l.length := by omega
      subst e
      have hm := max_xor _ hr
      go_wp2
      go_ret
      exact ⟨by simp [crcOf], rfl⟩

set_option maxHeartbeats 1000000 in
theorem specCrc_any (v : Value) (l : List Int) (w : World) (hv : Bs w v l) :
    Calls Tryz.prog 59 #[v] w fun e w' => e = .returned (.int .u32 (crcOf l : Nat)) ∧ w' = w := by
  obtain ⟨hl, h8, a, cap, rfl, hc⟩ := hv
  unfold maxLen at hl
  go_enter Tryz.func59, Tryz.ntmps59
  go_wp2
  go_loop [3, 4] (fun s i => ∃ k : Nat, k ≤ l.length ∧ i = .int .i64 k ∧ s = .int .u32 (crcSt l k : Nat)) (fun _ i => l.length - (intOf i).toNat)
  case atStart => exact ⟨0, Nat.zero_le _, rfl, rfl⟩
  case round =>
    obtain ⟨k, hk, rfl, rfl⟩ := hrel
    have hr := crcSt_lt l h8 k
    by_cases hlt : k < l.length
    · obtain ⟨b, off, rfl, hcell⟩ := hc k hlt
      have hck := hcell k hlt
      have h8k := byte_at h8 k
      have hS : Hid (crcSt l (k + 1) = stepsN 8 (crcSt l k ^^^ (l[k]?.getD 0).toNat)) := rfl
      have eg : l[k]?.getD 0 = l[k] := by simp [hlt]
      rw [eg] at h8k hck hS
      generalize hlk : l[k] = lk at h8k hck hS
      obtain ⟨b0, b1⟩ := h8k
      clear hcell hc eg
      go_wp2
      go_loop [3, 5] (fun s i => ∃ j : Nat, j ≤ 8 ∧ i = .int .i64 j ∧ s = .int .u32 ((stepsN j (crcSt l k ^^^ lk.toNat) ^^^ lk.toNat / 2 ^ j : Nat))) (fun _ i => 8 - (intOf i).toNat)
      case atStart => exact ⟨0, by omega, rfl, by simp [stepsN, Nat.xor_assoc]⟩
      case round =>
        obtain ⟨j, hj, rfl, rfl⟩ := hrel
        have hq := stepsN_lt j (crcSt l k ^^^ lk.toNat) (xor_lt _ _ hr (by omega))
        by_cases hlt' : j < 8
        · have HS : Hid (stepsN (j + 1) (crcSt l k ^^^ lk.toNat) = stepN (stepsN j (crcSt l k ^^^ lk.toNat))) := rfl
          generalize stepsN j (crcSt l k ^^^ lk.toNat) = S at HS hq
          have K1 : Hid _ := s1 S lk.toNat j lk b0 b1 rfl hq
          have K0 : Hid _ := s0 S lk.toNat j lk b0 b1 rfl hq
          have hXlt := xor_lt S (lk.toNat / 2 ^ j) hq (by have := Nat.div_le_self lk.toNat (2 ^ j); omega)
          generalize S ^^^ lk.toNat / 2 ^ j = X at K1 K0 hXlt
          go_wp2
          · go_round
            case rel => exact ⟨j + 1, by omega, by go_num, by rw [HS.out, ← K1.out (by assumption)]⟩
            case measure => simp [intOf]; omega
          · go_round
            case rel => exact ⟨j + 1, by omega, by go_num, by rw [HS.out, ← K0.out (by assumption)]⟩
            case measure => simp [intOf]; omega
        · have e8 : j = 8 := by omega
          subst e8
          have hz : lk.toNat / 2 ^ 8 = 0 := by omega
          rw [hz, Nat.xor_zero]
          go_wp2
          go_round
          case rel => exact ⟨k + 1, by omega, by go_num, by rw [hS.out]⟩
          case measure => simp [intOf]; omega
    · have e : k = l.length := by omega
      subst e
      have hm := xor_max _ hr
      go_wp2
      go_ret
      exact ⟨by simp [crcOf], rfl⟩
end Go.Proofs.YtafmjckpbcijoaaGreatDoor

/-
  impl.wordAt, impl.openFrame.
-/
namespace Go.Proofs.YtafmjckpbcijoaaGreatDoor
open Go.RowKit
set_option linter.unusedVariables false

/-- the word at a place, lowest byte first -/
def wordN (l : List Int) (i : Nat) : Int := l[i]?.getD 0 + l[i + 1]?.getD 0 * 256 + l[i + 2]?.getD 0 * 65536 + l[i + 3]?.getD 0 * 16777216

theorem or_u32 (k : Nat) (a b : Int) (ha : 0 ≤ a) (ha' : a < 2 ^ k) (hb : 0 ≤ b) (hb' : b ≤ 255) (hk : k ≤ 24) : bits .or .u32 a (b * 2 ^ k) = a + b * 2 ^ k := by
  obtain ⟨a, rfl⟩ := Int.eq_ofNat_of_zero_le ha
  obtain ⟨b, rfl⟩ := Int.eq_ofNat_of_zero_le hb
  have hp : 2 ^ k ≤ 2 ^ 24 := Nat.pow_le_pow_right (by decide) hk
  have h5 : (2 : Nat) ^ 24 = 16777216 := by decide
  have ha2 : a < 2 ^ k := by exact_mod_cast ha'
  have hm : b * 2 ^ k ≤ 255 * 2 ^ k := Nat.mul_le_mul_right _ (by omega)
  have e : (b : Int) * 2 ^ k = ((b * 2 ^ k : Nat) : Int) := by simp
  rw [e, u32_or_nat a (b * 2 ^ k) (by omega) (by omega), Nat.or_comm, nat_join k (b * 2 ^ k) a (Nat.mul_mod_left _ _) ha2]
  omega

set_option maxHeartbeats 2000000 in
set_option maxRecDepth 100000 in
theorem wordAt0 (v : Value) (l : List Int) (w : World) (hv : Bs w v l) (hl : 8 < l.length) :
    Calls Tryz.prog 78 #[v, .int .i64 0] w fun e w' => e = .returned (.int .u32 (wordN l 0)) ∧ Below w.heap.size w w' := by
  obtain ⟨hm, h8, a, cap, rfl, hc⟩ := hv
  obtain ⟨b, off, rfl, hcell⟩ := hc 0 (by omega)
  have c0 := hcell 0 (by omega)
  have c1 := hcell 1 (by omega)
  have c2 := hcell 2 (by omega)
  have c3 := hcell 3 (by omega)
  have b0 := byte_at h8 0
  have b1 := byte_at h8 1
  have b2 := byte_at h8 2
  have b3 := byte_at h8 3
  unfold wordN
  simp only [Nat.zero_add, Nat.add_zero] at *
  generalize l[0]?.getD 0 = x0 at *
  generalize l[1]?.getD 0 = x1 at *
  generalize l[2]?.getD 0 = x2 at *
  generalize l[3]?.getD 0 = x3 at *
  have o1 := or_u32 8 x0 x1 (by omega) (by omega) (by omega) (by omega) (by omega)
  have o2 := or_u32 16 (x0 + x1 * 256) x2 (by omega) (by omega) (by omega) (by omega) (by omega)
  have o3 := or_u32 24 (x0 + x1 * 256 + x2 * 65536) x3 (by omega) (by omega) (by omega) (by omega) (by omega)
  simp only [Int.reducePow] at o1 o2 o3
  clear hcell hc h8
  unfold maxLen at hm
  go_enter Tryz.func78, Tryz.ntmps78
  go_wp2
  go_quiet (fail)
  go_wp2
  go_ret
  exact ⟨rfl, rfl, rfl, rfl, Nat.le_refl _, fun _ _ => rfl⟩
set_option maxHeartbeats 2000000 in
set_option maxRecDepth 100000 in
theorem wordAt4 (v : Value) (l : List Int) (w : World) (hv : Bs w v l) (hl : 8 < l.length) :
    Calls Tryz.prog 78 #[v, .int .i64 4] w fun e w' => e = .returned (.int .u32 (wordN l 4)) ∧ Below w.heap.size w w' := by
  obtain ⟨hm, h8, a, cap, rfl, hc⟩ := hv
  obtain ⟨b, off, rfl, hcell⟩ := hc 0 (by omega)
  have c0 := hcell 4 (by omega)
  have c1 := hcell 5 (by omega)
  have c2 := hcell 6 (by omega)
  have c3 := hcell 7 (by omega)
  have b0 := byte_at h8 4
  have b1 := byte_at h8 5
  have b2 := byte_at h8 6
  have b3 := byte_at h8 7
  unfold wordN
  simp only [Nat.reduceAdd] at *
  generalize l[4]?.getD 0 = x0 at *
  generalize l[5]?.getD 0 = x1 at *
  generalize l[6]?.getD 0 = x2 at *
  generalize l[7]?.getD 0 = x3 at *
  have o1 := or_u32 8 x0 x1 (by omega) (by omega) (by omega) (by omega) (by omega)
  have o2 := or_u32 16 (x0 + x1 * 256) x2 (by omega) (by omega) (by omega) (by omega) (by omega)
  have o3 := or_u32 24 (x0 + x1 * 256 + x2 * 65536) x3 (by omega) (by omega) (by omega) (by omega) (by omega)
  simp only [Int.reducePow] at o1 o2 o3
  clear hcell hc h8
  unfold maxLen at hm
  go_enter Tryz.func78, Tryz.ntmps78
  go_wp2
  go_quiet (fail)
  go_wp2
  go_ret
  exact ⟨rfl, rfl, rfl, rfl, Nat.le_refl _, fun _ _ => rfl⟩

end Go.Proofs.YtafmjckpbcijoaaGreatDoor

/-
  impl.openFrame.
-/
namespace Go.Proofs.YtafmjckpbcijoaaGreatDoor
open Go.RowKit
set_option linter.unusedVariables false

/-- the code of a frame, but for its kind -/
def sumC (l : List Int) : Nat :=
  if ¬ (9 ≤ l.length ∧ l.length ≤ 16384) then 1
  else if wordN l 0 ≠ (l.length : Int) - 8 then 2
  else if wordN l 4 ≠ (crcOf (l.drop 8) : Nat) then 3 else 0

theorem sumC_len {l : List Int} (h : sumC l = 0) : 9 ≤ l.length ∧ l.length ≤ 16384 := by
  unfold sumC at h
  split at h
  · cases h
  · omega

set_option maxHeartbeats 4000000 in
set_option maxRecDepth 100000 in
theorem openFrame_any (a : Option Addr) (len c : Nat) (l : List Int) (w : World) (A : Nat → Addr) (B : Nat) (hs : Sents w A B) (hv : Bs w (.slice a len c) l) (hc : len ≤ c) (D : Nat) (hD : 0 < l.length → ∃ x, a = some x ∧ x.block < D) :
    Calls Tryz.prog 62 #[.slice a len c] w fun e w' =>
      e = .returned (if sumC l = 0 then .tuple #[sliced a 8 len c 1, .nilIface] else .tuple #[.slice none 0 0, refV (A (sumC l)) 0]) ∧ Below w.heap.size w w' := by
  have HV : Hid (Bs w (.slice a len c) l) := hv
  have el : len = l.length := by obtain ⟨_, _, _, _, e, _⟩ := hv; injection e
  have hml := hv.1
  unfold maxLen at hml
  subst el
  clear hv
  by_cases h1 : 9 ≤ l.length ∧ l.length ≤ 16384
  · have t1 : ∀ wx, (Instr.slice 22 (.slice a l.length c) (some (.int .i64 8)) none none).run Tryz.prog wx = .ok (sliced a 8 l.length c 1) wx := slice_l a l.length c 8 (by omega)
    have hin : inB l.length 9 16384 = true := by rw [inB_iff]; omega
    have hd := HV.out.drop hc hD 8 (by omega)
    obtain ⟨a2, n2, c2, e2, _, _⟩ := hd.2
    rw [e2] at t1 hd ⊢
    have e3 : n2 = l.length - 8 := by
      obtain ⟨_, _, _, _, e, _⟩ := hd.1
      injection e with _ e _
      rw [e, List.length_drop]
    subst e3
    have HD : Hid (Bs w (.slice a2 (l.length - 8) c2) (l.drop 8)) := hd.1
    clear hd e2
    have g2 := hs.g2
    have g3 := hs.g3
    have hsub : ((l.length - 8 : Nat) : Int) = (l.length : Int) - 8 := by omega
    have y1 : True := trivial
    have hcr : crcOf (l.drop 8) < 4294967296 := xor_lt _ _ (crcSt_lt (l.drop 8) HD.out.2.1 _) (by decide)
    have hS : sumC l = if wordN l 0 ≠ (l.length : Int) - 8 then 2 else if wordN l 4 ≠ (crcOf (l.drop 8) : Nat) then 3 else 0 := by
      unfold sumC
      rw [if_neg (fun h => h h1)]
    have HW0 : ∀ w' : World, Bs w' (.slice a l.length c) l → Hid (Calls Tryz.prog 78 #[.slice a l.length c, .int .i64 0] w' fun e w'' => e = .returned (.int .u32 (wordN l 0)) ∧ Below w'.heap.size w' w'') := fun w' h => wordAt0 _ l w' h (by omega)
    have HW4 : ∀ w' : World, Bs w' (.slice a l.length c) l → Hid (Calls Tryz.prog 78 #[.slice a l.length c, .int .i64 4] w' fun e w'' => e = .returned (.int .u32 (wordN l 4)) ∧ Below w'.heap.size w' w'') := fun w' h => wordAt4 _ l w' h (by omega)
    have HC : ∀ w' : World, Bs w' (.slice a2 (l.length - 8) c2) (l.drop 8) → Hid (Calls Tryz.prog 75 #[.slice a2 (l.length - 8) c2] w' fun e w'' => e = .returned (.int .u32 (crcOf (l.drop 8) : Nat)) ∧ w'' = w') := fun w' h => implCrc_any _ _ w' h
    generalize crcOf (l.drop 8) = cr at hcr hS HC
    generalize wordN l 0 = w0 at hS HW0
    generalize wordN l 4 = w4 at hS HW4
    by_cases h2 : w0 = (l.length : Int) - 8
    · by_cases h3 : w4 = (cr : Nat)
      · have hsc : sumC l = 0 := by simp [hS, h2, h3]
        rw [if_pos hsc]
        go_enter Tryz.func62, Tryz.ntmps62
        go_wp2_with (first
          | (go_at_call 52; refine (within_any _ _ _ _).mono ?_; rw [hin]; rintro e w1 ⟨rfl, rfl⟩)
          | (go_at_call 78; clear y1; refine (HW0 _ HV.out).out.mono ?_; rw [h2]; rintro e w1 ⟨rfl, hb1⟩)
          | (go_at_call 78; refine (HW4 _ (HV.out.below hb1)).out.mono ?_; rw [h3]; rintro e w2 ⟨rfl, hb2⟩; have hB := hb1.trans (hb2.mono hb1.size))
          | (go_at_call 75; refine (HC _ (HD.out.below hB)).out.mono ?_; rintro e w3 ⟨rfl, rfl⟩))
        go_ret2
        exact ⟨rfl, hB⟩
      · have hsc : sumC l = 3 := by simp [hS, h2, h3]
        rw [hsc]
        simp only [Nat.succ_ne_zero, if_false]
        have n3 : (w4 != (cr : Int)) = true := by simpa using h3
        go_enter Tryz.func62, Tryz.ntmps62
        go_wp2_with (first
          | (go_at_call 52; refine (within_any _ _ _ _).mono ?_; rw [hin]; rintro e w1 ⟨rfl, rfl⟩)
          | (go_at_call 78; clear y1; refine (HW0 _ HV.out).out.mono ?_; rw [h2]; rintro e w1 ⟨rfl, hb1⟩)
          | (go_at_call 78; refine (HW4 _ (HV.out.below hb1)).out.mono ?_; rintro e w2 ⟨rfl, hb2⟩; have hB := hb1.trans (hb2.mono hb1.size); have g3' := (hs.below hB).g3)
          | (go_at_call 75; refine (HC _ (HD.out.below hB)).out.mono ?_; rintro e w3 ⟨rfl, rfl⟩))
        go_quiet (fail)
        go_wp2
        go_ret2
        exact ⟨rfl, ⟨hB.os, hB.tape, hB.output, hB.size, hB.block⟩⟩
    · have hsc : sumC l = 2 := by simp [hS, h2]
      rw [hsc]
      simp only [Nat.succ_ne_zero, if_false]
      have n2 : (w0 != (l.length : Int) - 8) = true := by simpa using h2
      go_enter Tryz.func62, Tryz.ntmps62
      go_wp2_with (first
        | (go_at_call 52; refine (within_any _ _ _ _).mono ?_; rw [hin]; rintro e w1 ⟨rfl, rfl⟩)
        | (go_at_call 78; clear y1; refine (HW0 _ HV.out).out.mono ?_; rintro e w1 ⟨rfl, hb1⟩; have g2' := (hs.below hb1).g2))
      go_quiet (fail)
      go_wp2
      go_ret2
      exact ⟨rfl, ⟨hb1.os, hb1.tape, hb1.output, hb1.size, hb1.block⟩⟩
  · have hsc : sumC l = 1 := by simp [sumC, h1]
    rw [hsc]
    simp only [Nat.succ_ne_zero, if_false]
    have hin : inB l.length 9 16384 = false := by rw [inB_not]; omega
    have g1 := hs.g1
    go_enter Tryz.func62, Tryz.ntmps62
    go_wp2_with (go_at_call 52; refine (within_any _ _ _ _).mono ?_; rw [hin]; rintro e w1 ⟨rfl, rfl⟩)
    go_quiet (fail)
    go_wp2
    go_ret2
    exact ⟨rfl, rfl, rfl, rfl, Nat.le_refl _, fun _ _ => rfl⟩
end Go.Proofs.YtafmjckpbcijoaaGreatDoor

/-
  One changed byte of a good frame: codes 2 and 3 (pure; FnSpoilt).
-/
namespace Go.Proofs.YtafmjckpbcijoaaGreatDoor
open Go.RowKit
set_option linter.unusedVariables false

theorem wordN_same {l m : List Int} {i : Nat} (h : ∀ k, i ≤ k → k < i + 4 → l[k]? = m[k]?) : wordN l i = wordN m i := by
  unfold wordN
  rw [h i (by omega) (by omega), h (i + 1) (by omega) (by omega), h (i + 2) (by omega) (by omega), h (i + 3) (by omega) (by omega)]
theorem getD_ne {l m : List Int} {p : Nat} (hl : p < l.length) (hm : p < m.length) (hne : l[p] ≠ m[p]) : l[p]?.getD 0 ≠ m[p]?.getD 0 := by
  rw [List.getElem?_eq_getElem hl, List.getElem?_eq_getElem hm]
  exact hne
theorem wordN_diff {l m : List Int} (h8 : ∀ x ∈ l, 0 ≤ x ∧ x ≤ 255) (m8 : ∀ x ∈ m, 0 ≤ x ∧ x ≤ 255) {i p : Nat} (hi : i ≤ p) (hp : p < i + 4)
    (hne : l[p]?.getD 0 ≠ m[p]?.getD 0) : wordN l i ≠ wordN m i := by
  have a0 := byte_at h8 i
  have a1 := byte_at h8 (i + 1)
  have a2 := byte_at h8 (i + 2)
  have a3 := byte_at h8 (i + 3)
  have b0 := byte_at m8 i
  have b1 := byte_at m8 (i + 1)
  have b2 := byte_at m8 (i + 2)
  have b3 := byte_at m8 (i + 3)
  unfold wordN
  intro e
  have hc : p = i ∨ p = i + 1 ∨ p = i + 2 ∨ p = i + 3 := by omega
  rcases hc with rfl | rfl | rfl | rfl <;> omega
/-- one byte of a good frame is another: the length is wrong if it is one of the first four, else the check sum is -/
theorem sumC_diff {l m : List Int} (h8 : ∀ x ∈ l, 0 ≤ x ∧ x ≤ 255) (m8 : ∀ x ∈ m, 0 ≤ x ∧ x ≤ 255) (hlen : m.length = l.length) {p : Nat} (hl : p < l.length) (hm : p < m.length)
    (hne : l[p] ≠ m[p]) (h : ∀ i, i ≠ p → l[i]? = m[i]?) (h0 : sumC l = 0) : sumC m = if p < 4 then 2 else 3 := by
  have hg := getD_ne hl hm hne
  unfold sumC at h0 ⊢
  by_cases c1 : 9 ≤ l.length ∧ l.length ≤ 16384
  case neg => rw [if_pos c1] at h0; cases h0
  rw [if_neg (fun h => h c1)] at h0
  by_cases c2 : wordN l 0 = (l.length : Int) - 8
  case neg => rw [if_pos c2] at h0; cases h0
  rw [if_neg (fun h => h c2)] at h0
  by_cases c3 : wordN l 4 = (crcOf (l.drop 8) : Nat)
  case neg => rw [if_pos c3] at h0; cases h0
  rw [hlen, if_neg (fun h => h c1)]
  by_cases p4 : p < 4
  · rw [if_pos p4, if_pos (fun e => wordN_diff h8 m8 (Nat.zero_le p) (by omega) hg (by rw [c2, e]))]
  · rw [if_neg p4, if_neg (fun hh => hh (by rw [← c2]; exact (wordN_same (fun k _ hk => h k (by omega))).symm))]
    rw [if_pos]
    by_cases p8 : p < 8
    · have hd : l.drop 8 = m.drop 8 := by
        apply List.ext_getElem?
        intro i
        rw [List.getElem?_drop, List.getElem?_drop]
        exact h _ (by omega)
      intro e
      exact wordN_diff (i := 4) h8 m8 (by omega) (by omega) hg (by rw [c3, e, hd])
    · intro e
      have hw : wordN l 4 = wordN m 4 := wordN_same (fun k _ hk => h k (by omega))
      rw [← hw, c3] at e
      have e1 : crcOf (l.drop 8) = crcOf (m.drop 8) := by exact_mod_cast e
      unfold crcOf at e1
      have e2 := xor_can e1
      have hL : (m.drop 8).length = (l.drop 8).length := by simp [hlen]
      rw [hL] at e2
      refine crcSt_diff (l.drop 8) (m.drop 8) (fun x hx => h8 x (List.mem_of_mem_drop hx)) (fun x hx => m8 x (List.mem_of_mem_drop hx)) (p - 8) (by simp; omega) (by simp; omega) ?_ ?_ _ (by simp; omega) e2
      · simp only [List.getElem_drop]
        have : 8 + (p - 8) = p := by omega
        simpa only [this] using hne
      · intro i hi
        rw [List.getElem?_drop, List.getElem?_drop]
        exact h _ (by omega)

end Go.Proofs.YtafmjckpbcijoaaGreatDoor

/-
  Codes and faults of a frame.
-/
namespace Go.Proofs.YtafmjckpbcijoaaGreatDoor
open Go.RowKit
set_option linter.unusedVariables false
set_option linter.unusedSimpArgs false

theorem Bs.lt {w : World} {a : Option Addr} {n c : Nat} {l : List Int} (h : Bs w (.slice a n c) l) (hp : 0 < l.length) : ∃ x, a = some x ∧ x.block < w.heap.size := by
  obtain ⟨_, _, a', c', e, hcell⟩ := h
  injection e with e1 e2 e3
  subst e1
  obtain ⟨b, off, rfl, hj⟩ := hcell 0 hp
  exact ⟨_, rfl, cell_lt (hj 0 hp)⟩

/-- the code of a frame for the kinds lo .. hi, but for its rest -/
def openC (l : List Int) (lo hi : Int) : Nat := if sumC l ≠ 0 then sumC l else if inB (l[8]?.getD 0) lo hi = false then 4 else 0
theorem openC_le (l : List Int) (lo hi : Int) : openC l lo hi ≤ 4 := by
  unfold openC sumC
  repeat' split
  all_goals omega

/-- code and fault of a frame: what is left of its body, and the fault of its value -/
def decC (l : List Int) (lo hi : Int) (left : RSt) (f : Int) : Nat × Int :=
  if openC l lo hi ≠ 0 then (openC l lo hi, 0) else if left ≠ some [] then (5, 0) else if f ≠ 0 then (6, f) else (0, 0)
theorem decC_le (l : List Int) (lo hi : Int) (left : RSt) (f : Int) : (decC l lo hi left f).1 ≤ 6 := by
  have := openC_le l lo hi
  unfold decC
  repeat' split
  all_goals simp <;> omega
theorem decC_zero {l : List Int} {lo hi : Int} {left : RSt} {f : Int} (h : (decC l lo hi left f).1 = 0) : openC l lo hi = 0 ∧ left = some [] ∧ f = 0 := by
  unfold decC at h
  split at h
  · next h' => exact absurd h h'
  · next h' =>
    split at h
    · cases h
    · next h'' =>
      split at h
      · cases h
      · next h3 => exact ⟨Decidable.not_not.1 h', Decidable.not_not.1 h'', Decidable.not_not.1 h3⟩

theorem grown_of_below {w w' : World} (h : Below w.heap.size w w') (row : Option Nat) : w.grownBy w' row := ⟨h.os, h.tape, h.output, h.size, fun k hk _ => h.block k hk⟩

end Go.Proofs.YtafmjckpbcijoaaGreatDoor

/-
  A good frame, spoilt: all three decoders' codes (pure).
-/
namespace Go.Proofs.YtafmjckpbcijoaaGreatDoor
open Go.RowKit
set_option linter.unusedVariables false
set_option linter.unusedSimpArgs false

theorem xorB_ne (c m : Int) (h0 : 0 ≤ c) (h1 : c ≤ 255) (h2 : 1 ≤ m) (h3 : m ≤ 255) : xorB c m ≠ c := by
  obtain ⟨a, rfl⟩ := Int.eq_ofNat_of_zero_le h0
  obtain ⟨b, rfl⟩ := Int.eq_ofNat_of_zero_le (show 0 ≤ m by omega)
  have e : xorB a b = ((a ^^^ b : Nat) : Int) := u8_xor_nat a b (by omega) (by omega)
  rw [e]
  intro h
  have h' : a ^^^ b = a := by exact_mod_cast h
  have h'' : b ^^^ a = 0 ^^^ a := by rw [Nat.xor_comm, h', Nat.zero_xor]
  have := xor_can h''
  omega
theorem spoil_pure {l : List Int} (h8 : ∀ x ∈ l, 0 ≤ x ∧ x ≤ 255) (h0 : sumC l = 0) (i : Nat) (hi : i < l.length) (x : Int) :
    (spoilL l i x).length = l.length ∧ (∀ y ∈ spoilL l i x, 0 ≤ y ∧ y ≤ 255) ∧ spoilL l i x ≠ l ∧ sumC (spoilL l i x) = if i < 4 then 2 else 3 := by
  have hL := sumC_len h0
  have hin : inB l.length 1 16384 = true := (inB_iff _ _ _).2 ⟨by omega, by omega⟩
  have hm : modI (i : Int) l.length = i := Int.emod_eq_of_lt (by omega) (by omega)
  have n0 := modI_ge x 255 (by omega)
  have n1 := modI_lt x 255 (by omega)
  have hc := byte_at h8 i
  have e : spoilL l i x = l.set i (xorB (l[i]?.getD 0) (1 + modI x 255)) := by
    unfold spoilL
    rw [if_pos hin, hm, Int.toNat_natCast]
  have hb := xorB_byte (l[i]?.getD 0) (1 + modI x 255) hc.1 hc.2 (by omega) (by omega)
  have hn := xorB_ne (l[i]?.getD 0) (1 + modI x 255) hc.1 hc.2 (by omega) (by omega)
  generalize xorB (l[i]?.getD 0) (1 + modI x 255) = y at *
  rw [e]
  have hne : l[i] ≠ y := fun h => hn (by rw [List.getElem?_eq_getElem hi, Option.getD_some, h])
  have hb8 : ∀ z ∈ l.set i y, 0 ≤ z ∧ z ≤ 255 := fun z hz => by
    rcases List.mem_or_eq_of_mem_set hz with h | h
    · exact h8 z h
    · rw [h]; exact hb
  refine ⟨List.length_set, hb8, fun h => ?_, ?_⟩
  · have hg : (l.set i y)[i]? = l[i]? := by rw [h]
    rw [List.getElem?_set_self hi, List.getElem?_eq_getElem hi] at hg
    injection hg with hg
    exact hne hg.symm
  · refine sumC_diff h8 hb8 List.length_set (p := i) hi (by simpa using hi) (by simpa using hne) (fun j hj => ?_) h0
    rw [List.getElem?_set_ne (fun h => hj h.symm)]
theorem decC_sum {l : List Int} (h : sumC l ≠ 0) (lo hi : Int) (left : RSt) (f : Int) : decC l lo hi left f = (sumC l, 0) := by
  have hop : openC l lo hi = sumC l := by simp [openC, h]
  rw [decC, hop, if_pos h]
end Go.Proofs.YtafmjckpbcijoaaGreatDoor

/-
  impl.decodeBody at a body of one kind.
-/
namespace Go.Proofs.YtafmjckpbcijoaaGreatDoor
open Go.RowKit
set_option linter.unusedVariables false
set_option linter.unusedSimpArgs false

theorem methF_reply (X : Value) (w : World) : (method 300 73 X "loop.example/s01586/impl.fault").run Tryz.prog w = .ok (133, X) w := by kernel_rfl

set_option maxHeartbeats 4000000 in
set_option maxRecDepth 100000 in
theorem decodeBody_reply (a : Option Addr) (len c : Nat) (l : List Int) (lo hi : Int) (w : World) (A : Nat → Addr) (B : Nat) (hs : Sents w A B) (hv : Bs w (.slice a len c) l) (hc : len ≤ c)
    (left : RSt) (f : Int) (P : Nat → World → Value → Prop)
    (hP : ∀ b w w' X, P b w X → w.grownBy w' (some b) → P b w' X)
    (hRead : ∀ b w D, Sents w A B → Rd w b A B D (some (l.drop 9)) → inB (l[8]?.getD 0) lo hi = true → Calls Tryz.prog 63 #[.int .i64 (l[8]?.getD 0), .pointer (some ⟨b, 0, none⟩)] w fun e w' => ∃ X, e = .returned (.iface 73 X) ∧ P b w' X ∧ Rd w' b A B D left ∧ w.grownBy w' (some b))
    (hFault : ∀ b w X, P b w X → Calls Tryz.prog 133 #[X] w fun e w' => e = .returned (.int .i64 f) ∧ Below w.heap.size w w') :
    Calls Tryz.prog 39 #[.slice a len c, .int .i64 lo, .int .i64 hi] w fun e w' =>
      ((decC l lo hi left f).1 = 0 → ∃ b X, w.heap.size ≤ b ∧ P b w' X ∧ e = .returned (.tuple #[.iface 73 X, .nilIface])) ∧
      ((decC l lo hi left f).1 ≠ 0 → e = .returned (.tuple #[.nilIface, refV (A (decC l lo hi left f).1) (decC l lo hi left f).2])) ∧ Below w.heap.size w w' := by
  have HO : Hid _ := openFrame_any a len c l w A B hs hv hc w.heap.size hv.lt
  have hd := fun h => (hv.drop hc hv.lt 8 h)
  have HR : ∀ b w D, Sents w A B → Rd w b A B D (some (l.drop 9)) → inB (l[8]?.getD 0) lo hi = true → Hid (Calls Tryz.prog 63 #[.int .i64 (l[8]?.getD 0), .pointer (some ⟨b, 0, none⟩)] w fun e w' => ∃ X, e = .returned (.iface 73 X) ∧ P b w' X ∧ Rd w' b A B D left ∧ w.grownBy w' (some b)) := hRead
  have HF : ∀ b w X, P b w X → Hid (Calls Tryz.prog 133 #[X] w fun e w' => e = .returned (.int .i64 f) ∧ Below w.heap.size w w') := hFault
  clear hRead hFault
  have el : len = l.length := by obtain ⟨_, _, _, _, e, _⟩ := hv; injection e
  subst el
  by_cases h1 : sumC l = 0
  · have hlen := sumC_len h1
    rw [if_pos h1] at HO
    obtain ⟨d1, a2, n2, c2, e2, hc2, _⟩ := hd (by omega)
    rw [e2] at d1 HO
    have HV : Hid (Bs w (.slice a2 n2 c2) (l.drop 8)) := d1
    have en : n2 = l.length - 8 := by
      obtain ⟨_, _, _, _, e, _⟩ := d1
      injection e with _ e _
      rw [e, List.length_drop]
    obtain ⟨hm, h8, a', c', e, hcell⟩ := d1
    injection e with e1' e2' e3'
    subst e1' e3'
    obtain ⟨b2, o2, rfl, hj⟩ := hcell 0 (by rw [List.length_drop]; omega)
    have k0 := hj 0 (by rw [List.length_drop]; omega)
    have hk8 : (l.drop 8)[0]?.getD 0 = l[8]?.getD 0 := by simp
    rw [hk8, Nat.add_zero] at k0
    have hkb := byte_at h8 0
    rw [hk8] at hkb
    clear hj hcell hd e2
    have hop : openC l lo hi = if inB (l[8]?.getD 0) lo hi = false then 4 else 0 := by simp [openC, h1]
    have HD : Hid (decC l lo hi left f = if openC l lo hi ≠ 0 then (openC l lo hi, 0) else if left ≠ some [] then (5, 0) else if f ≠ 0 then (6, f) else (0, 0)) := rfl
    generalize decC l lo hi left f = R at HD
    generalize l[8]?.getD 0 = K at *
    by_cases h4 : inB K lo hi = true
    · have hn1 : 1 ≤ n2 := by rw [en]; omega
      have hd9 := HV.out.drop hc2 HV.out.lt 1 (by rw [List.length_drop]; omega)
      rw [List.drop_drop] at hd9
      obtain ⟨a3, n3, c3, e3, hc3, hD3⟩ := hd9.2
      have t1 : ∀ wx, (Instr.slice 22 (.slice (some ⟨b2, o2, none⟩) n2 c2) (some (.int .i64 1)) none none).run Tryz.prog wx = .ok (sliced (some ⟨b2, o2, none⟩) 1 n2 c2 1) wx := slice_l _ n2 c2 1 hn1
      rw [e3] at t1 hd9
      have HB9 : Hid (Bs w (.slice a3 n3 c3) (l.drop 9)) := hd9.1
      clear e3 hd9
      have HRd : ∀ w1, Below w.heap.size w w1 → Sents (w1.alloc (.cells #[.slice a3 n3 c3, .nilIface] 105)) A B ∧ Rd (w1.alloc (.cells #[.slice a3 n3 c3, .nilIface] 105)) w1.heap.size A B (w1.heap.size + 1) (some (l.drop 9)) := fun w1 hb => by
        have hs1 := hs.below hb
        refine ⟨hs1.below ((Below.refl _ _).alloc (Nat.le_refl _) _), hs1.le, by omega, by simp, by simp, ⟨.slice a3 n3 c3, by simp, (HB9.out.below hb).below ((Below.refl _ _).alloc (Nat.le_refl _) _), ⟨_, _, _, rfl, hc3, fun hp => ?_⟩⟩, by simp⟩
        obtain ⟨x, rfl, hx⟩ := hD3 hp
        exact ⟨x, rfl, by have := hb.size; omega⟩
      clear en e2'
      have hop0 : openC l lo hi = 0 := by rw [hop, h4]; rfl
      rw [hop0] at HD
      have HE : ∀ b w D, Sents w A B → Rd w b A B D left → Hid (Calls Tryz.prog 64 #[.pointer (some ⟨b, 0, none⟩)] w fun e w' => e = .returned (endV A left) ∧ w.grownBy w' (some b)) := fun b w D hs h => end_any b w A B D left hs h
      by_cases hl : left = some []
      · have hev : endV A left = .nilIface := by rw [endV, if_pos hl]
        rw [hev] at HE
        by_cases hf : f = 0
        · have hR : R = (0, 0) := by rw [HD.out]; simp [hl, hf]
          subst hR
          subst hf
          have hM := methF_reply
          go_enter Tryz.func39, Tryz.ntmps39
          go_wp2_with (first
            | (go_at_call 62; refine Calls.mono HO.out ?_; rintro e w1 ⟨rfl, hb⟩; have k1 := (hb.cell (p := ⟨b2, o2, none⟩) (cell_lt k0)).trans k0)
            | (go_at_call 52; refine (within_any _ _ _ _).mono ?_; rw [h4]; rintro e w2 ⟨rfl, rfl⟩)
            | (go_at_call 63; refine Calls.mono (HR _ _ _ (HRd _ hb).1 (HRd _ hb).2 h4).out ?_; rintro e w3 ⟨X, rfl, hX, hrd, hg⟩; have hB3 : Below w.heap.size w w3 := (hb.trans ((Below.refl _ _).alloc hb.size _)).trans (grown_below hg hb.size (by have := hb.size; simp; omega)); have hs3 := hs.below hB3)
            | (go_at_call 64; refine Calls.mono (HE _ _ _ hs3 hrd).out ?_; rintro e w4 ⟨rfl, hg4⟩; have hB4 := hB3.trans (grown_below hg4 hb.size hB3.size); have hX4 := hP _ _ _ _ hX hg4)
            | (go_at_call 133; refine Calls.mono (HF _ _ _ hX4).out ?_; rintro e w5 ⟨rfl, hb5⟩; have hB5 := hB4.trans (hb5.mono hB4.size); have hX5 := hP _ _ _ _ hX4 (grown_of_below hb5 _); have g6 := (hs.below hB5).g6))
          go_ret2
          exact ⟨fun _ => ⟨_, X, hb.size, hX5, rfl⟩, fun h => absurd rfl h, hB5⟩
        · have hR : R = (6, f) := by rw [HD.out]; simp [hl, hf]
          subst hR
          have nf : (f != 0) = true := by simpa using hf
          have hM := methF_reply
          go_enter Tryz.func39, Tryz.ntmps39
          go_wp2_with (first
            | (go_at_call 62; refine Calls.mono HO.out ?_; rintro e w1 ⟨rfl, hb⟩; have k1 := (hb.cell (p := ⟨b2, o2, none⟩) (cell_lt k0)).trans k0)
            | (go_at_call 52; refine (within_any _ _ _ _).mono ?_; rw [h4]; rintro e w2 ⟨rfl, rfl⟩)
            | (go_at_call 63; refine Calls.mono (HR _ _ _ (HRd _ hb).1 (HRd _ hb).2 h4).out ?_; rintro e w3 ⟨X, rfl, hX, hrd, hg⟩; have hB3 : Below w.heap.size w w3 := (hb.trans ((Below.refl _ _).alloc hb.size _)).trans (grown_below hg hb.size (by have := hb.size; simp; omega)); have hs3 := hs.below hB3)
            | (go_at_call 64; refine Calls.mono (HE _ _ _ hs3 hrd).out ?_; rintro e w4 ⟨rfl, hg4⟩; have hB4 := hB3.trans (grown_below hg4 hb.size hB3.size); have hX4 := hP _ _ _ _ hX hg4)
            | (go_at_call 133; refine Calls.mono (HF _ _ _ hX4).out ?_; rintro e w5 ⟨rfl, hb5⟩; have hB5 := hB4.trans (hb5.mono hB4.size); have hX5 := hP _ _ _ _ hX4 (grown_of_below hb5 _); have g6 := (hs.below hB5).g6))
          go_quiet (fail)
          go_wp2
          go_ret2
          exact ⟨fun h => absurd h (by decide), fun _ => rfl, ⟨hB5.os, hB5.tape, hB5.output, hB5.size, hB5.block⟩⟩
      · have hev : endV A left = refV (A 5) 0 := by rw [endV, if_neg hl]
        rw [hev] at HE
        have hR : R = (5, 0) := by rw [HD.out]; simp [hl]
        subst hR
        go_enter Tryz.func39, Tryz.ntmps39
        go_wp2_with (first
          | (go_at_call 62; refine Calls.mono HO.out ?_; rintro e w1 ⟨rfl, hb⟩; have k1 := (hb.cell (p := ⟨b2, o2, none⟩) (cell_lt k0)).trans k0)
          | (go_at_call 52; refine (within_any _ _ _ _).mono ?_; rw [h4]; rintro e w2 ⟨rfl, rfl⟩)
          | (go_at_call 63; refine Calls.mono (HR _ _ _ (HRd _ hb).1 (HRd _ hb).2 h4).out ?_; rintro e w3 ⟨X, rfl, hX, hrd, hg⟩; have hB3 : Below w.heap.size w w3 := (hb.trans ((Below.refl _ _).alloc hb.size _)).trans (grown_below hg hb.size (by have := hb.size; simp; omega)); have hs3 := hs.below hB3)
          | (go_at_call 64; refine Calls.mono (HE _ _ _ hs3 hrd).out ?_; rintro e w4 ⟨rfl, hg4⟩; have hB4 := hB3.trans (grown_below hg4 hb.size hB3.size)))
        go_ret2
        exact ⟨fun h => absurd h (by decide), fun _ => rfl, hB4⟩
    · have h4' : inB K lo hi = false := by simpa using h4
      have hR : R = (4, 0) := by rw [HD.out, hop, h4']; rfl
      subst hR
      have g4 := hs.g4
      go_enter Tryz.func39, Tryz.ntmps39
      go_wp2_with (first
        | (go_at_call 62; refine Calls.mono HO.out ?_; rintro e w1 ⟨rfl, hb⟩; have k1 := (hb.cell (p := ⟨b2, o2, none⟩) (cell_lt k0)).trans k0; have g4' := (hs.below hb).g4)
        | (go_at_call 52; refine (within_any _ _ _ _).mono ?_; rw [h4']; rintro e w2 ⟨rfl, rfl⟩))
      go_quiet (fail)
      go_wp2
      go_ret2
      exact ⟨fun h => absurd h (by decide), fun _ => rfl, ⟨hb.os, hb.tape, hb.output, hb.size, hb.block⟩⟩
  · have hop : openC l lo hi = sumC l := by simp [openC, h1]
    have hR : decC l lo hi left f = (sumC l, 0) := by rw [decC, hop, if_pos h1]
    rw [hR]
    rw [if_neg h1] at HO
    go_enter Tryz.func39, Tryz.ntmps39
    go_wp2_with (go_at_call 62; refine Calls.mono HO.out ?_; rintro e w1 ⟨rfl, hb⟩)
    go_ret2
    exact ⟨fun h => absurd h h1, fun _ => rfl, hb⟩
end Go.Proofs.YtafmjckpbcijoaaGreatDoor

/-
  impl.reader: reply.
-/
namespace Go.Proofs.YtafmjckpbcijoaaGreatDoor
open Go.RowKit
set_option linter.unusedVariables false
set_option linter.unusedSimpArgs false

/-- what a reply reads as, and what is left -/
structure RepR where
  cl : Nat
  sq : Nat
  st : Nat
  cd : Nat
  v : ByteArray
  ld : Nat
  left : RSt

def rdReply (s : RSt) : RepR :=
  let a := rdNum s
  let b := rdNum a.2
  let c := rdNum b.2
  let d := rdNum c.2
  let e := rdText d.2
  let f := rdNum e.2
  ⟨a.1, b.1, c.1, d.1, e.1, f.1, f.2⟩

def repV (r : RepR) : Value := .agg #[.int .i64 (r.cl : Nat), .int .i64 (r.sq : Nat), .int .i64 (r.st : Nat), .int .i64 (r.cd : Nat), .string r.v, .int .i64 (r.ld : Nat)]

theorem rdReply_v (s : RSt) : (rdReply s).v.size ≤ 64 := rdText_size _

set_option maxHeartbeats 4000000 in
set_option maxRecDepth 100000 in
theorem reply_any (b : Nat) (w : World) (A : Nat → Addr) (B D : Nat) (st : RSt) (hs : Sents w A B) (h : Rd w b A B D st) :
    Calls Tryz.prog 80 #[.pointer (some ⟨b, 0, none⟩)] w fun e w' => e = .returned (repV (rdReply st)) ∧ Rd w' b A B D (rdReply st).left ∧ w.grownBy w' (some b) := by
  have HN : ∀ w st, Sents w A B → Rd w b A B D st → Hid (Calls Tryz.prog 91 #[.pointer (some ⟨b, 0, none⟩)] w fun e w' => e = .returned (.int .i64 ((rdNum st).1 : Nat)) ∧ Sents w' A B ∧ Rd w' b A B D (rdNum st).2 ∧ w.grownBy w' (some b)) := fun w st hs h => number_s b w A B D st hs h
  have HT : ∀ w st, Sents w A B → Rd w b A B D st → Hid (Calls Tryz.prog 92 #[.pointer (some ⟨b, 0, none⟩)] w fun e w' => e = .returned (.string (rdText st).1) ∧ Sents w' A B ∧ Rd w' b A B D (rdText st).2 ∧ w.grownBy w' (some b)) := fun w st hs h => text_s b w A B D st hs h
  have hB0 := h.1
  have hbD := h.2.1
  have hDw := h.2.2.1
  have HR : Hid (Rd w b A B D st) := h
  have HS : Hid (Sents w A B) := hs
  clear h hs
  have y1 : True := trivial
  have y2 : True := trivial
  have y3 : True := trivial
  have y4 : True := trivial
  have y5 : True := trivial
  have y6 : True := trivial
  go_enter Tryz.func80, Tryz.ntmps80
  go_wp2_with (first
    | (go_at_call 91; clear y1; refine Calls.mono (HN _ _ (HS.out.kept (((Below.refl _ _).alloc (by omega) _).alloc (by simp; omega) _)) (HR.out.below (((Below.refl _ _).alloc (by omega) _).alloc (by simp; omega) _))).out ?_; rintro e w1 ⟨rfl, hs, hr, hg⟩; obtain ⟨cc, cf⟩ := grown_cell (q := w.heap.size + 1) hg (by simp [World.setCell] <;> omega) (by omega); obtain ⟨dc, df⟩ := grown_cell (q := w.heap.size) hg (by simp [World.setCell] <;> omega) (by omega); have hG : w.grownBy w1 (some b) := grownBy_trans (grown_alloc (grown_alloc (grownBy_refl w (some b)) _) _) hg; have hz := hG.size; have hz2 : w.heap.size + 1 < w1.heap.size := (by have := hg.size; simp [World.setCell] at this; omega))
    | (go_at_call 91; clear y2; refine Calls.mono (HN _ _ (hs.kept ((Below.refl _ _).setCell (show _ ≤ w.heap.size + 1 by omega) _)) (hr.below ((Below.refl _ _).setCell (show _ ≤ w.heap.size + 1 by omega) _))).out ?_; rintro e w2 ⟨rfl, hs, hr, hg⟩; obtain ⟨cc, cf⟩ := grown_cell (q := w.heap.size + 1) hg (by simp [World.setCell] <;> omega) (by omega); obtain ⟨dc, df⟩ := grown_cell (q := w.heap.size) hg (by simp [World.setCell] <;> omega) (by omega); have hG : w.grownBy w2 (some b) := grownBy_trans (grown_setNew hG (w.heap.size + 1) _ _ (by omega)) hg; have hz := hG.size; have hz2 : w.heap.size + 1 < w2.heap.size := (by have := hg.size; simp [World.setCell] at this; omega))
    | (go_at_call 91; clear y3; refine Calls.mono (HN _ _ (hs.kept ((Below.refl _ _).setCell (show _ ≤ w.heap.size + 1 by omega) _)) (hr.below ((Below.refl _ _).setCell (show _ ≤ w.heap.size + 1 by omega) _))).out ?_; rintro e w3 ⟨rfl, hs, hr, hg⟩; obtain ⟨cc, cf⟩ := grown_cell (q := w.heap.size + 1) hg (by simp [World.setCell] <;> omega) (by omega); obtain ⟨dc, df⟩ := grown_cell (q := w.heap.size) hg (by simp [World.setCell] <;> omega) (by omega); have hG : w.grownBy w3 (some b) := grownBy_trans (grown_setNew hG (w.heap.size + 1) _ _ (by omega)) hg; have hz := hG.size; have hz2 : w.heap.size + 1 < w3.heap.size := (by have := hg.size; simp [World.setCell] at this; omega))
    | (go_at_call 91; clear y4; refine Calls.mono (HN _ _ (hs.kept ((Below.refl _ _).setCell (show _ ≤ w.heap.size + 1 by omega) _)) (hr.below ((Below.refl _ _).setCell (show _ ≤ w.heap.size + 1 by omega) _))).out ?_; rintro e w4 ⟨rfl, hs, hr, hg⟩; obtain ⟨cc, cf⟩ := grown_cell (q := w.heap.size + 1) hg (by simp [World.setCell] <;> omega) (by omega); obtain ⟨dc, df⟩ := grown_cell (q := w.heap.size) hg (by simp [World.setCell] <;> omega) (by omega); have hG : w.grownBy w4 (some b) := grownBy_trans (grown_setNew hG (w.heap.size + 1) _ _ (by omega)) hg; have hz := hG.size; have hz2 : w.heap.size + 1 < w4.heap.size := (by have := hg.size; simp [World.setCell] at this; omega))
    | (go_at_call 92; clear y5; refine Calls.mono (HT _ _ (hs.kept ((Below.refl _ _).setCell (show _ ≤ w.heap.size + 1 by omega) _)) (hr.below ((Below.refl _ _).setCell (show _ ≤ w.heap.size + 1 by omega) _))).out ?_; rintro e w5 ⟨rfl, hs, hr, hg⟩; obtain ⟨cc, cf⟩ := grown_cell (q := w.heap.size + 1) hg (by simp [World.setCell] <;> omega) (by omega); obtain ⟨dc, df⟩ := grown_cell (q := w.heap.size) hg (by simp [World.setCell] <;> omega) (by omega); have hG : w.grownBy w5 (some b) := grownBy_trans (grown_setNew hG (w.heap.size + 1) _ _ (by omega)) hg; have hz := hG.size; have hz2 : w.heap.size + 1 < w5.heap.size := (by have := hg.size; simp [World.setCell] at this; omega))
    | (go_at_call 91; clear y6; refine Calls.mono (HN _ _ (hs.kept ((Below.refl _ _).setCell (show _ ≤ w.heap.size + 1 by omega) _)) (hr.below ((Below.refl _ _).setCell (show _ ≤ w.heap.size + 1 by omega) _))).out ?_; rintro e w6 ⟨rfl, hs, hr, hg⟩; obtain ⟨cc, cf⟩ := grown_cell (q := w.heap.size + 1) hg (by simp [World.setCell] <;> omega) (by omega); obtain ⟨dc, df⟩ := grown_cell (q := w.heap.size) hg (by simp [World.setCell] <;> omega) (by omega); have hG : w.grownBy w6 (some b) := grownBy_trans (grown_setNew hG (w.heap.size + 1) _ _ (by omega)) hg; have hz := hG.size; have hz2 : w.heap.size + 1 < w6.heap.size := (by have := hg.size; simp [World.setCell] at this; omega)))
  exact bodyPost_ret (v := repV (rdReply st)) (by simp [results, Tryz.results80, go_sem, repV, rdReply, *]) rfl ⟨rfl, hr.below ((((((((Below.refl _ _).setCell (show _ ≤ w.heap.size + 1 by omega) _).setCell (show _ ≤ w.heap.size by omega) _).setCell (show _ ≤ w.heap.size by omega) _).setCell (show _ ≤ w.heap.size by omega) _).setCell (show _ ≤ w.heap.size by omega) _).setCell (show _ ≤ w.heap.size by omega) _).setCell (show _ ≤ w.heap.size by omega) _), grown_setNew (grown_setNew (grown_setNew (grown_setNew (grown_setNew (grown_setNew (grown_setNew hG (w.heap.size + 1) _ _ (by omega)) w.heap.size _ _ (by omega)) w.heap.size _ _ (by omega)) w.heap.size _ _ (by omega)) w.heap.size _ _ (by omega)) w.heap.size _ _ (by omega)) w.heap.size _ _ (by omega)⟩
end Go.Proofs.YtafmjckpbcijoaaGreatDoor

/-
  impl.replyFault, spec.l1replyFault, laws.toReply, laws.szReply are in ReplyArg.
-/
namespace Go.Proofs.YtafmjckpbcijoaaGreatDoor
open Go.RowKit
set_option linter.unusedVariables false

/-- the fault of a reply -/
def repF (cl sq st cd v ld : Int) : Int :=
  if inB cl 1 8 = false then 1 else if inB sq 1 1073741824 = false then 2 else if inB st 1 2 = false then 3
  else if inB cd (if st = 1 then 1 else 0) (if st = 1 then 4 else 0) = false then 4
  else if (if st = 1 then 64 else 0) < v then 5
  else if inB ld 0 (if st = 1 then 0 else 7) = false then 6 else 0

set_option maxHeartbeats 2000000 in
theorem implReplyFault_any (cl sq st cd ld : Int) (v : ByteArray) (hv : v.size ≤ maxLen) (w : World) :
    Calls Tryz.prog 135 #[.agg #[.int .i64 cl, .int .i64 sq, .int .i64 st, .int .i64 cd, .string v, .int .i64 ld]] w fun e w' => e = .returned (.int .i64 (repF cl sq st cd v.size ld)) ∧ Below w.heap.size w w' := by
  unfold maxLen at hv
  by_cases h1 : st = 1
  · subst h1
    go_enter Tryz.func135, Tryz.ntmps135
    go_wp2_with (go_at_call 52; refine (within_any _ _ _ _).mono ?_; rintro e w' ⟨rfl, rfl⟩)
    all_goals go_ret
    all_goals refine ⟨ret_int ?_, (Below.refl _ _).alloc (Nat.le_refl _) _⟩
    all_goals (go_light; simp_all [repF]; try omega)
  · have n1 : (st == 1) = false := by simpa using h1
    go_enter Tryz.func135, Tryz.ntmps135
    go_wp2_with (go_at_call 52; refine (within_any _ _ _ _).mono ?_; rintro e w' ⟨rfl, rfl⟩)
    all_goals go_ret
    all_goals refine ⟨ret_int ?_, (Below.refl _ _).alloc (Nat.le_refl _) _⟩
    all_goals (go_light; simp_all [repF]; try omega)

set_option maxHeartbeats 4000000 in
theorem specReplyFault_any (cl sq st cd ld : Int) (v : ByteArray) (hv : v.size ≤ maxLen) (w : World) :
    Calls Tryz.prog 34 #[.agg #[.int .i64 cl, .int .i64 sq, .int .i64 st, .int .i64 cd, .string v, .int .i64 ld]] w fun e w' => e = .returned (.int .i64 (repF cl sq st cd v.size ld)) ∧ Below w.heap.size w w' := by
  unfold maxLen at hv
  by_cases h1 : st = 1
  · subst h1
    go_enter Tryz.func34, Tryz.ntmps34
    go_wp2_with (go_at_call 25; refine (l1in_any _ _ _ _).mono ?_; rintro e w' ⟨rfl, rfl⟩)
    all_goals go_ret
    all_goals refine ⟨ret_int ?_, (Below.refl _ _).alloc (Nat.le_refl _) _⟩
    all_goals go_light
    all_goals (try (simp only [Bool.not_eq_true', Bool.not_eq_false', inB_iff, inB_not] at *))
    all_goals simp only [repF, inB_not, if_true]
    all_goals repeat (first | rfl | rw [if_pos (by omega)] | rw [if_neg (by omega)])
  · have n1 : (st == 1) = false := by simpa using h1
    go_enter Tryz.func34, Tryz.ntmps34
    go_wp2_with (go_at_call 25; refine (l1in_any _ _ _ _).mono ?_; rintro e w' ⟨rfl, rfl⟩)
    all_goals go_ret
    all_goals refine ⟨ret_int ?_, (Below.refl _ _).alloc (Nat.le_refl _) _⟩
    all_goals go_light
    all_goals (try (simp only [Bool.not_eq_true', Bool.not_eq_false', inB_iff, inB_not, bne_iff_ne, bne_eq_false_iff_eq, ne_eq] at *))
    all_goals simp only [repF, inB_not, if_neg h1]
    all_goals repeat (first | rfl | rw [if_pos (by omega)] | rw [if_neg (by omega)])

end Go.Proofs.YtafmjckpbcijoaaGreatDoor

/-
  The fault of a replyBody.
-/
namespace Go.Proofs.YtafmjckpbcijoaaGreatDoor
open Go.RowKit
set_option linter.unusedVariables false

theorem replyBody_fault_any (cl sq st cd ld : Int) (v : ByteArray) (hv : v.size ≤ maxLen) (w : World) :
    Calls Tryz.prog 133 #[.agg #[.int .i64 cl, .int .i64 sq, .int .i64 st, .int .i64 cd, .string v, .int .i64 ld]] w fun e w' => e = .returned (.int .i64 (repF cl sq st cd v.size ld)) ∧ Below w.heap.size w w' := by
  go_enter Tryz.func133, Tryz.ntmps133
  go_wp2_with (go_at_call 135; refine (implReplyFault_any cl sq st cd ld v hv _).mono ?_; rintro e w1 ⟨rfl, hb⟩)
  go_ret
  exact ⟨rfl, ((Below.refl _ _).alloc (Nat.le_refl _) _).trans (hb.mono (by simp))⟩

theorem meth_reply_fault (x : Value) (w : World) : (method 300 73 x "loop.example/s01586/impl.fault").run Tryz.prog w = .ok (133, x) w := by kernel_rfl
end Go.Proofs.YtafmjckpbcijoaaGreatDoor

/-
  Stores into new blocks; results out of a cell.
-/
namespace Go.Proofs.YtafmjckpbcijoaaGreatDoor
open Go.RowKit
set_option linter.unusedVariables false
set_option linter.unusedSimpArgs false

theorem below_setCells {B g : Nat} {w0 : World} (hg : B ≤ g) : ∀ (vs : List Value) (o : Nat) (w : World), Below B w0 w → Below B w0 (w.setCells g o vs)
  | [], _, _, h => h
  | v :: vs, o, w, h => below_setCells hg vs (o + 1) _ (h.setCell (show B ≤ (⟨g, o, none⟩ : Addr).block from hg) v)

theorem wpl_store_new {w : World} {ops : Array Oper} {rest : List Oper} {o : Oper} {a : Act} {Q : Exit → Act → World → Prop} (hgd : o.guard = none) (ty : TypeId) (x y : Operand) (ho : o.op = .store ty x y)
    (c c' : Array Value) (hx : a.eval x = .pointer (some ⟨w.heap.size, 0, none⟩)) (hy : a.eval y = .agg c') (hi : (Tryz.prog.info? ty).map (·.size) = some c'.size) (hc : c.size = c'.size) (h1 : c'.all (·.oneCell') = true)
    (h : wpList Tryz.prog ops Q rest (a.put o.dst undef) (w.alloc (.cells c' ty))) : wpList Tryz.prog ops Q (o :: rest) a (w.alloc (.cells c ty)) :=
  wpList_plain hgd fun K hK => by
    unfold Oper.wp execOp
    simp only [ho, hx, hy, Sem.run_bind, Sem.run_pure, Result.andThen_ok, run_storeAt_new w ty c c' hi hc h1]
    exact hK _ _ h

theorem range_new (w : World) (cs : List Value) (t : TypeId) : (w.alloc (.cells cs.toArray t)).rangeAt w.heap.size 0 cs := by
  intro j v hj
  rw [Nat.zero_add, World.cell?_alloc_new]
  simpa using hj

theorem results_cell {fn : Func} {t : Tmp} {ty : TypeId} {tmps : Array Value} {a : Addr} {w : World} {v : Value} (hr : fn.results = #[.cell t ty]) (ht : tmps.getD t undef = .pointer (some a))
    (hl : (loadVar ty a).run Tryz.prog w = .ok v w) : (results fn tmps).run Tryz.prog w = .ok v w := by
  have e : tmps[t]?.getD undef = .pointer (some a) := by rw [← ht]; simp
  simp [results, hr, e, hl, asAddr]

/-- a variable that the call itself made is there still -/
theorem there_new {w w2 : World} {cs : Array Value} {t : TypeId} (hb : Below (w.alloc (.cells cs t)).heap.size (w.alloc (.cells cs t)) w2) (hlt : w.heap.size < w2.heap.size) (o : Obj) : (w2.alloc o).there w.heap.size 0 cs.size := by
  intro j hj
  have c := hb.cell (p := ⟨w.heap.size, 0 + j, none⟩) (by simp)
  have f := hb.frozen (p := ⟨w.heap.size, 0 + j, none⟩) (by simp)
  rw [World.cell?_alloc_lt _ _ ⟨w.heap.size, 0 + j, none⟩ hlt, World.frozen?_alloc_old _ _ ⟨w.heap.size, 0 + j, none⟩ (Nat.ne_of_lt hlt), c, f]
  simp [hj]
end Go.Proofs.YtafmjckpbcijoaaGreatDoor

/-
  Gates: so that an arm is tried at its own operation alone.
-/
namespace Go.Proofs.YtafmjckpbcijoaaGreatDoor
open Go.RowKit
set_option linter.unusedVariables false

theorem gate_store {P : Program} {w : World} {ops : Array Oper} {rest : List Oper} {o : Oper} {a : Act} {Q : Exit → Act → World → Prop} (ty : TypeId) (x y : Operand) (ho : o.op = .store ty x y)
    (h : wpList P ops Q (o :: rest) a w) : wpList P ops Q (o :: rest) a w := h
theorem gate_load {P : Program} {w : World} {ops : Array Oper} {rest : List Oper} {o : Oper} {a : Act} {Q : Exit → Act → World → Prop} (ty : TypeId) (x : Operand) (ho : o.op = .load ty x)
    (h : wpList P ops Q (o :: rest) a w) : wpList P ops Q (o :: rest) a w := h
theorem range_app {w : World} {b o : Nat} {xs ys : List Value} : w.rangeAt b o (xs ++ ys) ↔ w.rangeAt b o xs ∧ w.rangeAt b (o + xs.length) ys := by
  constructor
  · intro h
    refine ⟨fun j v hj => h j v ?_, fun j v hj => ?_⟩
    · rw [List.getElem?_append_left (List.getElem?_eq_some_iff.1 hj).1]; exact hj
    · have := h (xs.length + j) v (by rw [List.getElem?_append_right (by omega)]; simpa using hj)
      rwa [← Nat.add_assoc] at this
  · rintro ⟨h1, h2⟩ j v hj
    rcases Nat.lt_or_ge j xs.length with h | h
    · rw [List.getElem?_append_left h] at hj
      exact h1 j v hj
    · rw [List.getElem?_append_right h] at hj
      have := h2 (j - xs.length) v hj
      rwa [Nat.add_assoc, Nat.add_sub_cancel' h] at this
theorem range_splice {w : World} {b : Nat} (p m m' q : List Value) (h : w.rangeAt b 0 (p ++ (m ++ q))) (hl : m'.length = m.length) (ht : w.there b p.length m'.length) :
    (w.setCells b p.length m').rangeAt b 0 (p ++ (m' ++ q)) := by
  obtain ⟨h1, h2⟩ := range_app.1 h
  obtain ⟨h2, h3⟩ := range_app.1 h2
  rw [Nat.zero_add] at h2 h3
  refine range_app.2 ⟨World.rangeAt_setCells_apart h1 _ _ _ (by omega), range_app.2 ⟨?_, ?_⟩⟩
  · rw [Nat.zero_add]; exact World.rangeAt_setCells_same _ _ _ _ ht
  · rw [Nat.zero_add, hl]; exact World.rangeAt_setCells_apart h3 _ _ _ (by omega)
theorem there_part {w : World} {b n : Nat} (h : w.there b 0 n) (o k : Nat) (hk : o + k ≤ n) : w.there b o k := fun j hj => by
  have := h (o + j) (by omega)
  rwa [Nat.zero_add] at this
end Go.Proofs.YtafmjckpbcijoaaGreatDoor

/-
  errors.As at the errors of the wire, the target a *refusal.
-/
namespace Go.Proofs.YtafmjckpbcijoaaGreatDoor
open Go.RowKit Go.Extern.Stop Go.Stop Go.Extern
set_option linter.unusedVariables false

/-- errors.As(nil, target). -/
theorem as_nil (t : Value) (w : World) :
    Calls Tryz.prog 77 #[.nilIface, t] w fun e w' => e = .returned (.bool false) ∧ w' = w := by
  go_enter Tryz.func77, Tryz.ntmps77
  go_wp2
  go_ret
  exact ⟨rfl, rfl⟩

def kindM : Array Value → Sem Value := ReflectliteType.abiMethod fun t => do pure (.int .u8 (← Rtype.kind t))
theorem valueOfP (t : Addr) (w : World) : (ReflectliteValue.unpack (.iface 122 (.pointer (some t)))).run Tryz.prog w
    = .ok (.agg #[.pointer (some ⟨7, 122, none⟩), .pointer (some ⟨w.heap.size, 0, none⟩), .int .u64 150]) (w.alloc (.cells #[.pointer (some t)] 122)) := by kernel_rfl
theorem typeP (a : Addr) (w : World) : (ReflectliteValue.methodAny (ReflectliteValue.valueError "reflectlite.Value.Type" 0) (fun t _ _ _ => ReflectliteType.toType t) #[.agg #[.pointer (some ⟨7, 122, none⟩), .pointer (some a), .int .u64 150]]).run Tryz.prog w
    = .ok (.iface 145 (.agg #[.pointer (some ⟨7, 122, none⟩)])) w := by kernel_rfl
theorem methodKind (h : Value) (w : World) : (Go.method 300 145 (.agg #[h]) "Kind").run Tryz.prog w = .ok (111, h) w := by kernel_rfl
theorem kindP (w : World) : (kindM #[.pointer (some ⟨7, 122, none⟩)]).run Tryz.prog w = .ok (.int .u8 22) w := by kernel_rfl
theorem kindR (w : World) : (kindM #[.pointer (some ⟨7, 102, none⟩)]).run Tryz.prog w = .ok (.int .u8 25) w := by kernel_rfl

theorem rlm (z : Sem Value) (f : TypeId → Addr → Nat → Nat → Sem Value) (v : Value) :
    ReflectliteValue.method z f #[v] = (do match ← ReflectliteValue.parts v with | none => z | some (t, a, fl) => f t a fl (fl % 32)) := rfl
theorem partsP (a : Addr) (w : World) : (ReflectliteValue.parts (.agg #[.pointer (some ⟨7, 122, none⟩), .pointer (some a), .int .u64 150])).run Tryz.prog w = .ok (some (122, a, 150)) w := by kernel_rfl
theorem isNilP (a p : Addr) (W : World) (ha : W.cell? a = some (.pointer (some p))) :
    (ReflectliteValue.method (ReflectliteValue.valueError "reflectlite.Value.IsNil" 0) ReflectliteValue.isNil #[.agg #[.pointer (some ⟨7, 122, none⟩), .pointer (some a), .int .u64 150]]).run Tryz.prog W = .ok (.bool false) W := by
  rw [rlm]
  simp only [Sem.run_bind, partsP, Result.andThen]
  simp [ReflectliteValue.isNil, loadVar, isAgg, underlying, Tryz.underlying122, ha, Result.andThen]

theorem methodElem (h : Value) (w : World) : (Go.method 300 145 (.agg #[h]) "Elem").run Tryz.prog w = .ok (144, .agg #[h]) w := by kernel_rfl
theorem methodImplements (h : Value) (w : World) : (Go.method 300 145 (.agg #[h]) "Implements").run Tryz.prog w = .ok (145, .agg #[h]) w := by kernel_rfl
theorem methodAssignableTo (h : Value) (w : World) : (Go.method 300 145 (.agg #[h]) "AssignableTo").run Tryz.prog w = .ok (142, .agg #[h]) w := by kernel_rfl
theorem elemP (w : World) : (ReflectliteType.method ReflectliteType.elem #[.agg #[.pointer (some ⟨7, 122, none⟩)]]).run Tryz.prog w = .ok (.iface 145 (.agg #[.pointer (some ⟨7, 102, none⟩)])) w := by kernel_rfl
theorem implementsR (w : World) : (ReflectliteType.relation "Implements" ReflectliteType.implements_ #[.agg #[.pointer (some ⟨7, 102, none⟩)], .iface 145 (.agg #[.pointer (some ⟨7, 80, none⟩)])]).run Tryz.prog w = .ok (.bool true) w := by kernel_rfl
theorem typeOfR (v : Value) (w : World) : (ReflectliteType.typeOf #[.iface 102 v]).run Tryz.prog w = .ok (.iface 145 (.agg #[.pointer (some ⟨7, 102, none⟩)])) w := by kernel_rfl
theorem assignableR (w : World) : (ReflectliteType.relation "AssignableTo" ReflectliteType.assignableTo #[.agg #[.pointer (some ⟨7, 102, none⟩)], .iface 145 (.agg #[.pointer (some ⟨7, 102, none⟩)])]).run Tryz.prog w = .ok (.bool true) w := by kernel_rfl
theorem valueOfR (s f : Value) (w : World) : (ReflectliteValue.unpack (.iface 102 (.agg #[s, f]))).run Tryz.prog w
    = .ok (.agg #[.pointer (some ⟨7, 102, none⟩), .pointer (some ⟨w.heap.size, 0, none⟩), .int .u64 153]) (w.alloc (.cells #[s, f] 102)) := by kernel_rfl
theorem elemOfP (w : World) : (Rtype.elem? 122).run Tryz.prog w = .ok (some 102) w := by kernel_rfl
theorem mkR (p : Addr) (w : World) : (ReflectliteValue.mk 102 p ReflectliteValue.flagAddr).run Tryz.prog w = .ok (.agg #[.pointer (some ⟨7, 102, none⟩), .pointer (some p), .int .u64 409]) w := by kernel_rfl
theorem elemVP (a p : Addr) (W : World) (ha : W.cell? a = some (.pointer (some p))) :
    (ReflectliteValue.method (ReflectliteValue.valueError "reflectlite.Value.Elem" 0) ReflectliteValue.elem #[.agg #[.pointer (some ⟨7, 122, none⟩), .pointer (some a), .int .u64 150]]).run Tryz.prog W
      = .ok (.agg #[.pointer (some ⟨7, 102, none⟩), .pointer (some p), .int .u64 409]) W := by
  rw [rlm]
  simp only [Sem.run_bind, partsP, Result.andThen]
  simp [ReflectliteValue.elem, loadVar, isAgg, underlying, Tryz.underlying122, ha, Result.andThen, elemOfP, mkR]
theorem rls (v x : Value) : ReflectliteValue.set #[v, x] = (do
    let (some (dst, a, fl), some (src, b, _)) := (← ReflectliteValue.parts v, ← ReflectliteValue.parts x)
      | unsupported (.noEntry "extern/(internal/reflectlite.Value).Set.zeroValue")
    if fl / ReflectliteValue.flagAddr % 2 == 0 then unsupported (.noEntry "extern/(internal/reflectlite.Value).Set.unaddressable")
    let val ← loadVar src b
    if ← Rtype.directlyAssignable dst src then storeVar dst a val
    else if ← Rtype.implements dst src then
      if (← Rtype.kind src) == 20 then
        match val with
        | .nilIface => unsupported (.noEntry "extern/reflectlite: a nil value of one interface type handed on as a value of another")
        | _ => storeVar dst a val
      else storeVar dst a (.iface src val)
    else panicString ("reflectlite.Set: value of type " ++ (← Rtype.spelt src) ++ " is not assignable to type " ++ (← Rtype.spelt dst))
    pure (.tuple #[])) := rfl
theorem partsRa (a : Addr) (w : World) : (ReflectliteValue.parts (.agg #[.pointer (some ⟨7, 102, none⟩), .pointer (some a), .int .u64 409])).run Tryz.prog w = .ok (some (102, a, 409)) w := by kernel_rfl
theorem partsR (a : Addr) (w : World) : (ReflectliteValue.parts (.agg #[.pointer (some ⟨7, 102, none⟩), .pointer (some a), .int .u64 153])).run Tryz.prog w = .ok (some (102, a, 153)) w := by kernel_rfl
theorem directR (w : World) : (Rtype.directlyAssignable 102 102).run Tryz.prog w = .ok true w := by kernel_rfl
theorem sizeR (w : World) : (sizeOf 102).run Tryz.prog w = .ok 2 w := by kernel_rfl
theorem isAggR (w : World) : (isAgg 102).run Tryz.prog w = .ok true w := by kernel_rfl
theorem setR (tb b : Nat) (a : Addr) (fa : Int) (o0 o1 : Value) (W : World) (hb0 : W.cell? ⟨b, 0, none⟩ = some (sentV a)) (hb1 : W.cell? ⟨b, 1, none⟩ = some (.int .i64 fa))
    (ht0 : W.cell? ⟨tb, 0, none⟩ = some o0) (ht1 : W.cell? ⟨tb, 1, none⟩ = some o1) (hf : ∀ i, W.frozen? ⟨tb, i, none⟩ = false) :
    (ReflectliteValue.set #[.agg #[.pointer (some ⟨7, 102, none⟩), .pointer (some ⟨tb, 0, none⟩), .int .u64 409], .agg #[.pointer (some ⟨7, 102, none⟩), .pointer (some ⟨b, 0, none⟩), .int .u64 153]]).run Tryz.prog W
      = .ok (.tuple #[]) ((W.setCell ⟨tb, 0, none⟩ (sentV a)).setCell ⟨tb, 1, none⟩ (.int .i64 fa)) := by
  rw [rls]
  simp only [Sem.run_bind, partsRa, partsR, Result.andThen]
  have h1 : (W.setCell ⟨tb, 0, none⟩ (sentV a)).cell? ⟨tb, 1, none⟩ = some o1 := by
    rw [World.cell?_setCell_other W _ _ _ (by intro h; injection h with _ h2 _; cases h2)]; exact ht1
  have hfa : (W.setCell ⟨tb, 0, none⟩ (sentV a)).frozen? ⟨tb, 1, none⟩ = false := by rw [World.frozen?_setCell]; exact hf 1
  simp [ReflectliteValue.flagAddr, loadVar, loadCells, loadCellsFrom, hb0, hb1, Result.andThen, directR, storeVar, Value.cells, storeCells, Addr.add]
  rw [run_store Tryz.prog W ⟨tb, 0, none⟩ _ _ (by rfl)]
  simp [ht0, hf]
  rw [run_store Tryz.prog (W.setCell ⟨tb, 0, none⟩ (sentV a)) ⟨tb, 1, none⟩ _ _ (by rfl)]
  simp [h1, hfa]

set_option maxHeartbeats 4000000 in
theorem as_hit (a : Addr) (fa : Int) (tb : Nat) (o0 o1 : Value) (w : World) (hg : w.cell? ⟨6, 0, none⟩ = some (.iface 145 (.agg #[.pointer (some ⟨7, 80, none⟩)])))
    (ht0 : w.cell? ⟨tb, 0, none⟩ = some o0) (ht1 : w.cell? ⟨tb, 1, none⟩ = some o1) (hf0 : ∀ i, w.frozen? ⟨tb, i, none⟩ = false) :
    Calls Tryz.prog 77 #[refV a fa, .iface 122 (.pointer (some ⟨tb, 0, none⟩))] w fun ev w' => ev = .returned (.bool true) ∧
      w' = (((((w.alloc (.cells #[.pointer (some ⟨tb, 0, none⟩)] 122)).alloc (.cells #[.pointer (some ⟨7, 122, none⟩), .pointer (some ⟨w.heap.size, 0, none⟩), .int .u64 150] 135)).alloc (.cells #[.pointer (some ⟨7, 122, none⟩), .pointer (some ⟨w.heap.size, 0, none⟩), .int .u64 150] 135)).alloc (.cells #[sentV a, .int .i64 fa] 102)).setCell ⟨tb, 0, none⟩ (sentV a)).setCell ⟨tb, 1, none⟩ (.int .i64 fa) := by
  have h6 := @run_callFunc_extern Tryz.prog 87 _ (fun args => ReflectliteValue.unpack (args.getD 0 (.tuple #[]))) Tryz.func87 (by kernel_rfl) (by kernel_rfl) (by kernel_rfl) (by kernel_rfl)
  have h7 := @run_callFunc_extern Tryz.prog 88 _ (ReflectliteValue.methodAny (ReflectliteValue.valueError "reflectlite.Value.Type" 0) (fun t _ _ _ => ReflectliteType.toType t)) Tryz.func88 (by kernel_rfl) (by kernel_rfl) (by kernel_rfl) (by kernel_rfl)
  have h8 := @run_callFunc_extern Tryz.prog 89 _ (ReflectliteValue.method (ReflectliteValue.valueError "reflectlite.Value.IsNil" 0) ReflectliteValue.isNil) Tryz.func89 (by kernel_rfl) (by kernel_rfl) (by kernel_rfl) (by kernel_rfl)
  have h27 := @run_callFunc_extern Tryz.prog 111 _ kindM Tryz.func111 (by kernel_rfl) (by kernel_rfl) (by kernel_rfl) (by kernel_rfl)
  have h37 := @run_callFunc_extern Tryz.prog 144 _ (ReflectliteType.method ReflectliteType.elem) Tryz.func144 (by kernel_rfl) (by kernel_rfl) (by kernel_rfl) (by kernel_rfl)
  have h38 := @run_callFunc_extern Tryz.prog 145 _ (ReflectliteType.relation "Implements" ReflectliteType.implements_) Tryz.func145 (by kernel_rfl) (by kernel_rfl) (by kernel_rfl) (by kernel_rfl)
  have h10 := @run_callFunc_extern Tryz.prog 85 _ ReflectliteType.typeOf Tryz.func85 (by kernel_rfl) (by kernel_rfl) (by kernel_rfl) (by kernel_rfl)
  have h35 := @run_callFunc_extern Tryz.prog 142 _ (ReflectliteType.relation "AssignableTo" ReflectliteType.assignableTo) Tryz.func142 (by kernel_rfl) (by kernel_rfl) (by kernel_rfl) (by kernel_rfl)
  have h11 := @run_callFunc_extern Tryz.prog 94 _ (ReflectliteValue.method (ReflectliteValue.valueError "reflectlite.Value.Elem" 0) ReflectliteValue.elem) Tryz.func94 (by kernel_rfl) (by kernel_rfl) (by kernel_rfl) (by kernel_rfl)
  have h12 := @run_callFunc_extern Tryz.prog 95 _ ReflectliteValue.set Tryz.func95 (by kernel_rfl) (by kernel_rfl) (by kernel_rfl) (by kernel_rfl)
  have tO := typeOfR
  have mA := methodAssignableTo
  have a25 := assignableR
  have v25 := valueOfR
  have f6 := valueOfP
  have f7 := typeP
  have mK := methodKind
  have mE := methodElem
  have mI := methodImplements
  have k27 := kindP
  have k25 := kindR
  have e27 := elemP
  have i25 := implementsR
  have n8 := isNilP ⟨w.heap.size, 0, none⟩ ⟨tb, 0, none⟩ ((w.alloc (.cells #[.pointer (some ⟨tb, 0, none⟩)] 122)).alloc (.cells #[.pointer (some ⟨7, 122, none⟩), .pointer (some ⟨w.heap.size, 0, none⟩), .int .u64 150] 135)) (by simp)
  have lt : ∀ {k o : Nat} {v : Value}, w.cell? ⟨k, o, none⟩ = some v → k < w.heap.size := fun {k o v} h => by
    rcases Nat.lt_or_ge k w.heap.size with h' | h'
    · exact h'
    · simp [World.cell?, Array.getElem?_eq_none h'] at h
  have hlt := lt hg
  have htl := lt ht0
  have hg2 : ((w.alloc (.cells #[.pointer (some ⟨tb, 0, none⟩)] 122)).alloc (.cells #[.pointer (some ⟨7, 122, none⟩), .pointer (some ⟨w.heap.size, 0, none⟩), .int .u64 150] 135)).cell? ⟨6, 0, none⟩ = some (.iface 145 (.agg #[.pointer (some ⟨7, 80, none⟩)])) := by
    rw [World.cell?_alloc_lt _ _ ⟨6, 0, none⟩ (by simp; omega), World.cell?_alloc_lt _ _ ⟨6, 0, none⟩ hlt]; exact hg
  have el := elemVP ⟨w.heap.size, 0, none⟩ ⟨tb, 0, none⟩ (((w.alloc (.cells #[.pointer (some ⟨tb, 0, none⟩)] 122)).alloc (.cells #[.pointer (some ⟨7, 122, none⟩), .pointer (some ⟨w.heap.size, 0, none⟩), .int .u64 150] 135)).alloc (.cells #[.pointer (some ⟨7, 122, none⟩), .pointer (some ⟨w.heap.size, 0, none⟩), .int .u64 150] 135)) (by rw [World.cell?_alloc_lt _ _ ⟨w.heap.size, 0, none⟩ (by simp; omega)]; simp)
  have old : ∀ (i : Nat) (v : Value), w.cell? ⟨tb, i, none⟩ = some v → ((((w.alloc (.cells #[.pointer (some ⟨tb, 0, none⟩)] 122)).alloc (.cells #[.pointer (some ⟨7, 122, none⟩), .pointer (some ⟨w.heap.size, 0, none⟩), .int .u64 150] 135)).alloc (.cells #[.pointer (some ⟨7, 122, none⟩), .pointer (some ⟨w.heap.size, 0, none⟩), .int .u64 150] 135)).alloc (.cells #[sentV a, .int .i64 fa] 102)).cell? ⟨tb, i, none⟩ = some v := fun i v h => by
    rw [World.cell?_alloc_lt _ _ ⟨tb, i, none⟩ (by simp; omega), World.cell?_alloc_lt _ _ ⟨tb, i, none⟩ (by simp; omega), World.cell?_alloc_lt _ _ ⟨tb, i, none⟩ (by simp; omega), World.cell?_alloc_lt _ _ ⟨tb, i, none⟩ htl]; exact h
  have st := setR tb (w.heap.size + 1 + 1 + 1) a fa o0 o1 ((((w.alloc (.cells #[.pointer (some ⟨tb, 0, none⟩)] 122)).alloc (.cells #[.pointer (some ⟨7, 122, none⟩), .pointer (some ⟨w.heap.size, 0, none⟩), .int .u64 150] 135)).alloc (.cells #[.pointer (some ⟨7, 122, none⟩), .pointer (some ⟨w.heap.size, 0, none⟩), .int .u64 150] 135)).alloc (.cells #[sentV a, .int .i64 fa] 102))
    (by rw [World.cell?_alloc_at _ _ _ _ (by simp)]; rfl) (by rw [World.cell?_alloc_at _ _ _ _ (by simp)]; rfl)
    (old 0 o0 ht0) (old 1 o1 ht1)
    (fun i => by rw [World.frozen?_alloc_old _ _ ⟨tb, i, none⟩ (by simp; omega), World.frozen?_alloc_old _ _ ⟨tb, i, none⟩ (by simp; omega), World.frozen?_alloc_old _ _ ⟨tb, i, none⟩ (by simp; omega), World.frozen?_alloc_old _ _ ⟨tb, i, none⟩ (Nat.ne_of_lt htl)]; exact hf0 i)
  clear old lt
  go_enter Tryz.func77, Tryz.ntmps77
  go_wp2
  refine wp_loop_rounds 1 ?_
  rw [rounds_succ]
  go_wp2
  go_ret
  exact ⟨rfl, rfl⟩
end Go.Proofs.YtafmjckpbcijoaaGreatDoor

/-
  impl.codeOf, impl.faultOf.
-/
namespace Go.Proofs.YtafmjckpbcijoaaGreatDoor
open Go.RowKit Go.Extern.Stop Go.Stop Go.Extern
set_option linter.unusedVariables false

set_option maxHeartbeats 2000000 in
theorem codeOf_ref (i : Nat) (f : Int) (w : World) (A : Nat → Addr) (B : Nat) (hs : Sents w A B) (h1 : 1 ≤ i) (h6 : i ≤ 6) :
    Calls Tryz.prog 60 #[refV (A i) f] w fun e w' => e = .returned (.int .i64 i) ∧ Below w.heap.size w w' := by
  have y1 : True := trivial
  have y2 : True := trivial
  have y3 : True := trivial
  have y4 : True := trivial
  have y5 : True := trivial
  have y6 : True := trivial
  have c1 := hs.g1
  have hB := Below.refl w.heap.size w
  obtain rfl | rfl | rfl | rfl | rfl | rfl : i = 1 ∨ i = 2 ∨ i = 3 ∨ i = 4 ∨ i = 5 ∨ i = 6 := by omega
  all_goals
    go_enter Tryz.func60, Tryz.ntmps60
    go_wp2_with (first
      | (go_at_call 76; clear y1; refine (is_at hs _ 1 f (by decide) (by decide) (by decide) (by decide)).mono ?_; rintro e w1 ⟨rfl, hb⟩; replace hs := hs.below hb; replace hB := hB.trans (hb.mono hB.size); have c2 := hs.g2)
      | (go_at_call 76; clear y2; refine (is_at hs _ 2 f (by decide) (by decide) (by decide) (by decide)).mono ?_; rintro e w2 ⟨rfl, hb⟩; replace hs := hs.below hb; replace hB := hB.trans (hb.mono hB.size); have c3 := hs.g3)
      | (go_at_call 76; clear y3; refine (is_at hs _ 3 f (by decide) (by decide) (by decide) (by decide)).mono ?_; rintro e w3 ⟨rfl, hb⟩; replace hs := hs.below hb; replace hB := hB.trans (hb.mono hB.size); have c4 := hs.g4)
      | (go_at_call 76; clear y4; refine (is_at hs _ 4 f (by decide) (by decide) (by decide) (by decide)).mono ?_; rintro e w4 ⟨rfl, hb⟩; replace hs := hs.below hb; replace hB := hB.trans (hb.mono hB.size); have c5 := hs.g5)
      | (go_at_call 76; clear y5; refine (is_at hs _ 5 f (by decide) (by decide) (by decide) (by decide)).mono ?_; rintro e w5 ⟨rfl, hb⟩; replace hs := hs.below hb; replace hB := hB.trans (hb.mono hB.size); have c6 := hs.g6)
      | (go_at_call 76; clear y6; refine (is_at hs _ 6 f (by decide) (by decide) (by decide) (by decide)).mono ?_; rintro e w6 ⟨rfl, hb⟩; replace hs := hs.below hb; replace hB := hB.trans (hb.mono hB.size)))
    go_ret
    exact ⟨rfl, hB⟩

theorem codeOf_nil (w : World) (A : Nat → Addr) (B : Nat) (hs : Sents w A B) :
    Calls Tryz.prog 60 #[.nilIface] w fun e w' => e = .returned (.int .i64 0) ∧ w' = w := by
  have c1 := hs.g1
  have c2 := hs.g2
  have c3 := hs.g3
  have c4 := hs.g4
  have c5 := hs.g5
  have c6 := hs.g6
  go_enter Tryz.func60, Tryz.ntmps60
  go_wp2_with (go_at_call 76; refine (is_nil _ _).mono ?_; rintro e w1 ⟨rfl, rfl⟩)
  go_ret
  exact ⟨rfl, rfl⟩

theorem faultOf_nil (w : World) :
    Calls Tryz.prog 61 #[.nilIface] w fun e w' => e = .returned (.int .i64 0) ∧ Below w.heap.size w w' := by
  go_enter Tryz.func61, Tryz.ntmps61
  go_wp2_with (go_at_call 77; refine (as_nil _ _).mono ?_; rintro e w1 ⟨rfl, rfl⟩)
  go_ret
  exact ⟨rfl, (Below.refl _ _).alloc (Nat.le_refl _) _⟩

set_option maxHeartbeats 2000000 in
theorem faultOf_ref (i : Nat) (f : Int) (w : World) (A : Nat → Addr) (B : Nat) (hs : Sents w A B) :
    Calls Tryz.prog 61 #[refV (A i) f] w fun e w' => e = .returned (.int .i64 f) ∧ Below w.heap.size w w' := by
  have hg := (hs.below ((Below.refl _ _).alloc (Nat.le_refl _) (.cells #[.nilIface, .int .i64 0] 102))).ty
  have h0 : (w.alloc (.cells #[.nilIface, .int .i64 0] 102)).cell? ⟨w.heap.size, 0, none⟩ = some .nilIface := by simp
  have h1 : (w.alloc (.cells #[.nilIface, .int .i64 0] 102)).cell? ⟨w.heap.size, 1, none⟩ = some (.int .i64 0) := by simp
  have hf : ∀ i, (w.alloc (.cells #[.nilIface, .int .i64 0] 102)).frozen? ⟨w.heap.size, i, none⟩ = false := by simp
  go_enter Tryz.func61, Tryz.ntmps61
  go_wp2_with (go_at_call 77; refine (as_hit (A i) f _ _ _ _ hg h0 h1 hf).mono ?_; rintro e w1 ⟨rfl, rfl⟩)
  go_ret
  exact ⟨rfl, (((((Below.refl _ _).alloc (Nat.le_refl _) _).alloc (by simp) _).alloc (by simp; omega) _).alloc (by simp; omega) _).alloc (by simp; omega) _⟩
end Go.Proofs.YtafmjckpbcijoaaGreatDoor

/-
  The type switch of impl.answerOf; errors.
-/
namespace Go.Proofs.YtafmjckpbcijoaaGreatDoor
open Go.RowKit
set_option linter.unusedVariables false
set_option linter.unusedSimpArgs false

abbrev zeroMsgV : Value := .agg #[.int .i64 0, .int .i64 0, .int .i64 0, .int .i64 0, .int .i64 0, .int .i64 0, .int .i64 0, .int .i64 0, .int .i64 0, .slice none 0 0]
abbrev zeroCmdV : Value := .agg #[.int .i64 0, .int .i64 0, .int .i64 0, .string ⟨#[]⟩, .string ⟨#[]⟩, .string ⟨#[]⟩]
abbrev zeroReplyV : Value := .agg #[.int .i64 0, .int .i64 0, .int .i64 0, .int .i64 0, .string ⟨#[]⟩, .int .i64 0]
theorem ta_nil_msg (w : World) : (Instr.typeAssert .nilIface 78 63 true).run Tryz.prog w = .ok (.tuple #[zeroMsgV, .bool false]) w := by kernel_rfl
theorem ta_nil_call (w : World) : (Instr.typeAssert .nilIface 78 66 true).run Tryz.prog w = .ok (.tuple #[zeroCmdV, .bool false]) w := by kernel_rfl
theorem ta_nil_reply (w : World) : (Instr.typeAssert .nilIface 78 73 true).run Tryz.prog w = .ok (.tuple #[zeroReplyV, .bool false]) w := by kernel_rfl
theorem ta_msg_msg (X : Value) (w : World) : (Instr.typeAssert (.iface 63 X) 78 63 true).run Tryz.prog w = .ok (.tuple #[X, .bool true]) w := by kernel_rfl
theorem ta_call_msg (X : Value) (w : World) : (Instr.typeAssert (.iface 66 X) 78 63 true).run Tryz.prog w = .ok (.tuple #[zeroMsgV, .bool false]) w := by kernel_rfl
theorem ta_reply_msg (X : Value) (w : World) : (Instr.typeAssert (.iface 73 X) 78 63 true).run Tryz.prog w = .ok (.tuple #[zeroMsgV, .bool false]) w := by kernel_rfl
theorem ta_call_call (X : Value) (w : World) : (Instr.typeAssert (.iface 66 X) 78 66 true).run Tryz.prog w = .ok (.tuple #[X, .bool true]) w := by kernel_rfl
theorem ta_reply_call (X : Value) (w : World) : (Instr.typeAssert (.iface 73 X) 78 66 true).run Tryz.prog w = .ok (.tuple #[zeroCmdV, .bool false]) w := by kernel_rfl
theorem ta_reply_reply (X : Value) (w : World) : (Instr.typeAssert (.iface 73 X) 78 73 true).run Tryz.prog w = .ok (.tuple #[X, .bool true]) w := by kernel_rfl

theorem infoAns : (Tryz.prog.info? 75).map (·.size) = some 24 := by kernel_rfl

set_option maxHeartbeats 4000000 in
set_option maxRecDepth 100000 in
theorem answerOf_err (i : Nat) (f : Int) (w : World) (A : Nat → Addr) (B : Nat) (hs : Sents w A B) (h1 : 1 ≤ i) (h6 : i ≤ 6) :
    Calls Tryz.prog 38 #[.nilIface, refV (A i) f] w fun e w' =>
      e = .returned (.agg #[.int .i64 i, .int .i64 f, .int .i64 0, .int .i64 0, .int .i64 0, .int .i64 0, .int .i64 0, .int .i64 0, .int .i64 0, .int .i64 0, .int .i64 0, .slice none 0 0, .int .i64 0, .int .i64 0, .int .i64 0, .string ⟨#[]⟩, .string ⟨#[]⟩, .string ⟨#[]⟩, .int .i64 0, .int .i64 0, .int .i64 0, .int .i64 0, .string ⟨#[]⟩, .int .i64 0]) ∧ Below w.heap.size w w' := by
  have t1 := ta_nil_msg
  have t2 := ta_nil_call
  have t3 := ta_nil_reply
  go_enter Tryz.func38, Tryz.ntmps38
  go_wp2_with (first
    | (go_at_call 60; refine (codeOf_ref i f _ A B (hs.below ((Below.refl _ _).alloc (Nat.le_refl _) _)) h1 h6).mono ?_; rintro e w1 ⟨rfl, hb1⟩; have hB1 : Below w.heap.size w w1 := ((Below.refl _ _).alloc (Nat.le_refl _) _).trans (hb1.mono (by simp)); have hz1 : w.heap.size < w1.heap.size := (by have := hb1.size; simp at this; omega))
    | (go_at_call 61; refine (faultOf_ref i f _ A B (hs.below hB1)).mono ?_; rintro e w2 ⟨rfl, hb⟩; have hz : w.heap.size < w2.heap.size := (by have := hb.size; omega); have hB2 := hB1.trans (hb.mono hB1.size); have hth := there_new (hb1.trans (hb.mono hb1.size)) hz (.cells #[.int .i64 i, .int .i64 f, .int .i64 0, .int .i64 0, .int .i64 0, .int .i64 0, .int .i64 0, .int .i64 0, .int .i64 0, .int .i64 0, .int .i64 0, .slice none 0 0, .int .i64 0, .int .i64 0, .int .i64 0, .string ⟨#[]⟩, .string ⟨#[]⟩, .string ⟨#[]⟩, .int .i64 0, .int .i64 0, .int .i64 0, .int .i64 0, .string ⟨#[]⟩, .int .i64 0] 75))
    | (refine wpl_store_new rfl 75 (.tmp 5) (.tmp 13) rfl #[.int .i64 0, .int .i64 0, .int .i64 0, .int .i64 0, .int .i64 0, .int .i64 0, .int .i64 0, .int .i64 0, .int .i64 0, .int .i64 0, .int .i64 0, .slice none 0 0, .int .i64 0, .int .i64 0, .int .i64 0, .string ⟨#[]⟩, .string ⟨#[]⟩, .string ⟨#[]⟩, .int .i64 0, .int .i64 0, .int .i64 0, .int .i64 0, .string ⟨#[]⟩, .int .i64 0] #[.int .i64 i, .int .i64 f, .int .i64 0, .int .i64 0, .int .i64 0, .int .i64 0, .int .i64 0, .int .i64 0, .int .i64 0, .int .i64 0, .int .i64 0, .slice none 0 0, .int .i64 0, .int .i64 0, .int .i64 0, .string ⟨#[]⟩, .string ⟨#[]⟩, .string ⟨#[]⟩, .int .i64 0, .int .i64 0, .int .i64 0, .int .i64 0, .string ⟨#[]⟩, .int .i64 0] rfl rfl infoAns rfl (by simp [Value.oneCell']) ?_)
    | (refine wpList_load_mid rfl 75 (.tmp 5) rfl w2.heap.size 0 rfl [.int .i64 i, .int .i64 f, .int .i64 0, .int .i64 0, .int .i64 0, .int .i64 0, .int .i64 0, .int .i64 0, .int .i64 0, .int .i64 0, .int .i64 0, .slice none 0 0, .int .i64 0, .int .i64 0, .int .i64 0, .string ⟨#[]⟩, .string ⟨#[]⟩, .string ⟨#[]⟩, .int .i64 0, .int .i64 0, .int .i64 0, .int .i64 0, .string ⟨#[]⟩, .int .i64 0] _ (range_new w2 [.int .i64 i, .int .i64 f, .int .i64 0, .int .i64 0, .int .i64 0, .int .i64 0, .int .i64 0, .int .i64 0, .int .i64 0, .int .i64 0, .int .i64 0, .slice none 0 0, .int .i64 0, .int .i64 0, .int .i64 0, .string ⟨#[]⟩, .string ⟨#[]⟩, .string ⟨#[]⟩, .int .i64 0, .int .i64 0, .int .i64 0, .int .i64 0, .string ⟨#[]⟩, .int .i64 0] 75) Tryz.underlying75 rfl infoAns ?_)
    | (refine wpList_store_mid rfl 75 (.tmp 4) (.tmp 30) rfl w.heap.size 0 #[.int .i64 i, .int .i64 f, .int .i64 0, .int .i64 0, .int .i64 0, .int .i64 0, .int .i64 0, .int .i64 0, .int .i64 0, .int .i64 0, .int .i64 0, .slice none 0 0, .int .i64 0, .int .i64 0, .int .i64 0, .string ⟨#[]⟩, .string ⟨#[]⟩, .string ⟨#[]⟩, .int .i64 0, .int .i64 0, .int .i64 0, .int .i64 0, .string ⟨#[]⟩, .int .i64 0] rfl rfl hth infoAns (by simp [Value.oneCell']) ?_; have hra := World.rangeAt_setCells_same _ w.heap.size 0 ([.int .i64 i, .int .i64 f, .int .i64 0, .int .i64 0, .int .i64 0, .int .i64 0, .int .i64 0, .int .i64 0, .int .i64 0, .int .i64 0, .int .i64 0, .slice none 0 0, .int .i64 0, .int .i64 0, .int .i64 0, .string ⟨#[]⟩, .string ⟨#[]⟩, .string ⟨#[]⟩, .int .i64 0, .int .i64 0, .int .i64 0, .int .i64 0, .string ⟨#[]⟩, .int .i64 0] : List Value) hth; have hld := run_loadVar_mid (P := Tryz.prog) _ w.heap.size 0 75 _ _ hra Tryz.underlying75 rfl infoAns; have hB4 := below_setCells (Nat.le_refl _) ([.int .i64 i, .int .i64 f, .int .i64 0, .int .i64 0, .int .i64 0, .int .i64 0, .int .i64 0, .int .i64 0, .int .i64 0, .int .i64 0, .int .i64 0, .slice none 0 0, .int .i64 0, .int .i64 0, .int .i64 0, .string ⟨#[]⟩, .string ⟨#[]⟩, .string ⟨#[]⟩, .int .i64 0, .int .i64 0, .int .i64 0, .int .i64 0, .string ⟨#[]⟩, .int .i64 0] : List Value) 0 _ (hB2.alloc (Nat.le_of_lt hz) (.cells #[.int .i64 i, .int .i64 f, .int .i64 0, .int .i64 0, .int .i64 0, .int .i64 0, .int .i64 0, .int .i64 0, .int .i64 0, .int .i64 0, .int .i64 0, .slice none 0 0, .int .i64 0, .int .i64 0, .int .i64 0, .string ⟨#[]⟩, .string ⟨#[]⟩, .string ⟨#[]⟩, .int .i64 0, .int .i64 0, .int .i64 0, .int .i64 0, .string ⟨#[]⟩, .int .i64 0] 75)); clear hra hth; generalize (World.setCells _ w.heap.size 0 _) = W4 at hld hB4 ⊢))
  refine bodyPost_ret (v := .agg #[.int .i64 i, .int .i64 f, .int .i64 0, .int .i64 0, .int .i64 0, .int .i64 0, .int .i64 0, .int .i64 0, .int .i64 0, .int .i64 0, .int .i64 0, .slice none 0 0, .int .i64 0, .int .i64 0, .int .i64 0, .string ⟨#[]⟩, .string ⟨#[]⟩, .string ⟨#[]⟩, .int .i64 0, .int .i64 0, .int .i64 0, .int .i64 0, .string ⟨#[]⟩, .int .i64 0]) ?_ rfl ⟨rfl, hB4⟩
  exact results_cell Tryz.results38 rfl hld
end Go.Proofs.YtafmjckpbcijoaaGreatDoor

/-
  impl.answerOf at a reply, impl.DecodeReply.
-/
namespace Go.Proofs.YtafmjckpbcijoaaGreatDoor
open Go.RowKit
set_option linter.unusedVariables false
set_option linter.unusedSimpArgs false

theorem infoReply : (Tryz.prog.info? 38).map (·.size) = some 6 := by kernel_rfl
theorem infoReplyBody : (Tryz.prog.info? 73).map (·.size) = some 6 := by kernel_rfl

set_option maxHeartbeats 4000000 in
set_option maxRecDepth 100000 in
theorem answerOf_reply (r : RepR) (w : World) (A : Nat → Addr) (B : Nat) (hs : Sents w A B) :
    Calls Tryz.prog 38 #[.iface 73 (repV r), .nilIface] w fun e w' =>
      e = .returned (.agg #[.int .i64 0, .int .i64 0, .int .i64 0, .int .i64 0, .int .i64 0, .int .i64 0, .int .i64 0, .int .i64 0, .int .i64 0, .int .i64 0, .int .i64 0, .slice none 0 0, .int .i64 0, .int .i64 0, .int .i64 0, .string ⟨#[]⟩, .string ⟨#[]⟩, .string ⟨#[]⟩, .int .i64 (r.cl : Nat), .int .i64 (r.sq : Nat), .int .i64 (r.st : Nat), .int .i64 (r.cd : Nat), .string r.v, .int .i64 (r.ld : Nat)]) ∧ Below w.heap.size w w' := by
  unfold repV
  have t1 := ta_reply_msg
  have t2 := ta_reply_call
  have t3 := ta_reply_reply
  go_enter Tryz.func38, Tryz.ntmps38
  go_wp2_with (first
    | (go_at_call 60; refine (codeOf_nil _ A B (hs.below ((Below.refl _ _).alloc (Nat.le_refl _) _))).mono ?_; rintro e w1 ⟨rfl, rfl⟩)
    | (go_at_call 61; refine (faultOf_nil _).mono ?_; rintro e w2 ⟨rfl, hb⟩; have hz : w.heap.size < w2.heap.size := (by have := hb.size; simp at this; omega); have hB2 : Below w.heap.size w w2 := ((Below.refl _ _).alloc (Nat.le_refl _) _).trans (hb.mono (by simp)); have hth := there_new hb hz (.cells #[.int .i64 0, .int .i64 0, .int .i64 0, .int .i64 0, .int .i64 0, .int .i64 0, .int .i64 0, .int .i64 0, .int .i64 0, .int .i64 0, .int .i64 0, .slice none 0 0, .int .i64 0, .int .i64 0, .int .i64 0, .string ⟨#[]⟩, .string ⟨#[]⟩, .string ⟨#[]⟩, .int .i64 0, .int .i64 0, .int .i64 0, .int .i64 0, .string ⟨#[]⟩, .int .i64 0] 75); have hra := range_new w2 [.int .i64 0, .int .i64 0, .int .i64 0, .int .i64 0, .int .i64 0, .int .i64 0, .int .i64 0, .int .i64 0, .int .i64 0, .int .i64 0, .int .i64 0, .slice none 0 0, .int .i64 0, .int .i64 0, .int .i64 0, .string ⟨#[]⟩, .string ⟨#[]⟩, .string ⟨#[]⟩, .int .i64 0, .int .i64 0, .int .i64 0, .int .i64 0, .string ⟨#[]⟩, .int .i64 0] 75; have htN : (w2.alloc (.cells #[.int .i64 0, .int .i64 0, .int .i64 0, .int .i64 0, .int .i64 0, .int .i64 0, .int .i64 0, .int .i64 0, .int .i64 0, .int .i64 0, .int .i64 0, .slice none 0 0, .int .i64 0, .int .i64 0, .int .i64 0, .string ⟨#[]⟩, .string ⟨#[]⟩, .string ⟨#[]⟩, .int .i64 0, .int .i64 0, .int .i64 0, .int .i64 0, .string ⟨#[]⟩, .int .i64 0] 75)).there w2.heap.size 0 24 := (fun j hj => by rw [Nat.zero_add]; simp [World.cell?_alloc_new, hj]))
    | (refine gate_store 75 (.tmp 5) (.tmp 13) rfl ?_; refine wpl_store_new rfl 75 (.tmp 5) (.tmp 13) rfl #[.int .i64 0, .int .i64 0, .int .i64 0, .int .i64 0, .int .i64 0, .int .i64 0, .int .i64 0, .int .i64 0, .int .i64 0, .int .i64 0, .int .i64 0, .slice none 0 0, .int .i64 0, .int .i64 0, .int .i64 0, .string ⟨#[]⟩, .string ⟨#[]⟩, .string ⟨#[]⟩, .int .i64 0, .int .i64 0, .int .i64 0, .int .i64 0, .string ⟨#[]⟩, .int .i64 0] #[.int .i64 0, .int .i64 0, .int .i64 0, .int .i64 0, .int .i64 0, .int .i64 0, .int .i64 0, .int .i64 0, .int .i64 0, .int .i64 0, .int .i64 0, .slice none 0 0, .int .i64 0, .int .i64 0, .int .i64 0, .string ⟨#[]⟩, .string ⟨#[]⟩, .string ⟨#[]⟩, .int .i64 0, .int .i64 0, .int .i64 0, .int .i64 0, .string ⟨#[]⟩, .int .i64 0] rfl rfl infoAns rfl (by simp [Value.oneCell']) ?_)
    | (refine gate_store 73 (.tmp 8) (.tmp 27) rfl ?_; refine wpl_store_new rfl 73 (.tmp 8) (.tmp 27) rfl #[.int .i64 0, .int .i64 0, .int .i64 0, .int .i64 0, .string ⟨#[]⟩, .int .i64 0] #[.int .i64 (r.cl : Nat), .int .i64 (r.sq : Nat), .int .i64 (r.st : Nat), .int .i64 (r.cd : Nat), .string r.v, .int .i64 (r.ld : Nat)] (show Value.pointer (some ⟨w2.heap.size + 1, 0, none⟩) = _ by simp) rfl infoReplyBody rfl (by simp [Value.oneCell']) ?_)
    | (refine gate_load 73 (.tmp 8) rfl ?_; refine wpList_load_mid rfl 73 (.tmp 8) rfl (w2.heap.size + 1) 0 rfl [.int .i64 (r.cl : Nat), .int .i64 (r.sq : Nat), .int .i64 (r.st : Nat), .int .i64 (r.cd : Nat), .string r.v, .int .i64 (r.ld : Nat)] _ (by have h := range_new (w2.alloc (.cells #[.int .i64 0, .int .i64 0, .int .i64 0, .int .i64 0, .int .i64 0, .int .i64 0, .int .i64 0, .int .i64 0, .int .i64 0, .int .i64 0, .int .i64 0, .slice none 0 0, .int .i64 0, .int .i64 0, .int .i64 0, .string ⟨#[]⟩, .string ⟨#[]⟩, .string ⟨#[]⟩, .int .i64 0, .int .i64 0, .int .i64 0, .int .i64 0, .string ⟨#[]⟩, .int .i64 0] 75)) [.int .i64 (r.cl : Nat), .int .i64 (r.sq : Nat), .int .i64 (r.st : Nat), .int .i64 (r.cd : Nat), .string r.v, .int .i64 (r.ld : Nat)] 73; simpa using h) Tryz.underlying73 rfl infoReplyBody ?_)
    | (refine gate_store 38 (.tmp 29) (.tmp 28) rfl ?_; refine wpList_store_mid rfl 38 (.tmp 29) (.tmp 28) rfl w2.heap.size 18 #[.int .i64 (r.cl : Nat), .int .i64 (r.sq : Nat), .int .i64 (r.st : Nat), .int .i64 (r.cd : Nat), .string r.v, .int .i64 (r.ld : Nat)] rfl rfl (there_part (World.there_alloc htN _) 18 6 (by omega)) infoReply (by simp [Value.oneCell']) ?_; have hsp := range_splice (w := (w2.alloc (.cells #[.int .i64 0, .int .i64 0, .int .i64 0, .int .i64 0, .int .i64 0, .int .i64 0, .int .i64 0, .int .i64 0, .int .i64 0, .int .i64 0, .int .i64 0, .slice none 0 0, .int .i64 0, .int .i64 0, .int .i64 0, .string ⟨#[]⟩, .string ⟨#[]⟩, .string ⟨#[]⟩, .int .i64 0, .int .i64 0, .int .i64 0, .int .i64 0, .string ⟨#[]⟩, .int .i64 0] 75)).alloc (.cells #[.int .i64 (r.cl : Nat), .int .i64 (r.sq : Nat), .int .i64 (r.st : Nat), .int .i64 (r.cd : Nat), .string r.v, .int .i64 (r.ld : Nat)] 73)) (b := w2.heap.size) [.int .i64 0, .int .i64 0, .int .i64 0, .int .i64 0, .int .i64 0, .int .i64 0, .int .i64 0, .int .i64 0, .int .i64 0, .int .i64 0, .int .i64 0, .slice none 0 0, .int .i64 0, .int .i64 0, .int .i64 0, .string ⟨#[]⟩, .string ⟨#[]⟩, .string ⟨#[]⟩] [.int .i64 0, .int .i64 0, .int .i64 0, .int .i64 0, .string ⟨#[]⟩, .int .i64 0] [.int .i64 (r.cl : Nat), .int .i64 (r.sq : Nat), .int .i64 (r.st : Nat), .int .i64 (r.cd : Nat), .string r.v, .int .i64 (r.ld : Nat)] [] (World.rangeAt_alloc hra _) rfl (there_part (World.there_alloc htN _) 18 6 (by omega)); have hth2 := World.there_setCells (World.there_alloc hth (.cells #[.int .i64 (r.cl : Nat), .int .i64 (r.sq : Nat), .int .i64 (r.st : Nat), .int .i64 (r.cd : Nat), .string r.v, .int .i64 (r.ld : Nat)] 73)) w2.heap.size 18 [.int .i64 (r.cl : Nat), .int .i64 (r.sq : Nat), .int .i64 (r.st : Nat), .int .i64 (r.cd : Nat), .string r.v, .int .i64 (r.ld : Nat)]; have hB3 := below_setCells (B := w.heap.size) (Nat.le_of_lt hz) [.int .i64 (r.cl : Nat), .int .i64 (r.sq : Nat), .int .i64 (r.st : Nat), .int .i64 (r.cd : Nat), .string r.v, .int .i64 (r.ld : Nat)] 18 _ ((hB2.alloc (Nat.le_of_lt hz) (.cells #[.int .i64 0, .int .i64 0, .int .i64 0, .int .i64 0, .int .i64 0, .int .i64 0, .int .i64 0, .int .i64 0, .int .i64 0, .int .i64 0, .int .i64 0, .slice none 0 0, .int .i64 0, .int .i64 0, .int .i64 0, .string ⟨#[]⟩, .string ⟨#[]⟩, .string ⟨#[]⟩, .int .i64 0, .int .i64 0, .int .i64 0, .int .i64 0, .string ⟨#[]⟩, .int .i64 0] 75)).alloc (show w.heap.size ≤ _ by simp; omega) (.cells #[.int .i64 (r.cl : Nat), .int .i64 (r.sq : Nat), .int .i64 (r.st : Nat), .int .i64 (r.cd : Nat), .string r.v, .int .i64 (r.ld : Nat)] 73)); clear hth hra htN; generalize (World.setCells _ w2.heap.size 18 _) = W3 at hsp hth2 hB3 ⊢)
    | (refine gate_load 75 (.tmp 5) rfl ?_; refine wpList_load_mid rfl 75 (.tmp 5) rfl w2.heap.size 0 rfl [.int .i64 0, .int .i64 0, .int .i64 0, .int .i64 0, .int .i64 0, .int .i64 0, .int .i64 0, .int .i64 0, .int .i64 0, .int .i64 0, .int .i64 0, .slice none 0 0, .int .i64 0, .int .i64 0, .int .i64 0, .string ⟨#[]⟩, .string ⟨#[]⟩, .string ⟨#[]⟩, .int .i64 (r.cl : Nat), .int .i64 (r.sq : Nat), .int .i64 (r.st : Nat), .int .i64 (r.cd : Nat), .string r.v, .int .i64 (r.ld : Nat)] _ hsp Tryz.underlying75 rfl infoAns ?_)
    | (refine gate_store 75 (.tmp 4) (.tmp 30) rfl ?_; refine wpList_store_mid rfl 75 (.tmp 4) (.tmp 30) rfl w.heap.size 0 #[.int .i64 0, .int .i64 0, .int .i64 0, .int .i64 0, .int .i64 0, .int .i64 0, .int .i64 0, .int .i64 0, .int .i64 0, .int .i64 0, .int .i64 0, .slice none 0 0, .int .i64 0, .int .i64 0, .int .i64 0, .string ⟨#[]⟩, .string ⟨#[]⟩, .string ⟨#[]⟩, .int .i64 (r.cl : Nat), .int .i64 (r.sq : Nat), .int .i64 (r.st : Nat), .int .i64 (r.cd : Nat), .string r.v, .int .i64 (r.ld : Nat)] rfl rfl hth2 infoAns (by simp [Value.oneCell']) ?_; have hra4 := World.rangeAt_setCells_same _ w.heap.size 0 [.int .i64 0, .int .i64 0, .int .i64 0, .int .i64 0, .int .i64 0, .int .i64 0, .int .i64 0, .int .i64 0, .int .i64 0, .int .i64 0, .int .i64 0, .slice none 0 0, .int .i64 0, .int .i64 0, .int .i64 0, .string ⟨#[]⟩, .string ⟨#[]⟩, .string ⟨#[]⟩, .int .i64 (r.cl : Nat), .int .i64 (r.sq : Nat), .int .i64 (r.st : Nat), .int .i64 (r.cd : Nat), .string r.v, .int .i64 (r.ld : Nat)] hth2; have hld := run_loadVar_mid (P := Tryz.prog) _ w.heap.size 0 75 _ _ hra4 Tryz.underlying75 rfl infoAns; have hB4 := below_setCells (Nat.le_refl _) [.int .i64 0, .int .i64 0, .int .i64 0, .int .i64 0, .int .i64 0, .int .i64 0, .int .i64 0, .int .i64 0, .int .i64 0, .int .i64 0, .int .i64 0, .slice none 0 0, .int .i64 0, .int .i64 0, .int .i64 0, .string ⟨#[]⟩, .string ⟨#[]⟩, .string ⟨#[]⟩, .int .i64 (r.cl : Nat), .int .i64 (r.sq : Nat), .int .i64 (r.st : Nat), .int .i64 (r.cd : Nat), .string r.v, .int .i64 (r.ld : Nat)] 0 _ hB3; clear hra4 hth2 hsp; generalize (World.setCells _ w.heap.size 0 _) = W4 at hld hB4 ⊢))
  refine bodyPost_ret (v := .agg #[.int .i64 0, .int .i64 0, .int .i64 0, .int .i64 0, .int .i64 0, .int .i64 0, .int .i64 0, .int .i64 0, .int .i64 0, .int .i64 0, .int .i64 0, .slice none 0 0, .int .i64 0, .int .i64 0, .int .i64 0, .string ⟨#[]⟩, .string ⟨#[]⟩, .string ⟨#[]⟩, .int .i64 (r.cl : Nat), .int .i64 (r.sq : Nat), .int .i64 (r.st : Nat), .int .i64 (r.cd : Nat), .string r.v, .int .i64 (r.ld : Nat)]) ?_ rfl ⟨rfl, hB4⟩
  exact results_cell Tryz.results38 rfl hld
end Go.Proofs.YtafmjckpbcijoaaGreatDoor

/-
  impl.DecodeReply.
-/
namespace Go.Proofs.YtafmjckpbcijoaaGreatDoor
open Go.RowKit
set_option linter.unusedVariables false
set_option linter.unusedSimpArgs false

theorem readBody_reply (b : Nat) (w : World) (A : Nat → Addr) (B D : Nat) (st : RSt) (hs : Sents w A B) (h : Rd w b A B D st) :
    Calls Tryz.prog 63 #[.int .i64 8, .pointer (some ⟨b, 0, none⟩)] w fun e w' => e = .returned (.iface 73 (repV (rdReply st))) ∧ Rd w' b A B D (rdReply st).left ∧ w.grownBy w' (some b) := by
  go_enter Tryz.func63, Tryz.ntmps63
  go_wp2_with (go_at_call 80; refine (reply_any b w A B D st hs h).mono ?_; rintro e w1 ⟨rfl, hr, hg⟩)
  go_ret
  exact ⟨rfl, hr, hg⟩

/-- code and fault of a reply's frame -/
def repC (l : List Int) : Nat × Int :=
  decC l 8 8 (rdReply (some (l.drop 9))).left (repF (rdReply (some (l.drop 9))).cl (rdReply (some (l.drop 9))).sq (rdReply (some (l.drop 9))).st (rdReply (some (l.drop 9))).cd (rdReply (some (l.drop 9))).v.size (rdReply (some (l.drop 9))).ld)
/-- what DecodeReply answers -/
def repAns (c : Nat × Int) (r : RepR) : Value :=
  if c.1 = 0 then .agg #[.int .i64 0, .int .i64 0, .int .i64 (r.cl : Nat), .int .i64 (r.sq : Nat), .int .i64 (r.st : Nat), .int .i64 (r.cd : Nat), .string r.v, .int .i64 (r.ld : Nat)] else .agg #[.int .i64 (c.1 : Nat), .int .i64 c.2, .int .i64 0, .int .i64 0, .int .i64 0, .int .i64 0, .string ⟨#[]⟩, .int .i64 0]

theorem infoRAns : (Tryz.prog.info? 50).map (·.size) = some 8 := by kernel_rfl

theorem decodeReply_body (a : Option Addr) (len c : Nat) (l : List Int) (w : World) (A : Nat → Addr) (B : Nat) (hs : Sents w A B) (hv : Bs w (.slice a len c) l) (hc : len ≤ c) :
    Calls Tryz.prog 39 #[.slice a len c, .int .i64 8, .int .i64 8] w fun e w' =>
      e = .returned (if (repC l).1 = 0 then .tuple #[.iface 73 (repV (rdReply (some (l.drop 9)))), .nilIface] else .tuple #[.nilIface, refV (A (repC l).1) (repC l).2]) ∧ Below w.heap.size w w' := by
  refine (decodeBody_reply a len c l 8 8 w A B hs hv hc (rdReply (some (l.drop 9))).left (repF (rdReply (some (l.drop 9))).cl (rdReply (some (l.drop 9))).sq (rdReply (some (l.drop 9))).st (rdReply (some (l.drop 9))).cd (rdReply (some (l.drop 9))).v.size (rdReply (some (l.drop 9))).ld)
    (fun _ _ X => X = repV (rdReply (some (l.drop 9)))) (fun _ _ _ _ h _ => h) ?_ ?_).mono ?_
  · intro b w D hs hr hin
    have e8 : l[8]?.getD 0 = 8 := by have := (inB_iff _ _ _).1 hin; omega
    rw [e8]
    exact (readBody_reply b w A B D _ hs hr).mono fun e w' ⟨h1, h2, h3⟩ => ⟨_, h1, rfl, h2, h3⟩
  · rintro b w X rfl
    exact replyBody_fault_any _ _ _ _ _ _ (Nat.le_trans (rdReply_v _) (by decide)) w
  · rintro e w' ⟨h0, h1, hb⟩
    refine ⟨?_, hb⟩
    by_cases h : (repC l).1 = 0
    · obtain ⟨_, X, _, rfl, rfl⟩ := h0 h
      rw [if_pos h]
    · rw [if_neg h]
      exact h1 h

set_option maxHeartbeats 4000000 in
set_option maxRecDepth 100000 in
theorem implDecReply_any (a : Option Addr) (len c : Nat) (l : List Int) (w : World) (A : Nat → Addr) (B : Nat) (hs : Sents w A B) (hv : Bs w (.slice a len c) l) (hc : len ≤ c) :
    Calls Tryz.prog 19 #[.slice a len c] w fun e w' => e = .returned (repAns (repC l) (rdReply (some (l.drop 9)))) ∧ Below w.heap.size w w' := by
  have HD : Hid (∀ w', Below w.heap.size w w' → Calls Tryz.prog 39 #[.slice a len c, .int .i64 8, .int .i64 8] w' fun e w'' =>
      e = .returned (if (repC l).1 = 0 then .tuple #[.iface 73 (repV (rdReply (some (l.drop 9)))), .nilIface] else .tuple #[.nilIface, refV (A (repC l).1) (repC l).2]) ∧ Below w'.heap.size w' w'') :=
    fun w' hb => decodeReply_body a len c l w' A B (hs.below hb) (hv.below hb) hc
  have h6 := decC_le l 8 8 (rdReply (some (l.drop 9))).left (repF (rdReply (some (l.drop 9))).cl (rdReply (some (l.drop 9))).sq (rdReply (some (l.drop 9))).st (rdReply (some (l.drop 9))).cd (rdReply (some (l.drop 9))).v.size (rdReply (some (l.drop 9))).ld)
  change (repC l).1 ≤ 6 at h6
  clear hv
  unfold repAns
  generalize rdReply (some (l.drop 9)) = r at *
  generalize repC l = C at *
  by_cases h0 : C.1 = 0
  · rw [if_pos h0] at HD ⊢
    go_enter Tryz.func19, Tryz.ntmps19
    go_wp2_with (first
      | (go_at_call 39; refine (HD.out _ (Below.alloc (Below.refl _ _) (Nat.le_refl _) _)).mono ?_; rintro e w1 ⟨rfl, hb1⟩; have hB1 : Below w.heap.size w w1 := ((Below.refl _ _).alloc (Nat.le_refl _) _).trans (hb1.mono (by simp)); have hz1 : w.heap.size < w1.heap.size := (by have := hb1.size; simp at this; omega))
      | (go_at_call 38; refine (answerOf_reply r _ A B (hs.below hB1)).mono ?_; rintro e w2 ⟨rfl, hb2⟩; have hz2 : w.heap.size < w2.heap.size := Nat.lt_of_lt_of_le hz1 hb2.size; have hB2 := hB1.trans (hb2.mono (Nat.le_of_lt hz1)); have hth := there_new (hb1.trans (hb2.mono hb1.size)) hz2 (.cells #[.int .i64 0, .int .i64 0, .int .i64 0, .int .i64 0, .int .i64 0, .int .i64 0, .int .i64 0, .int .i64 0, .int .i64 0, .int .i64 0, .int .i64 0, .slice none 0 0, .int .i64 0, .int .i64 0, .int .i64 0, .string ⟨#[]⟩, .string ⟨#[]⟩, .string ⟨#[]⟩, .int .i64 (r.cl : Nat), .int .i64 (r.sq : Nat), .int .i64 (r.st : Nat), .int .i64 (r.cd : Nat), .string r.v, .int .i64 (r.ld : Nat)] 75); have hra := range_new w2 [.int .i64 0, .int .i64 0, .int .i64 0, .int .i64 0, .int .i64 0, .int .i64 0, .int .i64 0, .int .i64 0, .int .i64 0, .int .i64 0, .int .i64 0, .slice none 0 0, .int .i64 0, .int .i64 0, .int .i64 0, .string ⟨#[]⟩, .string ⟨#[]⟩, .string ⟨#[]⟩, .int .i64 (r.cl : Nat), .int .i64 (r.sq : Nat), .int .i64 (r.st : Nat), .int .i64 (r.cd : Nat), .string r.v, .int .i64 (r.ld : Nat)] 75)
      | (refine gate_store 75 (.tmp 3) (.tmp 8) rfl ?_; refine wpl_store_new rfl 75 (.tmp 3) (.tmp 8) rfl #[.int .i64 0, .int .i64 0, .int .i64 0, .int .i64 0, .int .i64 0, .int .i64 0, .int .i64 0, .int .i64 0, .int .i64 0, .int .i64 0, .int .i64 0, .slice none 0 0, .int .i64 0, .int .i64 0, .int .i64 0, .string ⟨#[]⟩, .string ⟨#[]⟩, .string ⟨#[]⟩, .int .i64 0, .int .i64 0, .int .i64 0, .int .i64 0, .string ⟨#[]⟩, .int .i64 0] #[.int .i64 0, .int .i64 0, .int .i64 0, .int .i64 0, .int .i64 0, .int .i64 0, .int .i64 0, .int .i64 0, .int .i64 0, .int .i64 0, .int .i64 0, .slice none 0 0, .int .i64 0, .int .i64 0, .int .i64 0, .string ⟨#[]⟩, .string ⟨#[]⟩, .string ⟨#[]⟩, .int .i64 (r.cl : Nat), .int .i64 (r.sq : Nat), .int .i64 (r.st : Nat), .int .i64 (r.cd : Nat), .string r.v, .int .i64 (r.ld : Nat)] rfl rfl infoAns rfl (by simp [Value.oneCell']) ?_)
      | (refine gate_load 38 (.tmp 13) rfl ?_; refine wpList_load_mid rfl 38 (.tmp 13) rfl w2.heap.size 18 rfl [.int .i64 (r.cl : Nat), .int .i64 (r.sq : Nat), .int .i64 (r.st : Nat), .int .i64 (r.cd : Nat), .string r.v, .int .i64 (r.ld : Nat)] _ ((range_app (xs := [.int .i64 0, .int .i64 0, .int .i64 0, .int .i64 0, .int .i64 0, .int .i64 0, .int .i64 0, .int .i64 0, .int .i64 0, .int .i64 0, .int .i64 0, .slice none 0 0, .int .i64 0, .int .i64 0, .int .i64 0, .string ⟨#[]⟩, .string ⟨#[]⟩, .string ⟨#[]⟩]) (ys := [.int .i64 (r.cl : Nat), .int .i64 (r.sq : Nat), .int .i64 (r.st : Nat), .int .i64 (r.cd : Nat), .string r.v, .int .i64 (r.ld : Nat)])).1 hra).2 Tryz.underlying38 rfl infoReply ?_)
      | (refine gate_store 50 (.tmp 2) (.tmp 15) rfl ?_; refine wpList_store_mid rfl 50 (.tmp 2) (.tmp 15) rfl w.heap.size 0 #[.int .i64 0, .int .i64 0, .int .i64 (r.cl : Nat), .int .i64 (r.sq : Nat), .int .i64 (r.st : Nat), .int .i64 (r.cd : Nat), .string r.v, .int .i64 (r.ld : Nat)] rfl rfl hth infoRAns (by simp [Value.oneCell']) ?_; have hra4 := World.rangeAt_setCells_same _ w.heap.size 0 [.int .i64 0, .int .i64 0, .int .i64 (r.cl : Nat), .int .i64 (r.sq : Nat), .int .i64 (r.st : Nat), .int .i64 (r.cd : Nat), .string r.v, .int .i64 (r.ld : Nat)] hth; have hld := run_loadVar_mid (P := Tryz.prog) _ w.heap.size 0 50 _ _ hra4 Tryz.underlying50 rfl infoRAns; have hB4 := below_setCells (Nat.le_refl _) [.int .i64 0, .int .i64 0, .int .i64 (r.cl : Nat), .int .i64 (r.sq : Nat), .int .i64 (r.st : Nat), .int .i64 (r.cd : Nat), .string r.v, .int .i64 (r.ld : Nat)] 0 _ (hB2.alloc (Nat.le_of_lt hz2) (.cells #[.int .i64 0, .int .i64 0, .int .i64 0, .int .i64 0, .int .i64 0, .int .i64 0, .int .i64 0, .int .i64 0, .int .i64 0, .int .i64 0, .int .i64 0, .slice none 0 0, .int .i64 0, .int .i64 0, .int .i64 0, .string ⟨#[]⟩, .string ⟨#[]⟩, .string ⟨#[]⟩, .int .i64 (r.cl : Nat), .int .i64 (r.sq : Nat), .int .i64 (r.st : Nat), .int .i64 (r.cd : Nat), .string r.v, .int .i64 (r.ld : Nat)] 75)); clear hra4 hth hra; generalize (World.setCells _ w.heap.size 0 _) = W4 at hld hB4 ⊢))
    refine bodyPost_ret (v := .agg #[.int .i64 0, .int .i64 0, .int .i64 (r.cl : Nat), .int .i64 (r.sq : Nat), .int .i64 (r.st : Nat), .int .i64 (r.cd : Nat), .string r.v, .int .i64 (r.ld : Nat)]) ?_ rfl ⟨rfl, hB4⟩
    exact results_cell Tryz.results19 rfl hld
  · rw [if_neg h0] at HD ⊢
    obtain ⟨ci, cf⟩ := C
    simp only at HD h6 h0 ⊢
    go_enter Tryz.func19, Tryz.ntmps19
    go_wp2_with (first
      | (go_at_call 39; refine (HD.out _ (Below.alloc (Below.refl _ _) (Nat.le_refl _) _)).mono ?_; rintro e w1 ⟨rfl, hb1⟩; have hB1 : Below w.heap.size w w1 := ((Below.refl _ _).alloc (Nat.le_refl _) _).trans (hb1.mono (by simp)); have hz1 : w.heap.size < w1.heap.size := (by have := hb1.size; simp at this; omega))
      | (go_at_call 38; refine (answerOf_err ci cf _ A B (hs.below hB1) (by omega) h6).mono ?_; rintro e w2 ⟨rfl, hb2⟩; have hz2 : w.heap.size < w2.heap.size := Nat.lt_of_lt_of_le hz1 hb2.size; have hB2 := hB1.trans (hb2.mono (Nat.le_of_lt hz1)); have hth := there_new (hb1.trans (hb2.mono hb1.size)) hz2 (.cells #[.int .i64 (ci : Nat), .int .i64 cf, .int .i64 0, .int .i64 0, .int .i64 0, .int .i64 0, .int .i64 0, .int .i64 0, .int .i64 0, .int .i64 0, .int .i64 0, .slice none 0 0, .int .i64 0, .int .i64 0, .int .i64 0, .string ⟨#[]⟩, .string ⟨#[]⟩, .string ⟨#[]⟩, .int .i64 0, .int .i64 0, .int .i64 0, .int .i64 0, .string ⟨#[]⟩, .int .i64 0] 75); have hra := range_new w2 [.int .i64 (ci : Nat), .int .i64 cf, .int .i64 0, .int .i64 0, .int .i64 0, .int .i64 0, .int .i64 0, .int .i64 0, .int .i64 0, .int .i64 0, .int .i64 0, .slice none 0 0, .int .i64 0, .int .i64 0, .int .i64 0, .string ⟨#[]⟩, .string ⟨#[]⟩, .string ⟨#[]⟩, .int .i64 0, .int .i64 0, .int .i64 0, .int .i64 0, .string ⟨#[]⟩, .int .i64 0] 75)
      | (refine gate_store 75 (.tmp 3) (.tmp 8) rfl ?_; refine wpl_store_new rfl 75 (.tmp 3) (.tmp 8) rfl #[.int .i64 0, .int .i64 0, .int .i64 0, .int .i64 0, .int .i64 0, .int .i64 0, .int .i64 0, .int .i64 0, .int .i64 0, .int .i64 0, .int .i64 0, .slice none 0 0, .int .i64 0, .int .i64 0, .int .i64 0, .string ⟨#[]⟩, .string ⟨#[]⟩, .string ⟨#[]⟩, .int .i64 0, .int .i64 0, .int .i64 0, .int .i64 0, .string ⟨#[]⟩, .int .i64 0] #[.int .i64 (ci : Nat), .int .i64 cf, .int .i64 0, .int .i64 0, .int .i64 0, .int .i64 0, .int .i64 0, .int .i64 0, .int .i64 0, .int .i64 0, .int .i64 0, .slice none 0 0, .int .i64 0, .int .i64 0, .int .i64 0, .string ⟨#[]⟩, .string ⟨#[]⟩, .string ⟨#[]⟩, .int .i64 0, .int .i64 0, .int .i64 0, .int .i64 0, .string ⟨#[]⟩, .int .i64 0] rfl rfl infoAns rfl (by simp [Value.oneCell']) ?_)
      | (refine gate_load 38 (.tmp 13) rfl ?_; refine wpList_load_mid rfl 38 (.tmp 13) rfl w2.heap.size 18 rfl [.int .i64 0, .int .i64 0, .int .i64 0, .int .i64 0, .string ⟨#[]⟩, .int .i64 0] _ ((range_app (xs := [.int .i64 (ci : Nat), .int .i64 cf, .int .i64 0, .int .i64 0, .int .i64 0, .int .i64 0, .int .i64 0, .int .i64 0, .int .i64 0, .int .i64 0, .int .i64 0, .slice none 0 0, .int .i64 0, .int .i64 0, .int .i64 0, .string ⟨#[]⟩, .string ⟨#[]⟩, .string ⟨#[]⟩]) (ys := [.int .i64 0, .int .i64 0, .int .i64 0, .int .i64 0, .string ⟨#[]⟩, .int .i64 0])).1 hra).2 Tryz.underlying38 rfl infoReply ?_)
      | (refine gate_store 50 (.tmp 2) (.tmp 15) rfl ?_; refine wpList_store_mid rfl 50 (.tmp 2) (.tmp 15) rfl w.heap.size 0 #[.int .i64 (ci : Nat), .int .i64 cf, .int .i64 0, .int .i64 0, .int .i64 0, .int .i64 0, .string ⟨#[]⟩, .int .i64 0] rfl rfl hth infoRAns (by simp [Value.oneCell']) ?_; have hra4 := World.rangeAt_setCells_same _ w.heap.size 0 [.int .i64 (ci : Nat), .int .i64 cf, .int .i64 0, .int .i64 0, .int .i64 0, .int .i64 0, .string ⟨#[]⟩, .int .i64 0] hth; have hld := run_loadVar_mid (P := Tryz.prog) _ w.heap.size 0 50 _ _ hra4 Tryz.underlying50 rfl infoRAns; have hB4 := below_setCells (Nat.le_refl _) [.int .i64 (ci : Nat), .int .i64 cf, .int .i64 0, .int .i64 0, .int .i64 0, .int .i64 0, .string ⟨#[]⟩, .int .i64 0] 0 _ (hB2.alloc (Nat.le_of_lt hz2) (.cells #[.int .i64 (ci : Nat), .int .i64 cf, .int .i64 0, .int .i64 0, .int .i64 0, .int .i64 0, .int .i64 0, .int .i64 0, .int .i64 0, .int .i64 0, .int .i64 0, .slice none 0 0, .int .i64 0, .int .i64 0, .int .i64 0, .string ⟨#[]⟩, .string ⟨#[]⟩, .string ⟨#[]⟩, .int .i64 0, .int .i64 0, .int .i64 0, .int .i64 0, .string ⟨#[]⟩, .int .i64 0] 75)); clear hra4 hth hra; generalize (World.setCells _ w.heap.size 0 _) = W4 at hld hB4 ⊢))
    refine bodyPost_ret (v := .agg #[.int .i64 (ci : Nat), .int .i64 cf, .int .i64 0, .int .i64 0, .int .i64 0, .int .i64 0, .string ⟨#[]⟩, .int .i64 0]) ?_ rfl ⟨rfl, hB4⟩
    exact results_cell Tryz.results19 rfl hld
end Go.Proofs.YtafmjckpbcijoaaGreatDoor

/-
  impl.decodeBody at a body of one kind.
-/
namespace Go.Proofs.YtafmjckpbcijoaaGreatDoor
open Go.RowKit
set_option linter.unusedVariables false
set_option linter.unusedSimpArgs false

theorem methF_call (X : Value) (w : World) : (method 300 66 X "loop.example/s01586/impl.fault").run Tryz.prog w = .ok (130, X) w := by kernel_rfl

set_option maxHeartbeats 4000000 in
set_option maxRecDepth 100000 in
theorem decodeBody_call (a : Option Addr) (len c : Nat) (l : List Int) (lo hi : Int) (w : World) (A : Nat → Addr) (B : Nat) (hs : Sents w A B) (hv : Bs w (.slice a len c) l) (hc : len ≤ c)
    (left : RSt) (f : Int) (P : Nat → World → Value → Prop)
    (hP : ∀ b w w' X, P b w X → w.grownBy w' (some b) → P b w' X)
    (hRead : ∀ b w D, Sents w A B → Rd w b A B D (some (l.drop 9)) → inB (l[8]?.getD 0) lo hi = true → Calls Tryz.prog 63 #[.int .i64 (l[8]?.getD 0), .pointer (some ⟨b, 0, none⟩)] w fun e w' => ∃ X, e = .returned (.iface 66 X) ∧ P b w' X ∧ Rd w' b A B D left ∧ w.grownBy w' (some b))
    (hFault : ∀ b w X, P b w X → Calls Tryz.prog 130 #[X] w fun e w' => e = .returned (.int .i64 f) ∧ Below w.heap.size w w') :
    Calls Tryz.prog 39 #[.slice a len c, .int .i64 lo, .int .i64 hi] w fun e w' =>
      ((decC l lo hi left f).1 = 0 → ∃ b X, w.heap.size ≤ b ∧ P b w' X ∧ e = .returned (.tuple #[.iface 66 X, .nilIface])) ∧
      ((decC l lo hi left f).1 ≠ 0 → e = .returned (.tuple #[.nilIface, refV (A (decC l lo hi left f).1) (decC l lo hi left f).2])) ∧ Below w.heap.size w w' := by
  have HO : Hid _ := openFrame_any a len c l w A B hs hv hc w.heap.size hv.lt
  have hd := fun h => (hv.drop hc hv.lt 8 h)
  have HR : ∀ b w D, Sents w A B → Rd w b A B D (some (l.drop 9)) → inB (l[8]?.getD 0) lo hi = true → Hid (Calls Tryz.prog 63 #[.int .i64 (l[8]?.getD 0), .pointer (some ⟨b, 0, none⟩)] w fun e w' => ∃ X, e = .returned (.iface 66 X) ∧ P b w' X ∧ Rd w' b A B D left ∧ w.grownBy w' (some b)) := hRead
  have HF : ∀ b w X, P b w X → Hid (Calls Tryz.prog 130 #[X] w fun e w' => e = .returned (.int .i64 f) ∧ Below w.heap.size w w') := hFault
  clear hRead hFault
  have el : len = l.length := by obtain ⟨_, _, _, _, e, _⟩ := hv; injection e
  subst el
  by_cases h1 : sumC l = 0
  · have hlen := sumC_len h1
    rw [if_pos h1] at HO
    obtain ⟨d1, a2, n2, c2, e2, hc2, _⟩ := hd (by omega)
    rw [e2] at d1 HO
    have HV : Hid (Bs w (.slice a2 n2 c2) (l.drop 8)) := d1
    have en : n2 = l.length - 8 := by
      obtain ⟨_, _, _, _, e, _⟩ := d1
      injection e with _ e _
      rw [e, List.length_drop]
    obtain ⟨hm, h8, a', c', e, hcell⟩ := d1
    injection e with e1' e2' e3'
    subst e1' e3'
    obtain ⟨b2, o2, rfl, hj⟩ := hcell 0 (by rw [List.length_drop]; omega)
    have k0 := hj 0 (by rw [List.length_drop]; omega)
    have hk8 : (l.drop 8)[0]?.getD 0 = l[8]?.getD 0 := by simp
    rw [hk8, Nat.add_zero] at k0
    have hkb := byte_at h8 0
    rw [hk8] at hkb
    clear hj hcell hd e2
    have hop : openC l lo hi = if inB (l[8]?.getD 0) lo hi = false then 4 else 0 := by simp [openC, h1]
    have HD : Hid (decC l lo hi left f = if openC l lo hi ≠ 0 then (openC l lo hi, 0) else if left ≠ some [] then (5, 0) else if f ≠ 0 then (6, f) else (0, 0)) := rfl
    generalize decC l lo hi left f = R at HD
    generalize l[8]?.getD 0 = K at *
    by_cases h4 : inB K lo hi = true
    · have hn1 : 1 ≤ n2 := by rw [en]; omega
      have hd9 := HV.out.drop hc2 HV.out.lt 1 (by rw [List.length_drop]; omega)
      rw [List.drop_drop] at hd9
      obtain ⟨a3, n3, c3, e3, hc3, hD3⟩ := hd9.2
      have t1 : ∀ wx, (Instr.slice 22 (.slice (some ⟨b2, o2, none⟩) n2 c2) (some (.int .i64 1)) none none).run Tryz.prog wx = .ok (sliced (some ⟨b2, o2, none⟩) 1 n2 c2 1) wx := slice_l _ n2 c2 1 hn1
      rw [e3] at t1 hd9
      have HB9 : Hid (Bs w (.slice a3 n3 c3) (l.drop 9)) := hd9.1
      clear e3 hd9
      have HRd : ∀ w1, Below w.heap.size w w1 → Sents (w1.alloc (.cells #[.slice a3 n3 c3, .nilIface] 105)) A B ∧ Rd (w1.alloc (.cells #[.slice a3 n3 c3, .nilIface] 105)) w1.heap.size A B (w1.heap.size + 1) (some (l.drop 9)) := fun w1 hb => by
        have hs1 := hs.below hb
        refine ⟨hs1.below ((Below.refl _ _).alloc (Nat.le_refl _) _), hs1.le, by omega, by simp, by simp, ⟨.slice a3 n3 c3, by simp, (HB9.out.below hb).below ((Below.refl _ _).alloc (Nat.le_refl _) _), ⟨_, _, _, rfl, hc3, fun hp => ?_⟩⟩, by simp⟩
        obtain ⟨x, rfl, hx⟩ := hD3 hp
        exact ⟨x, rfl, by have := hb.size; omega⟩
      clear en e2'
      have hop0 : openC l lo hi = 0 := by rw [hop, h4]; rfl
      rw [hop0] at HD
      have HE : ∀ b w D, Sents w A B → Rd w b A B D left → Hid (Calls Tryz.prog 64 #[.pointer (some ⟨b, 0, none⟩)] w fun e w' => e = .returned (endV A left) ∧ w.grownBy w' (some b)) := fun b w D hs h => end_any b w A B D left hs h
      by_cases hl : left = some []
      · have hev : endV A left = .nilIface := by rw [endV, if_pos hl]
        rw [hev] at HE
        by_cases hf : f = 0
        · have hR : R = (0, 0) := by rw [HD.out]; simp [hl, hf]
          subst hR
          subst hf
          have hM := methF_call
          go_enter Tryz.func39, Tryz.ntmps39
          go_wp2_with (first
            | (go_at_call 62; refine Calls.mono HO.out ?_; rintro e w1 ⟨rfl, hb⟩; have k1 := (hb.cell (p := ⟨b2, o2, none⟩) (cell_lt k0)).trans k0)
            | (go_at_call 52; refine (within_any _ _ _ _).mono ?_; rw [h4]; rintro e w2 ⟨rfl, rfl⟩)
            | (go_at_call 63; refine Calls.mono (HR _ _ _ (HRd _ hb).1 (HRd _ hb).2 h4).out ?_; rintro e w3 ⟨X, rfl, hX, hrd, hg⟩; have hB3 : Below w.heap.size w w3 := (hb.trans ((Below.refl _ _).alloc hb.size _)).trans (grown_below hg hb.size (by have := hb.size; simp; omega)); have hs3 := hs.below hB3)
            | (go_at_call 64; refine Calls.mono (HE _ _ _ hs3 hrd).out ?_; rintro e w4 ⟨rfl, hg4⟩; have hB4 := hB3.trans (grown_below hg4 hb.size hB3.size); have hX4 := hP _ _ _ _ hX hg4)
            | (go_at_call 130; refine Calls.mono (HF _ _ _ hX4).out ?_; rintro e w5 ⟨rfl, hb5⟩; have hB5 := hB4.trans (hb5.mono hB4.size); have hX5 := hP _ _ _ _ hX4 (grown_of_below hb5 _); have g6 := (hs.below hB5).g6))
          go_ret2
          exact ⟨fun _ => ⟨_, X, hb.size, hX5, rfl⟩, fun h => absurd rfl h, hB5⟩
        · have hR : R = (6, f) := by rw [HD.out]; simp [hl, hf]
          subst hR
          have nf : (f != 0) = true := by simpa using hf
          have hM := methF_call
          go_enter Tryz.func39, Tryz.ntmps39
          go_wp2_with (first
            | (go_at_call 62; refine Calls.mono HO.out ?_; rintro e w1 ⟨rfl, hb⟩; have k1 := (hb.cell (p := ⟨b2, o2, none⟩) (cell_lt k0)).trans k0)
            | (go_at_call 52; refine (within_any _ _ _ _).mono ?_; rw [h4]; rintro e w2 ⟨rfl, rfl⟩)
            | (go_at_call 63; refine Calls.mono (HR _ _ _ (HRd _ hb).1 (HRd _ hb).2 h4).out ?_; rintro e w3 ⟨X, rfl, hX, hrd, hg⟩; have hB3 : Below w.heap.size w w3 := (hb.trans ((Below.refl _ _).alloc hb.size _)).trans (grown_below hg hb.size (by have := hb.size; simp; omega)); have hs3 := hs.below hB3)
            | (go_at_call 64; refine Calls.mono (HE _ _ _ hs3 hrd).out ?_; rintro e w4 ⟨rfl, hg4⟩; have hB4 := hB3.trans (grown_below hg4 hb.size hB3.size); have hX4 := hP _ _ _ _ hX hg4)
            | (go_at_call 130; refine Calls.mono (HF _ _ _ hX4).out ?_; rintro e w5 ⟨rfl, hb5⟩; have hB5 := hB4.trans (hb5.mono hB4.size); have hX5 := hP _ _ _ _ hX4 (grown_of_below hb5 _); have g6 := (hs.below hB5).g6))
          go_quiet (fail)
          go_wp2
          go_ret2
          exact ⟨fun h => absurd h (by decide), fun _ => rfl, ⟨hB5.os, hB5.tape, hB5.output, hB5.size, hB5.block⟩⟩
      · have hev : endV A left = refV (A 5) 0 := by rw [endV, if_neg hl]
        rw [hev] at HE
        have hR : R = (5, 0) := by rw [HD.out]; simp [hl]
        subst hR
        go_enter Tryz.func39, Tryz.ntmps39
        go_wp2_with (first
          | (go_at_call 62; refine Calls.mono HO.out ?_; rintro e w1 ⟨rfl, hb⟩; have k1 := (hb.cell (p := ⟨b2, o2, none⟩) (cell_lt k0)).trans k0)
          | (go_at_call 52; refine (within_any _ _ _ _).mono ?_; rw [h4]; rintro e w2 ⟨rfl, rfl⟩)
          | (go_at_call 63; refine Calls.mono (HR _ _ _ (HRd _ hb).1 (HRd _ hb).2 h4).out ?_; rintro e w3 ⟨X, rfl, hX, hrd, hg⟩; have hB3 : Below w.heap.size w w3 := (hb.trans ((Below.refl _ _).alloc hb.size _)).trans (grown_below hg hb.size (by have := hb.size; simp; omega)); have hs3 := hs.below hB3)
          | (go_at_call 64; refine Calls.mono (HE _ _ _ hs3 hrd).out ?_; rintro e w4 ⟨rfl, hg4⟩; have hB4 := hB3.trans (grown_below hg4 hb.size hB3.size)))
        go_ret2
        exact ⟨fun h => absurd h (by decide), fun _ => rfl, hB4⟩
    · have h4' : inB K lo hi = false := by simpa using h4
      have hR : R = (4, 0) := by rw [HD.out, hop, h4']; rfl
      subst hR
      have g4 := hs.g4
      go_enter Tryz.func39, Tryz.ntmps39
      go_wp2_with (first
        | (go_at_call 62; refine Calls.mono HO.out ?_; rintro e w1 ⟨rfl, hb⟩; have k1 := (hb.cell (p := ⟨b2, o2, none⟩) (cell_lt k0)).trans k0; have g4' := (hs.below hb).g4)
        | (go_at_call 52; refine (within_any _ _ _ _).mono ?_; rw [h4']; rintro e w2 ⟨rfl, rfl⟩))
      go_quiet (fail)
      go_wp2
      go_ret2
      exact ⟨fun h => absurd h (by decide), fun _ => rfl, ⟨hb.os, hb.tape, hb.output, hb.size, hb.block⟩⟩
  · have hop : openC l lo hi = sumC l := by simp [openC, h1]
    have hR : decC l lo hi left f = (sumC l, 0) := by rw [decC, hop, if_pos h1]
    rw [hR]
    rw [if_neg h1] at HO
    go_enter Tryz.func39, Tryz.ntmps39
    go_wp2_with (go_at_call 62; refine Calls.mono HO.out ?_; rintro e w1 ⟨rfl, hb⟩)
    go_ret2
    exact ⟨fun h => absurd h h1, fun _ => rfl, hb⟩
end Go.Proofs.YtafmjckpbcijoaaGreatDoor

/-
  impl.reader: cmd.
-/
namespace Go.Proofs.YtafmjckpbcijoaaGreatDoor
open Go.RowKit
set_option linter.unusedVariables false
set_option linter.unusedSimpArgs false

/-- what a command reads as, and what is left -/
structure CmdR where
  cl : Nat
  sq : Nat
  op : Nat
  k : ByteArray
  v : ByteArray
  o : ByteArray
  left : RSt

def rdCmd (s : RSt) : CmdR :=
  let a := rdNum s
  let b := rdNum a.2
  let c := rdNum b.2
  let d := rdText c.2
  let e := rdText d.2
  let f := rdText e.2
  ⟨a.1, b.1, c.1, d.1, e.1, f.1, f.2⟩

def cmdV (r : CmdR) : Value := .agg #[.int .i64 (r.cl : Nat), .int .i64 (r.sq : Nat), .int .i64 (r.op : Nat), .string r.k, .string r.v, .string r.o]

theorem rdCmd_k (s : RSt) : (rdCmd s).k.size ≤ 64 := rdText_size _
theorem rdCmd_v (s : RSt) : (rdCmd s).v.size ≤ 64 := rdText_size _
theorem rdCmd_o (s : RSt) : (rdCmd s).o.size ≤ 64 := rdText_size _

set_option maxHeartbeats 4000000 in
set_option maxRecDepth 100000 in
theorem cmd_any (b : Nat) (w : World) (A : Nat → Addr) (B D : Nat) (st : RSt) (hs : Sents w A B) (h : Rd w b A B D st) :
    Calls Tryz.prog 79 #[.pointer (some ⟨b, 0, none⟩)] w fun e w' => e = .returned (cmdV (rdCmd st)) ∧ Rd w' b A B D (rdCmd st).left ∧ w.grownBy w' (some b) := by
  have HN : ∀ w st, Sents w A B → Rd w b A B D st → Hid (Calls Tryz.prog 91 #[.pointer (some ⟨b, 0, none⟩)] w fun e w' => e = .returned (.int .i64 ((rdNum st).1 : Nat)) ∧ Sents w' A B ∧ Rd w' b A B D (rdNum st).2 ∧ w.grownBy w' (some b)) := fun w st hs h => number_s b w A B D st hs h
  have HT : ∀ w st, Sents w A B → Rd w b A B D st → Hid (Calls Tryz.prog 92 #[.pointer (some ⟨b, 0, none⟩)] w fun e w' => e = .returned (.string (rdText st).1) ∧ Sents w' A B ∧ Rd w' b A B D (rdText st).2 ∧ w.grownBy w' (some b)) := fun w st hs h => text_s b w A B D st hs h
  have hB0 := h.1
  have hbD := h.2.1
  have hDw := h.2.2.1
  have HR : Hid (Rd w b A B D st) := h
  have HS : Hid (Sents w A B) := hs
  clear h hs
  have y1 : True := trivial
  have y2 : True := trivial
  have y3 : True := trivial
  have y4 : True := trivial
  have y5 : True := trivial
  have y6 : True := trivial
  go_enter Tryz.func79, Tryz.ntmps79
  go_wp2_with (first
    | (go_at_call 91; clear y1; refine Calls.mono (HN _ _ (HS.out.kept (((Below.refl _ _).alloc (by omega) _).alloc (by simp; omega) _)) (HR.out.below (((Below.refl _ _).alloc (by omega) _).alloc (by simp; omega) _))).out ?_; rintro e w1 ⟨rfl, hs, hr, hg⟩; obtain ⟨cc, cf⟩ := grown_cell (q := w.heap.size + 1) hg (by simp [World.setCell] <;> omega) (by omega); obtain ⟨dc, df⟩ := grown_cell (q := w.heap.size) hg (by simp [World.setCell] <;> omega) (by omega); have hG : w.grownBy w1 (some b) := grownBy_trans (grown_alloc (grown_alloc (grownBy_refl w (some b)) _) _) hg; have hz := hG.size; have hz2 : w.heap.size + 1 < w1.heap.size := (by have := hg.size; simp [World.setCell] at this; omega))
    | (go_at_call 91; clear y2; refine Calls.mono (HN _ _ (hs.kept ((Below.refl _ _).setCell (show _ ≤ w.heap.size + 1 by omega) _)) (hr.below ((Below.refl _ _).setCell (show _ ≤ w.heap.size + 1 by omega) _))).out ?_; rintro e w2 ⟨rfl, hs, hr, hg⟩; obtain ⟨cc, cf⟩ := grown_cell (q := w.heap.size + 1) hg (by simp [World.setCell] <;> omega) (by omega); obtain ⟨dc, df⟩ := grown_cell (q := w.heap.size) hg (by simp [World.setCell] <;> omega) (by omega); have hG : w.grownBy w2 (some b) := grownBy_trans (grown_setNew hG (w.heap.size + 1) _ _ (by omega)) hg; have hz := hG.size; have hz2 : w.heap.size + 1 < w2.heap.size := (by have := hg.size; simp [World.setCell] at this; omega))
    | (go_at_call 91; clear y3; refine Calls.mono (HN _ _ (hs.kept ((Below.refl _ _).setCell (show _ ≤ w.heap.size + 1 by omega) _)) (hr.below ((Below.refl _ _).setCell (show _ ≤ w.heap.size + 1 by omega) _))).out ?_; rintro e w3 ⟨rfl, hs, hr, hg⟩; obtain ⟨cc, cf⟩ := grown_cell (q := w.heap.size + 1) hg (by simp [World.setCell] <;> omega) (by omega); obtain ⟨dc, df⟩ := grown_cell (q := w.heap.size) hg (by simp [World.setCell] <;> omega) (by omega); have hG : w.grownBy w3 (some b) := grownBy_trans (grown_setNew hG (w.heap.size + 1) _ _ (by omega)) hg; have hz := hG.size; have hz2 : w.heap.size + 1 < w3.heap.size := (by have := hg.size; simp [World.setCell] at this; omega))
    | (go_at_call 92; clear y4; refine Calls.mono (HT _ _ (hs.kept ((Below.refl _ _).setCell (show _ ≤ w.heap.size + 1 by omega) _)) (hr.below ((Below.refl _ _).setCell (show _ ≤ w.heap.size + 1 by omega) _))).out ?_; rintro e w4 ⟨rfl, hs, hr, hg⟩; obtain ⟨cc, cf⟩ := grown_cell (q := w.heap.size + 1) hg (by simp [World.setCell] <;> omega) (by omega); obtain ⟨dc, df⟩ := grown_cell (q := w.heap.size) hg (by simp [World.setCell] <;> omega) (by omega); have hG : w.grownBy w4 (some b) := grownBy_trans (grown_setNew hG (w.heap.size + 1) _ _ (by omega)) hg; have hz := hG.size; have hz2 : w.heap.size + 1 < w4.heap.size := (by have := hg.size; simp [World.setCell] at this; omega))
    | (go_at_call 92; clear y5; refine Calls.mono (HT _ _ (hs.kept ((Below.refl _ _).setCell (show _ ≤ w.heap.size + 1 by omega) _)) (hr.below ((Below.refl _ _).setCell (show _ ≤ w.heap.size + 1 by omega) _))).out ?_; rintro e w5 ⟨rfl, hs, hr, hg⟩; obtain ⟨cc, cf⟩ := grown_cell (q := w.heap.size + 1) hg (by simp [World.setCell] <;> omega) (by omega); obtain ⟨dc, df⟩ := grown_cell (q := w.heap.size) hg (by simp [World.setCell] <;> omega) (by omega); have hG : w.grownBy w5 (some b) := grownBy_trans (grown_setNew hG (w.heap.size + 1) _ _ (by omega)) hg; have hz := hG.size; have hz2 : w.heap.size + 1 < w5.heap.size := (by have := hg.size; simp [World.setCell] at this; omega))
    | (go_at_call 92; clear y6; refine Calls.mono (HT _ _ (hs.kept ((Below.refl _ _).setCell (show _ ≤ w.heap.size + 1 by omega) _)) (hr.below ((Below.refl _ _).setCell (show _ ≤ w.heap.size + 1 by omega) _))).out ?_; rintro e w6 ⟨rfl, hs, hr, hg⟩; obtain ⟨cc, cf⟩ := grown_cell (q := w.heap.size + 1) hg (by simp [World.setCell] <;> omega) (by omega); obtain ⟨dc, df⟩ := grown_cell (q := w.heap.size) hg (by simp [World.setCell] <;> omega) (by omega); have hG : w.grownBy w6 (some b) := grownBy_trans (grown_setNew hG (w.heap.size + 1) _ _ (by omega)) hg; have hz := hG.size; have hz2 : w.heap.size + 1 < w6.heap.size := (by have := hg.size; simp [World.setCell] at this; omega)))
  exact bodyPost_ret (v := cmdV (rdCmd st)) (by simp [results, Tryz.results79, go_sem, cmdV, rdCmd, *]) rfl ⟨rfl, hr.below ((((((((Below.refl _ _).setCell (show _ ≤ w.heap.size + 1 by omega) _).setCell (show _ ≤ w.heap.size by omega) _).setCell (show _ ≤ w.heap.size by omega) _).setCell (show _ ≤ w.heap.size by omega) _).setCell (show _ ≤ w.heap.size by omega) _).setCell (show _ ≤ w.heap.size by omega) _).setCell (show _ ≤ w.heap.size by omega) _), grown_setNew (grown_setNew (grown_setNew (grown_setNew (grown_setNew (grown_setNew (grown_setNew hG (w.heap.size + 1) _ _ (by omega)) w.heap.size _ _ (by omega)) w.heap.size _ _ (by omega)) w.heap.size _ _ (by omega)) w.heap.size _ _ (by omega)) w.heap.size _ _ (by omega)) w.heap.size _ _ (by omega)⟩
end Go.Proofs.YtafmjckpbcijoaaGreatDoor

/-
  impl.limitsOf; CmdFault, both.
-/
namespace Go.Proofs.YtafmjckpbcijoaaGreatDoor
open Go.RowKit
set_option linter.unusedVariables false

/-- impl.limitsOf, as a value -/
def limV (op : Int) : Value :=
  if op = 0 then .agg #[.int .i64 0, .int .i64 0, .int .i64 0, .int .i64 0, .int .i64 0, .int .i64 0]
  else .agg #[.int .i64 1, .int .i64 8, .int .i64 1073741824, .int .i64 64, .int .i64 (if op = 2 ∨ op = 4 then 64 else 0), .int .i64 (if op = 4 then 64 else 0)]

theorem limitsOf_any (op : Int) (w : World) :
    Calls Tryz.prog 129 #[.int .i64 op] w fun e w' => e = .returned (limV op) ∧ Below w.heap.size w w' := by
  by_cases h0 : op = 0
  · subst h0
    have e : limV 0 = .agg #[.int .i64 0, .int .i64 0, .int .i64 0, .int .i64 0, .int .i64 0, .int .i64 0] := rfl
    rw [e]
    go_enter Tryz.func129, Tryz.ntmps129
    go_wp2
    exact bodyPost_ret (v := .agg #[.int .i64 0, .int .i64 0, .int .i64 0, .int .i64 0, .int .i64 0, .int .i64 0]) (by simp [results, Tryz.results129, go_sem]) rfl ⟨rfl, (Below.refl _ _).alloc (Nat.le_refl _) _⟩
  by_cases h2 : op = 2
  · subst h2
    have e : limV 2 = .agg #[.int .i64 1, .int .i64 8, .int .i64 1073741824, .int .i64 64, .int .i64 64, .int .i64 0] := rfl
    rw [e]
    go_enter Tryz.func129, Tryz.ntmps129
    go_wp2
    exact bodyPost_ret (v := .agg #[.int .i64 1, .int .i64 8, .int .i64 1073741824, .int .i64 64, .int .i64 64, .int .i64 0]) (by simp [results, Tryz.results129, go_sem]) rfl ⟨rfl, ((Below.refl _ _).alloc (Nat.le_refl _) _).alloc (by simp) _⟩
  by_cases h4 : op = 4
  · subst h4
    have e : limV 4 = .agg #[.int .i64 1, .int .i64 8, .int .i64 1073741824, .int .i64 64, .int .i64 64, .int .i64 64] := rfl
    rw [e]
    go_enter Tryz.func129, Tryz.ntmps129
    go_wp2
    exact bodyPost_ret (v := .agg #[.int .i64 1, .int .i64 8, .int .i64 1073741824, .int .i64 64, .int .i64 64, .int .i64 64]) (by simp [results, Tryz.results129, go_sem]) rfl ⟨rfl, ((Below.refl _ _).alloc (Nat.le_refl _) _).alloc (by simp) _⟩
  · have e : limV op = .agg #[.int .i64 1, .int .i64 8, .int .i64 1073741824, .int .i64 64, .int .i64 0, .int .i64 0] := by simp [limV, h0, h2, h4]
    rw [e]
    have n2 : (op == 2) = false := by simpa using h2
    have n4 : (op == 4) = false := by simpa using h4
    go_enter Tryz.func129, Tryz.ntmps129
    go_wp2
    all_goals exact bodyPost_ret (v := .agg #[.int .i64 1, .int .i64 8, .int .i64 1073741824, .int .i64 64, .int .i64 0, .int .i64 0]) (by simp [results, Tryz.results129, go_sem]) rfl ⟨rfl, ((Below.refl _ _).alloc (Nat.le_refl _) _).alloc (by simp) _⟩

/-- the fault of a command -/
def cmdF (cl sq op : Int) (k v o : Int) : Int :=
  if op < 0 ∨ 4 < op then 1
  else if op = 0 then (if cl ≠ 0 then 2 else if sq ≠ 0 then 3 else if k ≠ 0 then 4 else if v ≠ 0 then 5 else if o ≠ 0 then 6 else 0)
  else if cl < 1 ∨ 8 < cl then 2 else if sq < 1 ∨ 1073741824 < sq then 3 else if k < 1 ∨ 64 < k then 4
  else if (if op = 2 ∨ op = 4 then 64 else 0) < v then 5 else if (if op = 4 then 64 else 0) < o then 6 else 0



def implF (cl sq op k v o l0 l1 l2 l3 l4 l5 : Int) : Int :=
  if inB op 0 4 = false then 1 else if inB cl l0 l1 = false then 2 else if inB sq l0 l2 = false then 3 else if inB k l0 l3 = false then 4 else if l4 < v then 5 else if l5 < o then 6 else 0

set_option maxHeartbeats 1000000 in
theorem implCF_lim (cl sq op : Int) (k v o : ByteArray) (l0 l1 l2 l3 l4 l5 : Int) (hlim : limV op = .agg #[.int .i64 l0, .int .i64 l1, .int .i64 l2, .int .i64 l3, .int .i64 l4, .int .i64 l5])
    (hk : k.size ≤ maxLen) (hv : v.size ≤ maxLen) (ho : o.size ≤ maxLen) (w : World) :
    Calls Tryz.prog 128 #[.agg #[.int .i64 cl, .int .i64 sq, .int .i64 op, .string k, .string v, .string o]] w fun e w' =>
      e = .returned (.int .i64 (implF cl sq op k.size v.size o.size l0 l1 l2 l3 l4 l5)) ∧ Below w.heap.size w w' := by
  unfold maxLen at hk hv ho
  have HL : Hid (limV op = .agg #[.int .i64 l0, .int .i64 l1, .int .i64 l2, .int .i64 l3, .int .i64 l4, .int .i64 l5]) := hlim
  clear hlim
  go_enter Tryz.func128, Tryz.ntmps128
  go_wp2_with (first
    | (go_at_call 129; refine (limitsOf_any _ _).mono ?_; rintro e w1 ⟨rfl, hb⟩; rw [HL.out]; obtain ⟨hc, hf⟩ := bcell hb; have hz : w.heap.size < w1.heap.size := (by have := hb.size; simp at this; omega))
    | (go_at_call 52; refine (within_any _ _ _ _).mono ?_; rintro e w' ⟨rfl, rfl⟩))
  all_goals go_ret
  all_goals refine ⟨ret_int ?_, (((Below.refl _ _).alloc (Nat.le_refl _) _).trans (hb.mono (by simp))).alloc (by omega) _⟩
  all_goals (clear hb hc hf HL; go_light; simp_all [implF]; try omega)

theorem implF_zero (cl sq k v o : Int) (hk : 0 ≤ k) (hv : 0 ≤ v) (ho : 0 ≤ o) : implF cl sq 0 k v o 0 0 0 0 0 0 = cmdF cl sq 0 k v o := by
  unfold implF cmdF
  simp only [inB_not]
  rw [if_neg (by omega : ¬ ((0 : Int) < 0 ∨ (4 : Int) < 0)), if_neg (by omega : ¬ ((0 : Int) < 0 ∨ (4 : Int) < 0)), if_pos trivial]
  exact ifc (by omega) rfl (ifc (by omega) rfl (ifc (by omega) rfl (ifc (by omega) rfl (ifc (by omega) rfl rfl))))
theorem implF_pos (cl sq op k v o : Int) (h : op ≠ 0) : implF cl sq op k v o 1 8 1073741824 64 (if op = 2 ∨ op = 4 then 64 else 0) (if op = 4 then 64 else 0) = cmdF cl sq op k v o := by
  unfold implF cmdF
  simp only [inB_not]
  rw [if_neg h]

theorem implCmdFault_any (cl sq op : Int) (k v o : ByteArray) (hk : k.size ≤ maxLen) (hv : v.size ≤ maxLen) (ho : o.size ≤ maxLen) (w : World) :
    Calls Tryz.prog 128 #[.agg #[.int .i64 cl, .int .i64 sq, .int .i64 op, .string k, .string v, .string o]] w fun e w' =>
      e = .returned (.int .i64 (cmdF cl sq op k.size v.size o.size)) ∧ Below w.heap.size w w' := by
  by_cases h : op = 0
  · subst h
    rw [← implF_zero _ _ _ _ _ (Int.natCast_nonneg _) (Int.natCast_nonneg _) (Int.natCast_nonneg _)]
    exact implCF_lim cl sq 0 k v o 0 0 0 0 0 0 rfl hk hv ho w
  · rw [← implF_pos _ _ _ _ _ _ h]
    exact implCF_lim cl sq op k v o _ _ _ _ _ _ (by simp [limV, h]) hk hv ho w

set_option maxHeartbeats 2000000 in
theorem specCmdFault_any (cl sq op : Int) (k v o : ByteArray) (hk : k.size ≤ maxLen) (hv : v.size ≤ maxLen) (ho : o.size ≤ maxLen) (w : World) :
    Calls Tryz.prog 11 #[.agg #[.int .i64 cl, .int .i64 sq, .int .i64 op, .string k, .string v, .string o]] w fun e w' =>
      e = .returned (.int .i64 (cmdF cl sq op k.size v.size o.size)) ∧ Below w.heap.size w w' := by
  unfold maxLen at hk hv ho
  go_enter Tryz.func11, Tryz.ntmps11
  go_wp2
  all_goals go_ret
  all_goals refine ⟨ret_int ?_, (Below.refl _ _).alloc (Nat.le_refl _) _⟩
  all_goals go_light
  all_goals (try (simp only [beq_iff_eq, beq_eq_false_iff_ne, bne_iff_ne, bne_eq_false_iff_eq, ne_eq] at *))
  all_goals first | (exfalso; omega) | (unfold cmdF; repeat (first | rfl | rw [if_pos (by omega)] | rw [if_neg (by omega)]))
end Go.Proofs.YtafmjckpbcijoaaGreatDoor

/-
  impl.callFault.
-/
namespace Go.Proofs.YtafmjckpbcijoaaGreatDoor
open Go.RowKit
set_option linter.unusedVariables false

/-- the fault of a call -/
def callF (cl sq op k v o : Int) : Int := if cmdF cl sq op k v o = 0 ∧ op = 0 then 1 else cmdF cl sq op k v o

set_option maxHeartbeats 1000000 in
theorem callFault_any (cl sq op : Int) (k v o : ByteArray) (hk : k.size ≤ maxLen) (hv : v.size ≤ maxLen) (ho : o.size ≤ maxLen) (w : World) :
    Calls Tryz.prog 132 #[.agg #[.int .i64 cl, .int .i64 sq, .int .i64 op, .string k, .string v, .string o]] w fun e w' =>
      e = .returned (.int .i64 (callF cl sq op k.size v.size o.size)) ∧ Below w.heap.size w w' := by
  by_cases h0 : cmdF cl sq op k.size v.size o.size = 0
  · by_cases h1 : op = 0
    · have e : callF cl sq op k.size v.size o.size = 1 := by rw [callF, if_pos ⟨h0, h1⟩]
      rw [e]
      subst h1
      go_enter Tryz.func132, Tryz.ntmps132
      go_wp2_with (go_at_call 128; refine (implCmdFault_any cl sq 0 k v o hk hv ho _).mono ?_; rintro e w1 ⟨rfl, hb⟩; obtain ⟨hc, hf⟩ := bcell hb)
      go_ret
      exact ⟨rfl, ((Below.refl _ _).alloc (Nat.le_refl _) _).trans (hb.mono (by simp))⟩
    · have e : callF cl sq op k.size v.size o.size = 0 := by rw [callF, if_neg (fun h => h1 h.2), h0]
      have n1 : (op == 0) = false := by simpa using h1
      rw [e]
      go_enter Tryz.func132, Tryz.ntmps132
      go_wp2_with (go_at_call 128; refine (implCmdFault_any cl sq op k v o hk hv ho _).mono ?_; rintro e w1 ⟨rfl, hb⟩; obtain ⟨hc, hf⟩ := bcell hb)
      go_ret
      exact ⟨rfl, ((Below.refl _ _).alloc (Nat.le_refl _) _).trans (hb.mono (by simp))⟩
  · have e : callF cl sq op k.size v.size o.size = cmdF cl sq op k.size v.size o.size := by rw [callF, if_neg (fun h => h0 h.1)]
    rw [e]
    generalize hX : cmdF cl sq op k.size v.size o.size = X at h0
    have HX : Hid (cmdF cl sq op k.size v.size o.size = X) := hX
    have n0 : (X == 0) = false := by simpa using h0
    clear hX
    go_enter Tryz.func132, Tryz.ntmps132
    go_wp2_with (go_at_call 128; refine (implCmdFault_any cl sq op k v o hk hv ho _).mono ?_; rintro e w1 ⟨rfl, hb⟩; rw [HX.out]; obtain ⟨hc, hf⟩ := bcell hb)
    go_ret
    exact ⟨rfl, ((Below.refl _ _).alloc (Nat.le_refl _) _).trans (hb.mono (by simp))⟩

end Go.Proofs.YtafmjckpbcijoaaGreatDoor

/-
  The fault of a callBody.
-/
namespace Go.Proofs.YtafmjckpbcijoaaGreatDoor
open Go.RowKit
set_option linter.unusedVariables false

theorem callBody_fault_any (cl sq op : Int) (k v o : ByteArray) (hk : k.size ≤ maxLen) (hv : v.size ≤ maxLen) (ho : o.size ≤ maxLen) (w : World) :
    Calls Tryz.prog 130 #[.agg #[.int .i64 cl, .int .i64 sq, .int .i64 op, .string k, .string v, .string o]] w fun e w' =>
      e = .returned (.int .i64 (callF cl sq op k.size v.size o.size)) ∧ Below w.heap.size w w' := by
  go_enter Tryz.func130, Tryz.ntmps130
  go_wp2_with (go_at_call 132; refine (callFault_any cl sq op k v o hk hv ho _).mono ?_; rintro e w1 ⟨rfl, hb⟩)
  go_ret
  exact ⟨rfl, ((Below.refl _ _).alloc (Nat.le_refl _) _).trans (hb.mono (by simp))⟩
end Go.Proofs.YtafmjckpbcijoaaGreatDoor

/-
  impl.answerOf at a call.
-/
namespace Go.Proofs.YtafmjckpbcijoaaGreatDoor
open Go.RowKit
set_option linter.unusedVariables false
set_option linter.unusedSimpArgs false

theorem infoCmd : (Tryz.prog.info? 33).map (·.size) = some 6 := by kernel_rfl
theorem infoCallBody : (Tryz.prog.info? 66).map (·.size) = some 6 := by kernel_rfl

set_option maxHeartbeats 4000000 in
set_option maxRecDepth 100000 in
theorem answerOf_call (r : CmdR) (w : World) (A : Nat → Addr) (B : Nat) (hs : Sents w A B) :
    Calls Tryz.prog 38 #[.iface 66 (cmdV r), .nilIface] w fun e w' =>
      e = .returned (.agg #[.int .i64 0, .int .i64 0, .int .i64 0, .int .i64 0, .int .i64 0, .int .i64 0, .int .i64 0, .int .i64 0, .int .i64 0, .int .i64 0, .int .i64 0, .slice none 0 0, .int .i64 (r.cl : Nat), .int .i64 (r.sq : Nat), .int .i64 (r.op : Nat), .string r.k, .string r.v, .string r.o, .int .i64 0, .int .i64 0, .int .i64 0, .int .i64 0, .string ⟨#[]⟩, .int .i64 0]) ∧ Below w.heap.size w w' := by
  unfold cmdV
  have t1 := ta_call_msg
  have t2 := ta_call_call
  go_enter Tryz.func38, Tryz.ntmps38
  go_wp2_with (first
    | (go_at_call 60; refine (codeOf_nil _ A B (hs.below ((Below.refl _ _).alloc (Nat.le_refl _) _))).mono ?_; rintro e w1 ⟨rfl, rfl⟩)
    | (go_at_call 61; refine (faultOf_nil _).mono ?_; rintro e w2 ⟨rfl, hb⟩; have hz : w.heap.size < w2.heap.size := (by have := hb.size; simp at this; omega); have hB2 : Below w.heap.size w w2 := ((Below.refl _ _).alloc (Nat.le_refl _) _).trans (hb.mono (by simp)); have hth := there_new hb hz (.cells #[.int .i64 0, .int .i64 0, .int .i64 0, .int .i64 0, .int .i64 0, .int .i64 0, .int .i64 0, .int .i64 0, .int .i64 0, .int .i64 0, .int .i64 0, .slice none 0 0, .int .i64 0, .int .i64 0, .int .i64 0, .string ⟨#[]⟩, .string ⟨#[]⟩, .string ⟨#[]⟩, .int .i64 0, .int .i64 0, .int .i64 0, .int .i64 0, .string ⟨#[]⟩, .int .i64 0] 75); have hra := range_new w2 [.int .i64 0, .int .i64 0, .int .i64 0, .int .i64 0, .int .i64 0, .int .i64 0, .int .i64 0, .int .i64 0, .int .i64 0, .int .i64 0, .int .i64 0, .slice none 0 0, .int .i64 0, .int .i64 0, .int .i64 0, .string ⟨#[]⟩, .string ⟨#[]⟩, .string ⟨#[]⟩, .int .i64 0, .int .i64 0, .int .i64 0, .int .i64 0, .string ⟨#[]⟩, .int .i64 0] 75; have htN : (w2.alloc (.cells #[.int .i64 0, .int .i64 0, .int .i64 0, .int .i64 0, .int .i64 0, .int .i64 0, .int .i64 0, .int .i64 0, .int .i64 0, .int .i64 0, .int .i64 0, .slice none 0 0, .int .i64 0, .int .i64 0, .int .i64 0, .string ⟨#[]⟩, .string ⟨#[]⟩, .string ⟨#[]⟩, .int .i64 0, .int .i64 0, .int .i64 0, .int .i64 0, .string ⟨#[]⟩, .int .i64 0] 75)).there w2.heap.size 0 24 := (fun j hj => by rw [Nat.zero_add]; simp [World.cell?_alloc_new, hj]))
    | (refine gate_store 75 (.tmp 5) (.tmp 13) rfl ?_; refine wpl_store_new rfl 75 (.tmp 5) (.tmp 13) rfl #[.int .i64 0, .int .i64 0, .int .i64 0, .int .i64 0, .int .i64 0, .int .i64 0, .int .i64 0, .int .i64 0, .int .i64 0, .int .i64 0, .int .i64 0, .slice none 0 0, .int .i64 0, .int .i64 0, .int .i64 0, .string ⟨#[]⟩, .string ⟨#[]⟩, .string ⟨#[]⟩, .int .i64 0, .int .i64 0, .int .i64 0, .int .i64 0, .string ⟨#[]⟩, .int .i64 0] #[.int .i64 0, .int .i64 0, .int .i64 0, .int .i64 0, .int .i64 0, .int .i64 0, .int .i64 0, .int .i64 0, .int .i64 0, .int .i64 0, .int .i64 0, .slice none 0 0, .int .i64 0, .int .i64 0, .int .i64 0, .string ⟨#[]⟩, .string ⟨#[]⟩, .string ⟨#[]⟩, .int .i64 0, .int .i64 0, .int .i64 0, .int .i64 0, .string ⟨#[]⟩, .int .i64 0] rfl rfl infoAns rfl (by simp [Value.oneCell']) ?_)
    | (refine gate_store 66 (.tmp 7) (.tmp 22) rfl ?_; refine wpl_store_new rfl 66 (.tmp 7) (.tmp 22) rfl #[.int .i64 0, .int .i64 0, .int .i64 0, .string ⟨#[]⟩, .string ⟨#[]⟩, .string ⟨#[]⟩] #[.int .i64 (r.cl : Nat), .int .i64 (r.sq : Nat), .int .i64 (r.op : Nat), .string r.k, .string r.v, .string r.o] (show Value.pointer (some ⟨w2.heap.size + 1, 0, none⟩) = _ by simp) rfl infoCallBody rfl (by simp [Value.oneCell']) ?_)
    | (refine gate_load 66 (.tmp 7) rfl ?_; refine wpList_load_mid rfl 66 (.tmp 7) rfl (w2.heap.size + 1) 0 rfl [.int .i64 (r.cl : Nat), .int .i64 (r.sq : Nat), .int .i64 (r.op : Nat), .string r.k, .string r.v, .string r.o] _ (by have h := range_new (w2.alloc (.cells #[.int .i64 0, .int .i64 0, .int .i64 0, .int .i64 0, .int .i64 0, .int .i64 0, .int .i64 0, .int .i64 0, .int .i64 0, .int .i64 0, .int .i64 0, .slice none 0 0, .int .i64 0, .int .i64 0, .int .i64 0, .string ⟨#[]⟩, .string ⟨#[]⟩, .string ⟨#[]⟩, .int .i64 0, .int .i64 0, .int .i64 0, .int .i64 0, .string ⟨#[]⟩, .int .i64 0] 75)) [.int .i64 (r.cl : Nat), .int .i64 (r.sq : Nat), .int .i64 (r.op : Nat), .string r.k, .string r.v, .string r.o] 66; simpa using h) Tryz.underlying66 rfl infoCallBody ?_)
    | (refine gate_store 33 (.tmp 24) (.tmp 23) rfl ?_; refine wpList_store_mid rfl 33 (.tmp 24) (.tmp 23) rfl w2.heap.size 12 #[.int .i64 (r.cl : Nat), .int .i64 (r.sq : Nat), .int .i64 (r.op : Nat), .string r.k, .string r.v, .string r.o] rfl rfl (there_part (World.there_alloc htN _) 12 6 (by omega)) infoCmd (by simp [Value.oneCell']) ?_; have hsp := range_splice (w := (w2.alloc (.cells #[.int .i64 0, .int .i64 0, .int .i64 0, .int .i64 0, .int .i64 0, .int .i64 0, .int .i64 0, .int .i64 0, .int .i64 0, .int .i64 0, .int .i64 0, .slice none 0 0, .int .i64 0, .int .i64 0, .int .i64 0, .string ⟨#[]⟩, .string ⟨#[]⟩, .string ⟨#[]⟩, .int .i64 0, .int .i64 0, .int .i64 0, .int .i64 0, .string ⟨#[]⟩, .int .i64 0] 75)).alloc (.cells #[.int .i64 (r.cl : Nat), .int .i64 (r.sq : Nat), .int .i64 (r.op : Nat), .string r.k, .string r.v, .string r.o] 66)) (b := w2.heap.size) [.int .i64 0, .int .i64 0, .int .i64 0, .int .i64 0, .int .i64 0, .int .i64 0, .int .i64 0, .int .i64 0, .int .i64 0, .int .i64 0, .int .i64 0, .slice none 0 0] [.int .i64 0, .int .i64 0, .int .i64 0, .string ⟨#[]⟩, .string ⟨#[]⟩, .string ⟨#[]⟩] [.int .i64 (r.cl : Nat), .int .i64 (r.sq : Nat), .int .i64 (r.op : Nat), .string r.k, .string r.v, .string r.o] [.int .i64 0, .int .i64 0, .int .i64 0, .int .i64 0, .string ⟨#[]⟩, .int .i64 0] (World.rangeAt_alloc hra _) rfl (there_part (World.there_alloc htN _) 12 6 (by omega)); have hth2 := World.there_setCells (World.there_alloc hth (.cells #[.int .i64 (r.cl : Nat), .int .i64 (r.sq : Nat), .int .i64 (r.op : Nat), .string r.k, .string r.v, .string r.o] 66)) w2.heap.size 12 [.int .i64 (r.cl : Nat), .int .i64 (r.sq : Nat), .int .i64 (r.op : Nat), .string r.k, .string r.v, .string r.o]; have hB3 := below_setCells (B := w.heap.size) (Nat.le_of_lt hz) [.int .i64 (r.cl : Nat), .int .i64 (r.sq : Nat), .int .i64 (r.op : Nat), .string r.k, .string r.v, .string r.o] 12 _ ((hB2.alloc (Nat.le_of_lt hz) (.cells #[.int .i64 0, .int .i64 0, .int .i64 0, .int .i64 0, .int .i64 0, .int .i64 0, .int .i64 0, .int .i64 0, .int .i64 0, .int .i64 0, .int .i64 0, .slice none 0 0, .int .i64 0, .int .i64 0, .int .i64 0, .string ⟨#[]⟩, .string ⟨#[]⟩, .string ⟨#[]⟩, .int .i64 0, .int .i64 0, .int .i64 0, .int .i64 0, .string ⟨#[]⟩, .int .i64 0] 75)).alloc (show w.heap.size ≤ _ by simp; omega) (.cells #[.int .i64 (r.cl : Nat), .int .i64 (r.sq : Nat), .int .i64 (r.op : Nat), .string r.k, .string r.v, .string r.o] 66)); clear hth hra htN; generalize (World.setCells _ w2.heap.size 12 _) = W3 at hsp hth2 hB3 ⊢)
    | (refine gate_load 75 (.tmp 5) rfl ?_; refine wpList_load_mid rfl 75 (.tmp 5) rfl w2.heap.size 0 rfl [.int .i64 0, .int .i64 0, .int .i64 0, .int .i64 0, .int .i64 0, .int .i64 0, .int .i64 0, .int .i64 0, .int .i64 0, .int .i64 0, .int .i64 0, .slice none 0 0, .int .i64 (r.cl : Nat), .int .i64 (r.sq : Nat), .int .i64 (r.op : Nat), .string r.k, .string r.v, .string r.o, .int .i64 0, .int .i64 0, .int .i64 0, .int .i64 0, .string ⟨#[]⟩, .int .i64 0] _ hsp Tryz.underlying75 rfl infoAns ?_)
    | (refine gate_store 75 (.tmp 4) (.tmp 30) rfl ?_; refine wpList_store_mid rfl 75 (.tmp 4) (.tmp 30) rfl w.heap.size 0 #[.int .i64 0, .int .i64 0, .int .i64 0, .int .i64 0, .int .i64 0, .int .i64 0, .int .i64 0, .int .i64 0, .int .i64 0, .int .i64 0, .int .i64 0, .slice none 0 0, .int .i64 (r.cl : Nat), .int .i64 (r.sq : Nat), .int .i64 (r.op : Nat), .string r.k, .string r.v, .string r.o, .int .i64 0, .int .i64 0, .int .i64 0, .int .i64 0, .string ⟨#[]⟩, .int .i64 0] rfl rfl hth2 infoAns (by simp [Value.oneCell']) ?_; have hra4 := World.rangeAt_setCells_same _ w.heap.size 0 [.int .i64 0, .int .i64 0, .int .i64 0, .int .i64 0, .int .i64 0, .int .i64 0, .int .i64 0, .int .i64 0, .int .i64 0, .int .i64 0, .int .i64 0, .slice none 0 0, .int .i64 (r.cl : Nat), .int .i64 (r.sq : Nat), .int .i64 (r.op : Nat), .string r.k, .string r.v, .string r.o, .int .i64 0, .int .i64 0, .int .i64 0, .int .i64 0, .string ⟨#[]⟩, .int .i64 0] hth2; have hld := run_loadVar_mid (P := Tryz.prog) _ w.heap.size 0 75 _ _ hra4 Tryz.underlying75 rfl infoAns; have hB4 := below_setCells (Nat.le_refl _) [.int .i64 0, .int .i64 0, .int .i64 0, .int .i64 0, .int .i64 0, .int .i64 0, .int .i64 0, .int .i64 0, .int .i64 0, .int .i64 0, .int .i64 0, .slice none 0 0, .int .i64 (r.cl : Nat), .int .i64 (r.sq : Nat), .int .i64 (r.op : Nat), .string r.k, .string r.v, .string r.o, .int .i64 0, .int .i64 0, .int .i64 0, .int .i64 0, .string ⟨#[]⟩, .int .i64 0] 0 _ hB3; clear hra4 hth2 hsp; generalize (World.setCells _ w.heap.size 0 _) = W4 at hld hB4 ⊢))
  refine bodyPost_ret (v := .agg #[.int .i64 0, .int .i64 0, .int .i64 0, .int .i64 0, .int .i64 0, .int .i64 0, .int .i64 0, .int .i64 0, .int .i64 0, .int .i64 0, .int .i64 0, .slice none 0 0, .int .i64 (r.cl : Nat), .int .i64 (r.sq : Nat), .int .i64 (r.op : Nat), .string r.k, .string r.v, .string r.o, .int .i64 0, .int .i64 0, .int .i64 0, .int .i64 0, .string ⟨#[]⟩, .int .i64 0]) ?_ rfl ⟨rfl, hB4⟩
  exact results_cell Tryz.results38 rfl hld
end Go.Proofs.YtafmjckpbcijoaaGreatDoor

/-
  impl.DecodeCall.
-/
namespace Go.Proofs.YtafmjckpbcijoaaGreatDoor
open Go.RowKit
set_option linter.unusedVariables false
set_option linter.unusedSimpArgs false

theorem readBody_call (b : Nat) (w : World) (A : Nat → Addr) (B D : Nat) (st : RSt) (hs : Sents w A B) (h : Rd w b A B D st) :
    Calls Tryz.prog 63 #[.int .i64 7, .pointer (some ⟨b, 0, none⟩)] w fun e w' => e = .returned (.iface 66 (cmdV (rdCmd st))) ∧ Rd w' b A B D (rdCmd st).left ∧ w.grownBy w' (some b) := by
  go_enter Tryz.func63, Tryz.ntmps63
  go_wp2_with (go_at_call 79; refine (cmd_any b w A B D st hs h).mono ?_; rintro e w1 ⟨rfl, hr, hg⟩)
  go_ret
  exact ⟨rfl, hr, hg⟩

/-- code and fault of a call's frame -/
def callC (l : List Int) : Nat × Int := decC l 7 7 (rdCmd (some (l.drop 9))).left (callF (rdCmd (some (l.drop 9))).cl (rdCmd (some (l.drop 9))).sq (rdCmd (some (l.drop 9))).op (rdCmd (some (l.drop 9))).k.size (rdCmd (some (l.drop 9))).v.size (rdCmd (some (l.drop 9))).o.size)
/-- what DecodeCall answers -/
def callAns (c : Nat × Int) (r : CmdR) : Value :=
  if c.1 = 0 then .agg #[.int .i64 0, .int .i64 0, .int .i64 (r.cl : Nat), .int .i64 (r.sq : Nat), .int .i64 (r.op : Nat), .string r.k, .string r.v, .string r.o] else .agg #[.int .i64 (c.1 : Nat), .int .i64 c.2, .int .i64 0, .int .i64 0, .int .i64 0, .string ⟨#[]⟩, .string ⟨#[]⟩, .string ⟨#[]⟩]

theorem infoCAns : (Tryz.prog.info? 47).map (·.size) = some 8 := by kernel_rfl

theorem decodeCall_body (a : Option Addr) (len c : Nat) (l : List Int) (w : World) (A : Nat → Addr) (B : Nat) (hs : Sents w A B) (hv : Bs w (.slice a len c) l) (hc : len ≤ c) :
    Calls Tryz.prog 39 #[.slice a len c, .int .i64 7, .int .i64 7] w fun e w' =>
      e = .returned (if (callC l).1 = 0 then .tuple #[.iface 66 (cmdV (rdCmd (some (l.drop 9)))), .nilIface] else .tuple #[.nilIface, refV (A (callC l).1) (callC l).2]) ∧ Below w.heap.size w w' := by
  refine (decodeBody_call a len c l 7 7 w A B hs hv hc (rdCmd (some (l.drop 9))).left (callF (rdCmd (some (l.drop 9))).cl (rdCmd (some (l.drop 9))).sq (rdCmd (some (l.drop 9))).op (rdCmd (some (l.drop 9))).k.size (rdCmd (some (l.drop 9))).v.size (rdCmd (some (l.drop 9))).o.size)
    (fun _ _ X => X = cmdV (rdCmd (some (l.drop 9)))) (fun _ _ _ _ h _ => h) ?_ ?_).mono ?_
  · intro b w D hs hr hin
    have e8 : l[8]?.getD 0 = 7 := by have := (inB_iff _ _ _).1 hin; omega
    rw [e8]
    exact (readBody_call b w A B D _ hs hr).mono fun e w' ⟨h1, h2, h3⟩ => ⟨_, h1, rfl, h2, h3⟩
  · rintro b w X rfl
    exact callBody_fault_any _ _ _ _ _ _ (Nat.le_trans (rdCmd_k _) (by decide)) (Nat.le_trans (rdCmd_v _) (by decide)) (Nat.le_trans (rdCmd_o _) (by decide)) w
  · rintro e w' ⟨h0, h1, hb⟩
    refine ⟨?_, hb⟩
    by_cases h : (callC l).1 = 0
    · obtain ⟨_, X, _, rfl, rfl⟩ := h0 h
      rw [if_pos h]
    · rw [if_neg h]
      exact h1 h

set_option maxHeartbeats 4000000 in
set_option maxRecDepth 100000 in
theorem implDecCall_any (a : Option Addr) (len c : Nat) (l : List Int) (w : World) (A : Nat → Addr) (B : Nat) (hs : Sents w A B) (hv : Bs w (.slice a len c) l) (hc : len ≤ c) :
    Calls Tryz.prog 18 #[.slice a len c] w fun e w' => e = .returned (callAns (callC l) (rdCmd (some (l.drop 9)))) ∧ Below w.heap.size w w' := by
  have HD : Hid (∀ w', Below w.heap.size w w' → Calls Tryz.prog 39 #[.slice a len c, .int .i64 7, .int .i64 7] w' fun e w'' =>
      e = .returned (if (callC l).1 = 0 then .tuple #[.iface 66 (cmdV (rdCmd (some (l.drop 9)))), .nilIface] else .tuple #[.nilIface, refV (A (callC l).1) (callC l).2]) ∧ Below w'.heap.size w' w'') :=
    fun w' hb => decodeCall_body a len c l w' A B (hs.below hb) (hv.below hb) hc
  have h6 := decC_le l 7 7 (rdCmd (some (l.drop 9))).left (callF (rdCmd (some (l.drop 9))).cl (rdCmd (some (l.drop 9))).sq (rdCmd (some (l.drop 9))).op (rdCmd (some (l.drop 9))).k.size (rdCmd (some (l.drop 9))).v.size (rdCmd (some (l.drop 9))).o.size)
  change (callC l).1 ≤ 6 at h6
  clear hv
  unfold callAns
  generalize (rdCmd (some (l.drop 9))) = r at *
  generalize callC l = C at *
  by_cases h0 : C.1 = 0
  · rw [if_pos h0] at HD ⊢
    go_enter Tryz.func18, Tryz.ntmps18
    go_wp2_with (first
      | (go_at_call 39; refine (HD.out _ (Below.alloc (Below.refl _ _) (Nat.le_refl _) _)).mono ?_; rintro e w1 ⟨rfl, hb1⟩; have hB1 : Below w.heap.size w w1 := ((Below.refl _ _).alloc (Nat.le_refl _) _).trans (hb1.mono (by simp)); have hz1 : w.heap.size < w1.heap.size := (by have := hb1.size; simp at this; omega))
      | (go_at_call 38; refine (answerOf_call r _ A B (hs.below hB1)).mono ?_; rintro e w2 ⟨rfl, hb2⟩; have hz2 : w.heap.size < w2.heap.size := Nat.lt_of_lt_of_le hz1 hb2.size; have hB2 := hB1.trans (hb2.mono (Nat.le_of_lt hz1)); have hth := there_new (hb1.trans (hb2.mono hb1.size)) hz2 (.cells #[.int .i64 0, .int .i64 0, .int .i64 0, .int .i64 0, .int .i64 0, .int .i64 0, .int .i64 0, .int .i64 0, .int .i64 0, .int .i64 0, .int .i64 0, .slice none 0 0, .int .i64 (r.cl : Nat), .int .i64 (r.sq : Nat), .int .i64 (r.op : Nat), .string r.k, .string r.v, .string r.o, .int .i64 0, .int .i64 0, .int .i64 0, .int .i64 0, .string ⟨#[]⟩, .int .i64 0] 75); have hra := range_new w2 [.int .i64 0, .int .i64 0, .int .i64 0, .int .i64 0, .int .i64 0, .int .i64 0, .int .i64 0, .int .i64 0, .int .i64 0, .int .i64 0, .int .i64 0, .slice none 0 0, .int .i64 (r.cl : Nat), .int .i64 (r.sq : Nat), .int .i64 (r.op : Nat), .string r.k, .string r.v, .string r.o, .int .i64 0, .int .i64 0, .int .i64 0, .int .i64 0, .string ⟨#[]⟩, .int .i64 0] 75)
      | (refine gate_store 75 (.tmp 3) (.tmp 8) rfl ?_; refine wpl_store_new rfl 75 (.tmp 3) (.tmp 8) rfl #[.int .i64 0, .int .i64 0, .int .i64 0, .int .i64 0, .int .i64 0, .int .i64 0, .int .i64 0, .int .i64 0, .int .i64 0, .int .i64 0, .int .i64 0, .slice none 0 0, .int .i64 0, .int .i64 0, .int .i64 0, .string ⟨#[]⟩, .string ⟨#[]⟩, .string ⟨#[]⟩, .int .i64 0, .int .i64 0, .int .i64 0, .int .i64 0, .string ⟨#[]⟩, .int .i64 0] #[.int .i64 0, .int .i64 0, .int .i64 0, .int .i64 0, .int .i64 0, .int .i64 0, .int .i64 0, .int .i64 0, .int .i64 0, .int .i64 0, .int .i64 0, .slice none 0 0, .int .i64 (r.cl : Nat), .int .i64 (r.sq : Nat), .int .i64 (r.op : Nat), .string r.k, .string r.v, .string r.o, .int .i64 0, .int .i64 0, .int .i64 0, .int .i64 0, .string ⟨#[]⟩, .int .i64 0] rfl rfl infoAns rfl (by simp [Value.oneCell']) ?_)
      | (refine gate_load 33 (.tmp 13) rfl ?_; refine wpList_load_mid rfl 33 (.tmp 13) rfl w2.heap.size 12 rfl [.int .i64 (r.cl : Nat), .int .i64 (r.sq : Nat), .int .i64 (r.op : Nat), .string r.k, .string r.v, .string r.o] _ ((range_app (xs := [.int .i64 (r.cl : Nat), .int .i64 (r.sq : Nat), .int .i64 (r.op : Nat), .string r.k, .string r.v, .string r.o]) (ys := [.int .i64 0, .int .i64 0, .int .i64 0, .int .i64 0, .string ⟨#[]⟩, .int .i64 0])).1 ((range_app (xs := [.int .i64 0, .int .i64 0, .int .i64 0, .int .i64 0, .int .i64 0, .int .i64 0, .int .i64 0, .int .i64 0, .int .i64 0, .int .i64 0, .int .i64 0, .slice none 0 0]) (ys := [.int .i64 (r.cl : Nat), .int .i64 (r.sq : Nat), .int .i64 (r.op : Nat), .string r.k, .string r.v, .string r.o, .int .i64 0, .int .i64 0, .int .i64 0, .int .i64 0, .string ⟨#[]⟩, .int .i64 0])).1 hra).2).1 Tryz.underlying33 rfl infoCmd ?_)
      | (refine gate_store 47 (.tmp 2) (.tmp 15) rfl ?_; refine wpList_store_mid rfl 47 (.tmp 2) (.tmp 15) rfl w.heap.size 0 #[.int .i64 0, .int .i64 0, .int .i64 (r.cl : Nat), .int .i64 (r.sq : Nat), .int .i64 (r.op : Nat), .string r.k, .string r.v, .string r.o] rfl rfl hth infoCAns (by simp [Value.oneCell']) ?_; have hra4 := World.rangeAt_setCells_same _ w.heap.size 0 [.int .i64 0, .int .i64 0, .int .i64 (r.cl : Nat), .int .i64 (r.sq : Nat), .int .i64 (r.op : Nat), .string r.k, .string r.v, .string r.o] hth; have hld := run_loadVar_mid (P := Tryz.prog) _ w.heap.size 0 47 _ _ hra4 Tryz.underlying47 rfl infoCAns; have hB4 := below_setCells (Nat.le_refl _) [.int .i64 0, .int .i64 0, .int .i64 (r.cl : Nat), .int .i64 (r.sq : Nat), .int .i64 (r.op : Nat), .string r.k, .string r.v, .string r.o] 0 _ (hB2.alloc (Nat.le_of_lt hz2) (.cells #[.int .i64 0, .int .i64 0, .int .i64 0, .int .i64 0, .int .i64 0, .int .i64 0, .int .i64 0, .int .i64 0, .int .i64 0, .int .i64 0, .int .i64 0, .slice none 0 0, .int .i64 (r.cl : Nat), .int .i64 (r.sq : Nat), .int .i64 (r.op : Nat), .string r.k, .string r.v, .string r.o, .int .i64 0, .int .i64 0, .int .i64 0, .int .i64 0, .string ⟨#[]⟩, .int .i64 0] 75)); clear hra4 hth hra; generalize (World.setCells _ w.heap.size 0 _) = W4 at hld hB4 ⊢))
    refine bodyPost_ret (v := .agg #[.int .i64 0, .int .i64 0, .int .i64 (r.cl : Nat), .int .i64 (r.sq : Nat), .int .i64 (r.op : Nat), .string r.k, .string r.v, .string r.o]) ?_ rfl ⟨rfl, hB4⟩
    exact results_cell Tryz.results18 rfl hld
  · rw [if_neg h0] at HD ⊢
    obtain ⟨ci, cf⟩ := C
    simp only at HD h6 h0 ⊢
    go_enter Tryz.func18, Tryz.ntmps18
    go_wp2_with (first
      | (go_at_call 39; refine (HD.out _ (Below.alloc (Below.refl _ _) (Nat.le_refl _) _)).mono ?_; rintro e w1 ⟨rfl, hb1⟩; have hB1 : Below w.heap.size w w1 := ((Below.refl _ _).alloc (Nat.le_refl _) _).trans (hb1.mono (by simp)); have hz1 : w.heap.size < w1.heap.size := (by have := hb1.size; simp at this; omega))
      | (go_at_call 38; refine (answerOf_err ci cf _ A B (hs.below hB1) (by omega) h6).mono ?_; rintro e w2 ⟨rfl, hb2⟩; have hz2 : w.heap.size < w2.heap.size := Nat.lt_of_lt_of_le hz1 hb2.size; have hB2 := hB1.trans (hb2.mono (Nat.le_of_lt hz1)); have hth := there_new (hb1.trans (hb2.mono hb1.size)) hz2 (.cells #[.int .i64 (ci : Nat), .int .i64 cf, .int .i64 0, .int .i64 0, .int .i64 0, .int .i64 0, .int .i64 0, .int .i64 0, .int .i64 0, .int .i64 0, .int .i64 0, .slice none 0 0, .int .i64 0, .int .i64 0, .int .i64 0, .string ⟨#[]⟩, .string ⟨#[]⟩, .string ⟨#[]⟩, .int .i64 0, .int .i64 0, .int .i64 0, .int .i64 0, .string ⟨#[]⟩, .int .i64 0] 75); have hra := range_new w2 [.int .i64 (ci : Nat), .int .i64 cf, .int .i64 0, .int .i64 0, .int .i64 0, .int .i64 0, .int .i64 0, .int .i64 0, .int .i64 0, .int .i64 0, .int .i64 0, .slice none 0 0, .int .i64 0, .int .i64 0, .int .i64 0, .string ⟨#[]⟩, .string ⟨#[]⟩, .string ⟨#[]⟩, .int .i64 0, .int .i64 0, .int .i64 0, .int .i64 0, .string ⟨#[]⟩, .int .i64 0] 75)
      | (refine gate_store 75 (.tmp 3) (.tmp 8) rfl ?_; refine wpl_store_new rfl 75 (.tmp 3) (.tmp 8) rfl #[.int .i64 0, .int .i64 0, .int .i64 0, .int .i64 0, .int .i64 0, .int .i64 0, .int .i64 0, .int .i64 0, .int .i64 0, .int .i64 0, .int .i64 0, .slice none 0 0, .int .i64 0, .int .i64 0, .int .i64 0, .string ⟨#[]⟩, .string ⟨#[]⟩, .string ⟨#[]⟩, .int .i64 0, .int .i64 0, .int .i64 0, .int .i64 0, .string ⟨#[]⟩, .int .i64 0] #[.int .i64 (ci : Nat), .int .i64 cf, .int .i64 0, .int .i64 0, .int .i64 0, .int .i64 0, .int .i64 0, .int .i64 0, .int .i64 0, .int .i64 0, .int .i64 0, .slice none 0 0, .int .i64 0, .int .i64 0, .int .i64 0, .string ⟨#[]⟩, .string ⟨#[]⟩, .string ⟨#[]⟩, .int .i64 0, .int .i64 0, .int .i64 0, .int .i64 0, .string ⟨#[]⟩, .int .i64 0] rfl rfl infoAns rfl (by simp [Value.oneCell']) ?_)
      | (refine gate_load 33 (.tmp 13) rfl ?_; refine wpList_load_mid rfl 33 (.tmp 13) rfl w2.heap.size 12 rfl [.int .i64 0, .int .i64 0, .int .i64 0, .string ⟨#[]⟩, .string ⟨#[]⟩, .string ⟨#[]⟩] _ ((range_app (xs := [.int .i64 0, .int .i64 0, .int .i64 0, .string ⟨#[]⟩, .string ⟨#[]⟩, .string ⟨#[]⟩]) (ys := [.int .i64 0, .int .i64 0, .int .i64 0, .int .i64 0, .string ⟨#[]⟩, .int .i64 0])).1 ((range_app (xs := [.int .i64 (ci : Nat), .int .i64 cf, .int .i64 0, .int .i64 0, .int .i64 0, .int .i64 0, .int .i64 0, .int .i64 0, .int .i64 0, .int .i64 0, .int .i64 0, .slice none 0 0]) (ys := [.int .i64 0, .int .i64 0, .int .i64 0, .string ⟨#[]⟩, .string ⟨#[]⟩, .string ⟨#[]⟩, .int .i64 0, .int .i64 0, .int .i64 0, .int .i64 0, .string ⟨#[]⟩, .int .i64 0])).1 hra).2).1 Tryz.underlying33 rfl infoCmd ?_)
      | (refine gate_store 47 (.tmp 2) (.tmp 15) rfl ?_; refine wpList_store_mid rfl 47 (.tmp 2) (.tmp 15) rfl w.heap.size 0 #[.int .i64 (ci : Nat), .int .i64 cf, .int .i64 0, .int .i64 0, .int .i64 0, .string ⟨#[]⟩, .string ⟨#[]⟩, .string ⟨#[]⟩] rfl rfl hth infoCAns (by simp [Value.oneCell']) ?_; have hra4 := World.rangeAt_setCells_same _ w.heap.size 0 [.int .i64 (ci : Nat), .int .i64 cf, .int .i64 0, .int .i64 0, .int .i64 0, .string ⟨#[]⟩, .string ⟨#[]⟩, .string ⟨#[]⟩] hth; have hld := run_loadVar_mid (P := Tryz.prog) _ w.heap.size 0 47 _ _ hra4 Tryz.underlying47 rfl infoCAns; have hB4 := below_setCells (Nat.le_refl _) [.int .i64 (ci : Nat), .int .i64 cf, .int .i64 0, .int .i64 0, .int .i64 0, .string ⟨#[]⟩, .string ⟨#[]⟩, .string ⟨#[]⟩] 0 _ (hB2.alloc (Nat.le_of_lt hz2) (.cells #[.int .i64 (ci : Nat), .int .i64 cf, .int .i64 0, .int .i64 0, .int .i64 0, .int .i64 0, .int .i64 0, .int .i64 0, .int .i64 0, .int .i64 0, .int .i64 0, .slice none 0 0, .int .i64 0, .int .i64 0, .int .i64 0, .string ⟨#[]⟩, .string ⟨#[]⟩, .string ⟨#[]⟩, .int .i64 0, .int .i64 0, .int .i64 0, .int .i64 0, .string ⟨#[]⟩, .int .i64 0] 75)); clear hra4 hth hra; generalize (World.setCells _ w.heap.size 0 _) = W4 at hld hB4 ⊢))
    refine bodyPost_ret (v := .agg #[.int .i64 (ci : Nat), .int .i64 cf, .int .i64 0, .int .i64 0, .int .i64 0, .string ⟨#[]⟩, .string ⟨#[]⟩, .string ⟨#[]⟩]) ?_ rfl ⟨rfl, hB4⟩
    exact results_cell Tryz.results18 rfl hld
end Go.Proofs.YtafmjckpbcijoaaGreatDoor

/-
  impl.decodeBody at a body of one kind.
-/
namespace Go.Proofs.YtafmjckpbcijoaaGreatDoor
open Go.RowKit
set_option linter.unusedVariables false
set_option linter.unusedSimpArgs false

theorem methF_msg (X : Value) (w : World) : (method 300 63 X "loop.example/s01586/impl.fault").run Tryz.prog w = .ok (114, X) w := by kernel_rfl

set_option maxHeartbeats 4000000 in
set_option maxRecDepth 100000 in
theorem decodeBody_msg (a : Option Addr) (len c : Nat) (l : List Int) (lo hi : Int) (w : World) (A : Nat → Addr) (B : Nat) (hs : Sents w A B) (hv : Bs w (.slice a len c) l) (hc : len ≤ c)
    (left : RSt) (f : Int) (P : Nat → World → Value → Prop)
    (hP : ∀ b w w' X, P b w X → w.grownBy w' (some b) → P b w' X)
    (hRead : ∀ b w D, Sents w A B → Rd w b A B D (some (l.drop 9)) → inB (l[8]?.getD 0) lo hi = true → Calls Tryz.prog 63 #[.int .i64 (l[8]?.getD 0), .pointer (some ⟨b, 0, none⟩)] w fun e w' => ∃ X, e = .returned (.iface 63 X) ∧ P b w' X ∧ Rd w' b A B D left ∧ w.grownBy w' (some b))
    (hFault : ∀ b w X, P b w X → Calls Tryz.prog 114 #[X] w fun e w' => e = .returned (.int .i64 f) ∧ Below w.heap.size w w') :
    Calls Tryz.prog 39 #[.slice a len c, .int .i64 lo, .int .i64 hi] w fun e w' =>
      ((decC l lo hi left f).1 = 0 → ∃ b X, w.heap.size ≤ b ∧ P b w' X ∧ e = .returned (.tuple #[.iface 63 X, .nilIface])) ∧
      ((decC l lo hi left f).1 ≠ 0 → e = .returned (.tuple #[.nilIface, refV (A (decC l lo hi left f).1) (decC l lo hi left f).2])) ∧ Below w.heap.size w w' := by
  have HO : Hid _ := openFrame_any a len c l w A B hs hv hc w.heap.size hv.lt
  have hd := fun h => (hv.drop hc hv.lt 8 h)
  have HR : ∀ b w D, Sents w A B → Rd w b A B D (some (l.drop 9)) → inB (l[8]?.getD 0) lo hi = true → Hid (Calls Tryz.prog 63 #[.int .i64 (l[8]?.getD 0), .pointer (some ⟨b, 0, none⟩)] w fun e w' => ∃ X, e = .returned (.iface 63 X) ∧ P b w' X ∧ Rd w' b A B D left ∧ w.grownBy w' (some b)) := hRead
  have HF : ∀ b w X, P b w X → Hid (Calls Tryz.prog 114 #[X] w fun e w' => e = .returned (.int .i64 f) ∧ Below w.heap.size w w') := hFault
  clear hRead hFault
  have el : len = l.length := by obtain ⟨_, _, _, _, e, _⟩ := hv; injection e
  subst el
  by_cases h1 : sumC l = 0
  · have hlen := sumC_len h1
    rw [if_pos h1] at HO
    obtain ⟨d1, a2, n2, c2, e2, hc2, _⟩ := hd (by omega)
    rw [e2] at d1 HO
    have HV : Hid (Bs w (.slice a2 n2 c2) (l.drop 8)) := d1
    have en : n2 = l.length - 8 := by
      obtain ⟨_, _, _, _, e, _⟩ := d1
      injection e with _ e _
      rw [e, List.length_drop]
    obtain ⟨hm, h8, a', c', e, hcell⟩ := d1
    injection e with e1' e2' e3'
    subst e1' e3'
    obtain ⟨b2, o2, rfl, hj⟩ := hcell 0 (by rw [List.length_drop]; omega)
    have k0 := hj 0 (by rw [List.length_drop]; omega)
    have hk8 : (l.drop 8)[0]?.getD 0 = l[8]?.getD 0 := by simp
    rw [hk8, Nat.add_zero] at k0
    have hkb := byte_at h8 0
    rw [hk8] at hkb
    clear hj hcell hd e2
    have hop : openC l lo hi = if inB (l[8]?.getD 0) lo hi = false then 4 else 0 := by simp [openC, h1]
    have HD : Hid (decC l lo hi left f = if openC l lo hi ≠ 0 then (openC l lo hi, 0) else if left ≠ some [] then (5, 0) else if f ≠ 0 then (6, f) else (0, 0)) := rfl
    generalize decC l lo hi left f = R at HD
    generalize l[8]?.getD 0 = K at *
    by_cases h4 : inB K lo hi = true
    · have hn1 : 1 ≤ n2 := by rw [en]; omega
      have hd9 := HV.out.drop hc2 HV.out.lt 1 (by rw [List.length_drop]; omega)
      rw [List.drop_drop] at hd9
      obtain ⟨a3, n3, c3, e3, hc3, hD3⟩ := hd9.2
      have t1 : ∀ wx, (Instr.slice 22 (.slice (some ⟨b2, o2, none⟩) n2 c2) (some (.int .i64 1)) none none).run Tryz.prog wx = .ok (sliced (some ⟨b2, o2, none⟩) 1 n2 c2 1) wx := slice_l _ n2 c2 1 hn1
      rw [e3] at t1 hd9
      have HB9 : Hid (Bs w (.slice a3 n3 c3) (l.drop 9)) := hd9.1
      clear e3 hd9
      have HRd : ∀ w1, Below w.heap.size w w1 → Sents (w1.alloc (.cells #[.slice a3 n3 c3, .nilIface] 105)) A B ∧ Rd (w1.alloc (.cells #[.slice a3 n3 c3, .nilIface] 105)) w1.heap.size A B (w1.heap.size + 1) (some (l.drop 9)) := fun w1 hb => by
        have hs1 := hs.below hb
        refine ⟨hs1.below ((Below.refl _ _).alloc (Nat.le_refl _) _), hs1.le, by omega, by simp, by simp, ⟨.slice a3 n3 c3, by simp, (HB9.out.below hb).below ((Below.refl _ _).alloc (Nat.le_refl _) _), ⟨_, _, _, rfl, hc3, fun hp => ?_⟩⟩, by simp⟩
        obtain ⟨x, rfl, hx⟩ := hD3 hp
        exact ⟨x, rfl, by have := hb.size; omega⟩
      clear en e2'
      have hop0 : openC l lo hi = 0 := by rw [hop, h4]; rfl
      rw [hop0] at HD
      have HE : ∀ b w D, Sents w A B → Rd w b A B D left → Hid (Calls Tryz.prog 64 #[.pointer (some ⟨b, 0, none⟩)] w fun e w' => e = .returned (endV A left) ∧ w.grownBy w' (some b)) := fun b w D hs h => end_any b w A B D left hs h
      by_cases hl : left = some []
      · have hev : endV A left = .nilIface := by rw [endV, if_pos hl]
        rw [hev] at HE
        by_cases hf : f = 0
        · have hR : R = (0, 0) := by rw [HD.out]; simp [hl, hf]
          subst hR
          subst hf
          have hM := methF_msg
          go_enter Tryz.func39, Tryz.ntmps39
          go_wp2_with (first
            | (go_at_call 62; refine Calls.mono HO.out ?_; rintro e w1 ⟨rfl, hb⟩; have k1 := (hb.cell (p := ⟨b2, o2, none⟩) (cell_lt k0)).trans k0)
            | (go_at_call 52; refine (within_any _ _ _ _).mono ?_; rw [h4]; rintro e w2 ⟨rfl, rfl⟩)
            | (go_at_call 63; refine Calls.mono (HR _ _ _ (HRd _ hb).1 (HRd _ hb).2 h4).out ?_; rintro e w3 ⟨X, rfl, hX, hrd, hg⟩; have hB3 : Below w.heap.size w w3 := (hb.trans ((Below.refl _ _).alloc hb.size _)).trans (grown_below hg hb.size (by have := hb.size; simp; omega)); have hs3 := hs.below hB3)
            | (go_at_call 64; refine Calls.mono (HE _ _ _ hs3 hrd).out ?_; rintro e w4 ⟨rfl, hg4⟩; have hB4 := hB3.trans (grown_below hg4 hb.size hB3.size); have hX4 := hP _ _ _ _ hX hg4)
            | (go_at_call 114; refine Calls.mono (HF _ _ _ hX4).out ?_; rintro e w5 ⟨rfl, hb5⟩; have hB5 := hB4.trans (hb5.mono hB4.size); have hX5 := hP _ _ _ _ hX4 (grown_of_below hb5 _); have g6 := (hs.below hB5).g6))
          go_ret2
          exact ⟨fun _ => ⟨_, X, hb.size, hX5, rfl⟩, fun h => absurd rfl h, hB5⟩
        · have hR : R = (6, f) := by rw [HD.out]; simp [hl, hf]
          subst hR
          have nf : (f != 0) = true := by simpa using hf
          have hM := methF_msg
          go_enter Tryz.func39, Tryz.ntmps39
          go_wp2_with (first
            | (go_at_call 62; refine Calls.mono HO.out ?_; rintro e w1 ⟨rfl, hb⟩; have k1 := (hb.cell (p := ⟨b2, o2, none⟩) (cell_lt k0)).trans k0)
            | (go_at_call 52; refine (within_any _ _ _ _).mono ?_; rw [h4]; rintro e w2 ⟨rfl, rfl⟩)
            | (go_at_call 63; refine Calls.mono (HR _ _ _ (HRd _ hb).1 (HRd _ hb).2 h4).out ?_; rintro e w3 ⟨X, rfl, hX, hrd, hg⟩; have hB3 : Below w.heap.size w w3 := (hb.trans ((Below.refl _ _).alloc hb.size _)).trans (grown_below hg hb.size (by have := hb.size; simp; omega)); have hs3 := hs.below hB3)
            | (go_at_call 64; refine Calls.mono (HE _ _ _ hs3 hrd).out ?_; rintro e w4 ⟨rfl, hg4⟩; have hB4 := hB3.trans (grown_below hg4 hb.size hB3.size); have hX4 := hP _ _ _ _ hX hg4)
            | (go_at_call 114; refine Calls.mono (HF _ _ _ hX4).out ?_; rintro e w5 ⟨rfl, hb5⟩; have hB5 := hB4.trans (hb5.mono hB4.size); have hX5 := hP _ _ _ _ hX4 (grown_of_below hb5 _); have g6 := (hs.below hB5).g6))
          go_quiet (fail)
          go_wp2
          go_ret2
          exact ⟨fun h => absurd h (by decide), fun _ => rfl, ⟨hB5.os, hB5.tape, hB5.output, hB5.size, hB5.block⟩⟩
      · have hev : endV A left = refV (A 5) 0 := by rw [endV, if_neg hl]
        rw [hev] at HE
        have hR : R = (5, 0) := by rw [HD.out]; simp [hl]
        subst hR
        go_enter Tryz.func39, Tryz.ntmps39
        go_wp2_with (first
          | (go_at_call 62; refine Calls.mono HO.out ?_; rintro e w1 ⟨rfl, hb⟩; have k1 := (hb.cell (p := ⟨b2, o2, none⟩) (cell_lt k0)).trans k0)
          | (go_at_call 52; refine (within_any _ _ _ _).mono ?_; rw [h4]; rintro e w2 ⟨rfl, rfl⟩)
          | (go_at_call 63; refine Calls.mono (HR _ _ _ (HRd _ hb).1 (HRd _ hb).2 h4).out ?_; rintro e w3 ⟨X, rfl, hX, hrd, hg⟩; have hB3 : Below w.heap.size w w3 := (hb.trans ((Below.refl _ _).alloc hb.size _)).trans (grown_below hg hb.size (by have := hb.size; simp; omega)); have hs3 := hs.below hB3)
          | (go_at_call 64; refine Calls.mono (HE _ _ _ hs3 hrd).out ?_; rintro e w4 ⟨rfl, hg4⟩; have hB4 := hB3.trans (grown_below hg4 hb.size hB3.size)))
        go_ret2
        exact ⟨fun h => absurd h (by decide), fun _ => rfl, hB4⟩
    · have h4' : inB K lo hi = false := by simpa using h4
      have hR : R = (4, 0) := by rw [HD.out, hop, h4']; rfl
      subst hR
      have g4 := hs.g4
      go_enter Tryz.func39, Tryz.ntmps39
      go_wp2_with (first
        | (go_at_call 62; refine Calls.mono HO.out ?_; rintro e w1 ⟨rfl, hb⟩; have k1 := (hb.cell (p := ⟨b2, o2, none⟩) (cell_lt k0)).trans k0; have g4' := (hs.below hb).g4)
        | (go_at_call 52; refine (within_any _ _ _ _).mono ?_; rw [h4']; rintro e w2 ⟨rfl, rfl⟩))
      go_quiet (fail)
      go_wp2
      go_ret2
      exact ⟨fun h => absurd h (by decide), fun _ => rfl, ⟨hb.os, hb.tape, hb.output, hb.size, hb.block⟩⟩
  · have hop : openC l lo hi = sumC l := by simp [openC, h1]
    have hR : decC l lo hi left f = (sumC l, 0) := by rw [decC, hop, if_pos h1]
    rw [hR]
    rw [if_neg h1] at HO
    go_enter Tryz.func39, Tryz.ntmps39
    go_wp2_with (go_at_call 62; refine Calls.mono HO.out ?_; rintro e w1 ⟨rfl, hb⟩)
    go_ret2
    exact ⟨fun h => absurd h h1, fun _ => rfl, hb⟩
end Go.Proofs.YtafmjckpbcijoaaGreatDoor

/-
  Slices of entries: what a slice value holds.
-/
namespace Go.Proofs.YtafmjckpbcijoaaGreatDoor
open Go.RowKit
set_option linter.unusedVariables false

/-- an entry -/
structure Ent where
  t : Int
  cl : Int
  sq : Int
  op : Int
  k : ByteArray
  v : ByteArray
  o : ByteArray

def Ent.fits (e : Ent) : Prop := e.k.size ≤ maxLen ∧ e.v.size ≤ maxLen ∧ e.o.size ≤ maxLen

/-- the seven cells of an entry -/
def EntAt (w : World) (b off : Nat) (e : Ent) : Prop :=
  w.cell? ⟨b, off, none⟩ = some (.int .i64 e.t) ∧ w.cell? ⟨b, off + 1, none⟩ = some (.int .i64 e.cl) ∧ w.cell? ⟨b, off + 2, none⟩ = some (.int .i64 e.sq) ∧ w.cell? ⟨b, off + 3, none⟩ = some (.int .i64 e.op) ∧
  w.cell? ⟨b, off + 4, none⟩ = some (.string e.k) ∧ w.cell? ⟨b, off + 5, none⟩ = some (.string e.v) ∧ w.cell? ⟨b, off + 6, none⟩ = some (.string e.o)

theorem EntAt.below {w w' : World} {b off : Nat} {e : Ent} (h : EntAt w b off e) (hb : Below w.heap.size w w') : EntAt w' b off e := by
  obtain ⟨h0, h1, h2, h3, h4, h5, h6⟩ := h
  have hl := cell_lt h0
  exact ⟨(hb.cell hl).trans h0, (hb.cell hl).trans h1, (hb.cell hl).trans h2, (hb.cell hl).trans h3, (hb.cell hl).trans h4, (hb.cell hl).trans h5, (hb.cell hl).trans h6⟩

/-- the slice value v holds, in the world w, the entries l -/
def Es (w : World) (v : Value) (l : List Ent) : Prop :=
  l.length ≤ maxLen ∧ (∀ e ∈ l, e.fits) ∧
  ∃ a cap, v = .slice a l.length cap ∧ ∀ i, i < l.length → ∃ b off, a = some ⟨b, off, none⟩ ∧ ∀ j (h : j < l.length), EntAt w b (off + j * 7) l[j]

theorem Es.below {w w' : World} {v : Value} {l : List Ent} (h : Es w v l) (hb : Below w.heap.size w w') : Es w' v l := by
  obtain ⟨hl, hf, a, cap, rfl, hc⟩ := h
  refine ⟨hl, hf, a, cap, rfl, fun i hi => ?_⟩
  obtain ⟨b, off, rfl, hj⟩ := hc i hi
  exact ⟨b, off, rfl, fun j hj' => (hj j hj').below hb⟩

theorem Es.block {w w' : World} {g n cap : Nat} {l : List Ent} (h : Es w (.slice (some ⟨g, 0, none⟩) n cap) l) (hb : w'.heap[g]? = w.heap[g]?) : Es w' (.slice (some ⟨g, 0, none⟩) n cap) l := by
  obtain ⟨hl, hf, a, cap', e, hc⟩ := h
  refine ⟨hl, hf, a, cap', e, fun i hi => ?_⟩
  obtain ⟨b, off, rfl, hj⟩ := hc i hi
  simp only [Value.slice.injEq, Option.some.injEq, Addr.mk.injEq, and_true] at e
  obtain ⟨⟨rfl, rfl⟩, _⟩ := e
  have hcc : ∀ o, w'.cell? ⟨g, o, none⟩ = w.cell? ⟨g, o, none⟩ := fun o => World.cell?_of_block (w := w) hb
  refine ⟨g, 0, rfl, fun j hj' => ?_⟩
  obtain ⟨h0, h1, h2, h3, h4, h5, h6⟩ := hj j hj'
  exact ⟨(hcc _).trans h0, (hcc _).trans h1, (hcc _).trans h2, (hcc _).trans h3, (hcc _).trans h4, (hcc _).trans h5, (hcc _).trans h6⟩
end Go.Proofs.YtafmjckpbcijoaaGreatDoor

/-
  Slices of entries that the call itself owns; append to them.
-/
namespace Go.Proofs.YtafmjckpbcijoaaGreatDoor
open Go.RowKit
set_option linter.unusedVariables false

theorem infoEnt : (Tryz.prog.info? 87).map (fun i => (i.zero, i.size, i.bytes)) = some (some (.agg #[.int .i64 0, .int .i64 0, .int .i64 0, .int .i64 0, .string ⟨#[]⟩, .string ⟨#[]⟩, .string ⟨#[]⟩]), 7, 80) := by kernel_rfl

def Ent.cells (e : Ent) : List Value := [.int .i64 e.t, .int .i64 e.cl, .int .i64 e.sq, .int .i64 e.op, .string e.k, .string e.v, .string e.o]
def entCells : List Ent → List Value
  | [] => []
  | e :: l => e.cells ++ entCells l
theorem entCells_app (l k : List Ent) : entCells (l ++ k) = entCells l ++ entCells k := by
  induction l with
  | nil => rfl
  | cons e l ih => rw [List.cons_append, entCells, ih, entCells, List.append_assoc]
theorem entCells_len (l : List Ent) : (entCells l).length = l.length * 7 := by
  induction l with
  | nil => rfl
  | cons e l ih => rw [entCells, List.length_append, ih, List.length_cons]; simp [Ent.cells]; omega
theorem entCells_get (l : List Ent) : ∀ (j : Nat) (h : j < l.length) (i : Nat), i < 7 → (entCells l)[j * 7 + i]? = l[j].cells[i]? := by
  induction l with
  | nil => intro j h; simp at h
  | cons e l ih =>
    intro j h i hi
    have h7 : e.cells.length = 7 := rfl
    cases j with
    | zero => rw [entCells, List.getElem?_append_left (by rw [h7]; omega)]; simp
    | succ j =>
      rw [entCells, List.getElem?_append_right (by rw [h7]; omega), h7, show (j + 1) * 7 + i - 7 = j * 7 + i by omega, ih j (by simpa using h) i hi]
      simp

/-- the slice value v, in memory from block B on that is the call's own, holds the entries l -/
def OwnE (w : World) (B : Nat) (v : Value) (l : List Ent) : Prop :=
  (∀ e ∈ l, e.fits) ∧ w.ownsRow B 87 7 v l.length (entCells l)

theorem OwnE.nil (w : World) (B : Nat) : OwnE w B (.slice none 0 0) [] := ⟨by simp, World.ownsRow_nil w B _ 7⟩
theorem OwnE.made (w : World) (B : Nat) (hB : B ≤ w.heap.size) : OwnE (w.alloc (.cells #[] 87)) B (.slice (some ⟨w.heap.size, 0, none⟩) 0 0) [] :=
  ⟨by simp, World.ownsRow_made w #[] 0 hB (by decide) (by simp)⟩
theorem OwnE.shape {w : World} {B : Nat} {v : Value} {l : List Ent} (h : OwnE w B v l) : ∃ a cap, v = .slice a l.length cap := by
  rcases h.2.2 with ⟨rfl, h0⟩ | ⟨g, cap, cur, rfl, _⟩
  · exact ⟨none, 0, by rw [h0]⟩
  · exact ⟨_, _, rfl⟩
theorem OwnE.shape' {w : World} {B : Nat} {v : Value} {l : List Ent} (h : OwnE w B v l) (hl : 0 < l.length) : ∃ g cap, v = .slice (some ⟨g, 0, none⟩) l.length cap := by
  rcases h.2.2 with ⟨rfl, h0⟩ | ⟨g, cap, cur, rfl, _⟩
  · omega
  · exact ⟨_, _, rfl⟩
theorem OwnE.le {w : World} {B B' : Nat} {v : Value} {l : List Ent} (h : OwnE w B v l) (hb : B' ≤ B) : OwnE w B' v l := by
  refine ⟨h.1, h.2.1, ?_⟩
  rcases h.2.2 with h | ⟨g, cap, cur, hv, hg, r⟩
  · exact .inl h
  · exact .inr ⟨g, cap, cur, hv, Nat.le_trans hb hg, r⟩
theorem OwnE.block {w w' : World} {B : Nat} {v : Value} {l : List Ent} (h : OwnE w B v l) (hb : ∀ k, v.ownBlock = some k → w'.heap[k]? = w.heap[k]?) : OwnE w' B v l := by
  refine ⟨h.1, h.2.1, ?_⟩
  rcases h.2.2 with h | ⟨g, cap, cur, hv, hg, hh, r⟩
  · exact .inl h
  · subst hv
    exact .inr ⟨g, cap, cur, rfl, hg, (hb g rfl).trans hh, r⟩
theorem OwnE.below {w w' : World} {B : Nat} {v : Value} {l : List Ent} (h : OwnE w B v l) (hb : Below w.heap.size w w') : OwnE w' B v l :=
  h.block fun k hk => hb.block k (h.2.lt k hk).2
/-- .. through a call that writes in one block that is older -/
theorem OwnE.grown {w w' : World} {B b : Nat} {v : Value} {l : List Ent} (h : OwnE w B v l) (hg : w.grownBy w' (some b)) (hb : b < B) : OwnE w' B v l :=
  h.block fun k hk => hg.block k (h.2.lt k hk).2 (by intro e; injection e with e; have := (h.2.lt k hk).1; omega)
theorem OwnE.es {w : World} {B : Nat} {v : Value} {l : List Ent} (h : OwnE w B v l) (hl : l.length ≤ maxLen) : Es w v l := by
  obtain ⟨a, cap, rfl⟩ := h.shape
  refine ⟨hl, h.1, a, cap, rfl, fun i hi => ?_⟩
  obtain ⟨g, cap', e⟩ := h.shape' (by omega)
  simp only [Value.slice.injEq] at e
  obtain ⟨rfl, _, rfl⟩ := e
  refine ⟨g, 0, rfl, fun j hj => ?_⟩
  have c : ∀ i, i < 7 → w.cell? ⟨g, j * 7 + i, none⟩ = l[j].cells[i]? := fun i hi => by
    rw [h.2.cellAt (j * 7 + i) (by omega)]
    exact entCells_get l j hj i hi
  rw [Nat.zero_add]
  exact ⟨c 0 (by omega), c 1 (by omega), c 2 (by omega), c 3 (by omega), c 4 (by omega), c 5 (by omega), c 6 (by omega)⟩

theorem growE {B : Nat} {w w' : World} {v v' : Value} {l : List Ent} (h : Grew w v w' v') (hown : OwnE w B v l) (hB : B ≤ w.heap.size) : Below B w w' :=
  (Below.refl _ _).grown h.g hB (fun k hk => (hown.2.lt k hk).1)

set_option maxRecDepth 100000 in
theorem wpl_appendE {w : World} {ops : Array Oper} {rest : List Oper} {o : Oper} {a : Act} {Q : Exit → Act → World → Prop} (hgd : o.guard = none) (s x : Operand)
    (ho : o.op = .call { callee := .builtin .append, args := #[s, x], argTypes := #[25, 25] })
    {B : Nat} {v : Value} {l : List Ent} (e : Ent) (hf : e.fits) (hown : OwnE w B v l) (hs : a.eval s = v) (b c : Nat) (hu : EntAt w b 0 e) (hx : a.eval x = .slice (some ⟨b, 0, none⟩) 1 c) (hlen : l.length ≤ 1000000) (hB : B ≤ w.heap.size)
    (h : ∀ v' w', OwnE w' B v' (l ++ [e]) → Grew w v w' v' → wpList Tryz.prog ops Q rest (a.put o.dst v') w') : wpList Tryz.prog ops Q (o :: rest) a w := by
  obtain ⟨i0, hi, hz0, hz1, hz2⟩ := info_parts infoEnt
  obtain ⟨u0, u1, u2, u3, u4, u5, u6⟩ := hu
  refine wpList_append_own_at w hgd s x 25 ho B 87 i0 _ 7 80 Tryz.underlying25 hi hz0 hz1 hz2 rfl (by decide) v l.length _ hs hown.2 ⟨b, 0, none⟩ 1 c e.cells hx rfl ?_ ?_ (by unfold maxLen; omega) (by omega) hB ?_
  · intro j u hj
    rw [cell_add, Nat.zero_add]
    have hj7 : j < 7 := (List.getElem?_eq_some_iff.1 hj).1
    rcases (show j = 0 ∨ j = 1 ∨ j = 2 ∨ j = 3 ∨ j = 4 ∨ j = 5 ∨ j = 6 by omega) with rfl | rfl | rfl | rfl | rfl | rfl | rfl
    · exact u0.trans hj
    · exact u1.trans hj
    · exact u2.trans hj
    · exact u3.trans hj
    · exact u4.trans hj
    · exact u5.trans hj
    · exact u6.trans hj
  · intro u hu
    simp only [Ent.cells, List.mem_cons, List.not_mem_nil, or_false] at hu
    rcases hu with rfl | rfl | rfl | rfl | rfl | rfl | rfl <;> rfl
  · intro v' w' h2 h3 _ h5
    refine h v' w' ⟨fun y hy => ?_, by rw [entCells_app]; simpa [entCells] using h2⟩ ⟨h3, h5.imp id fun e => ⟨_, e, Nat.le_refl _⟩⟩
    rcases List.mem_append.1 hy with hy | hy
    · exact hown.1 y hy
    · rw [List.mem_singleton.1 hy]; exact hf
end Go.Proofs.YtafmjckpbcijoaaGreatDoor

/-
  impl.reader: entry, entries.
-/
namespace Go.Proofs.YtafmjckpbcijoaaGreatDoor
open Go.RowKit
set_option linter.unusedVariables false
set_option linter.unusedSimpArgs false

def rdEnt (s : RSt) : Ent × RSt := (⟨(rdNum s).1, (rdCmd (rdNum s).2).cl, (rdCmd (rdNum s).2).sq, (rdCmd (rdNum s).2).op, (rdCmd (rdNum s).2).k, (rdCmd (rdNum s).2).v, (rdCmd (rdNum s).2).o⟩, (rdCmd (rdNum s).2).left)
/-- k entries, one behind another -/
def entsK (s : RSt) : Nat → List Ent × RSt
  | 0 => ([], s)
  | k + 1 => ((entsK s k).1 ++ [(rdEnt (entsK s k).2).1], (rdEnt (entsK s k).2).2)
/-- a number of entries, and they -/
def rdEnts (s : RSt) : List Ent × RSt := if 32 < (rdNum s).1 then ([], none) else entsK (rdNum s).2 (rdNum s).1

theorem rdEnt_fits (s : RSt) : (rdEnt s).1.fits :=
  ⟨Nat.le_trans (rdCmd_k _) (by decide), Nat.le_trans (rdCmd_v _) (by decide), Nat.le_trans (rdCmd_o _) (by decide)⟩
theorem entsK_len (s : RSt) (k : Nat) : (entsK s k).1.length = k := by
  induction k with
  | zero => rfl
  | succ k ih => rw [entsK, List.length_append, ih]; rfl

theorem infoEntS : (Tryz.prog.info? 87).map (·.size) = some 7 := by kernel_rfl

theorem cmd_s (b : Nat) (w : World) (A : Nat → Addr) (B D : Nat) (st : RSt) (hs : Sents w A B) (h : Rd w b A B D st) :
    Calls Tryz.prog 79 #[.pointer (some ⟨b, 0, none⟩)] w fun e w' => e = .returned (cmdV (rdCmd st)) ∧ Sents w' A B ∧ Rd w' b A B D (rdCmd st).left ∧ w.grownBy w' (some b) :=
  (cmd_any b w A B D st hs h).mono fun e w' ⟨h1, h2, h3⟩ => ⟨h1, hs.kept (grown_below h3 h.1 hs.le), h2, h3⟩

theorem there_of_blockR {w w' : World} {b o n : Nat} (hb : w'.heap[b]? = w.heap[b]?) (h : w.there b o n) : w'.there b o n := fun j hj => by
  rw [World.cell?_of_block (w := w) hb, show w'.frozen? ⟨b, o + j, none⟩ = w.frozen? ⟨b, o + j, none⟩ by simp only [World.frozen?, hb]]
  exact h j hj

set_option maxHeartbeats 4000000 in
set_option maxRecDepth 100000 in
theorem entry_any (b : Nat) (w : World) (A : Nat → Addr) (B D : Nat) (st : RSt) (hs : Sents w A B) (h : Rd w b A B D st) :
    Calls Tryz.prog 96 #[.pointer (some ⟨b, 0, none⟩)] w fun e w' => e = .returned (.agg #[.int .i64 (rdEnt st).1.t, .int .i64 (rdEnt st).1.cl, .int .i64 (rdEnt st).1.sq, .int .i64 (rdEnt st).1.op, .string (rdEnt st).1.k, .string (rdEnt st).1.v, .string (rdEnt st).1.o]) ∧ Sents w' A B ∧ Rd w' b A B D (rdEnt st).2 ∧ w.grownBy w' (some b) := by
  have HN : ∀ w st, Sents w A B → Rd w b A B D st → Hid (Calls Tryz.prog 91 #[.pointer (some ⟨b, 0, none⟩)] w fun e w' => e = .returned (.int .i64 ((rdNum st).1 : Nat)) ∧ Sents w' A B ∧ Rd w' b A B D (rdNum st).2 ∧ w.grownBy w' (some b)) := fun w st hs h => number_s b w A B D st hs h
  have HC : ∀ w st, Sents w A B → Rd w b A B D st → Hid (Calls Tryz.prog 79 #[.pointer (some ⟨b, 0, none⟩)] w fun e w' => e = .returned (cmdV (rdCmd st)) ∧ Sents w' A B ∧ Rd w' b A B D (rdCmd st).left ∧ w.grownBy w' (some b)) := fun w st hs h => cmd_s b w A B D st hs h
  have hB0 := h.1
  have hbD := h.2.1
  have hDw := h.2.2.1
  have hT0 : (w.alloc (.cells #[.int .i64 0, .int .i64 0, .int .i64 0, .int .i64 0, .string ⟨#[]⟩, .string ⟨#[]⟩, .string ⟨#[]⟩] 87)).there w.heap.size 0 7 := fun j hj => by rw [Nat.zero_add]; simp [World.cell?_alloc_new, hj]
  have hr0 : Rd (w.alloc (.cells #[.int .i64 0, .int .i64 0, .int .i64 0, .int .i64 0, .string ⟨#[]⟩, .string ⟨#[]⟩, .string ⟨#[]⟩] 87)) b A B D st := h.below ((Below.refl _ _).alloc hDw _)
  have hs0 : Sents (w.alloc (.cells #[.int .i64 0, .int .i64 0, .int .i64 0, .int .i64 0, .string ⟨#[]⟩, .string ⟨#[]⟩, .string ⟨#[]⟩] 87)) A B := hs.below ((Below.refl _ _).alloc (Nat.le_refl _) _)
  have hle := hs.le
  clear h hs
  go_enter Tryz.func96, Tryz.ntmps96
  go_wp2_with (first
    | (go_at_call 91; refine Calls.mono (HN _ _ hs0 hr0).out ?_; rintro e w1 ⟨rfl, hs1, hr1, hg1⟩)
    | (go_at_call 79; refine Calls.mono (HC _ _ hs1 hr1).out ?_; unfold cmdV; rintro e w2 ⟨rfl, hs2, hr2, hg2⟩; have hG := grownBy_trans hg1 hg2; have hT2 := there_of_blockR (hG.block w.heap.size (by simp) (by intro e; injection e with e; omega)) hT0)
    | (refine gate_store 87 (.tmp 2) (.tmp 9) rfl ?_; refine wpList_store_mid rfl 87 (.tmp 2) (.tmp 9) rfl w.heap.size 0 #[.int .i64 (rdEnt st).1.t, .int .i64 (rdEnt st).1.cl, .int .i64 (rdEnt st).1.sq, .int .i64 (rdEnt st).1.op, .string (rdEnt st).1.k, .string (rdEnt st).1.v, .string (rdEnt st).1.o] rfl rfl hT2 infoEntS (by simp [Value.oneCell']) ?_; have hra4 := World.rangeAt_setCells_same _ w.heap.size 0 [.int .i64 (rdEnt st).1.t, .int .i64 (rdEnt st).1.cl, .int .i64 (rdEnt st).1.sq, .int .i64 (rdEnt st).1.op, .string (rdEnt st).1.k, .string (rdEnt st).1.v, .string (rdEnt st).1.o] hT2; have hld := run_loadVar_mid (P := Tryz.prog) _ w.heap.size 0 87 _ _ hra4 Tryz.underlying87 rfl infoEntS; have hB4 := below_setCells (Nat.le_refl w.heap.size) [.int .i64 (rdEnt st).1.t, .int .i64 (rdEnt st).1.cl, .int .i64 (rdEnt st).1.sq, .int .i64 (rdEnt st).1.op, .string (rdEnt st).1.k, .string (rdEnt st).1.v, .string (rdEnt st).1.o] 0 _ (Below.refl w.heap.size w2); clear hra4; generalize (World.setCells _ w.heap.size 0 _) = W4 at hld hB4 ⊢))
  have hGw := grownBy_trans (grown_alloc (grownBy_refl w (some b)) (.cells #[.int .i64 0, .int .i64 0, .int .i64 0, .int .i64 0, .string ⟨#[]⟩, .string ⟨#[]⟩, .string ⟨#[]⟩] 87)) hG
  refine bodyPost_ret (v := .agg #[.int .i64 (rdEnt st).1.t, .int .i64 (rdEnt st).1.cl, .int .i64 (rdEnt st).1.sq, .int .i64 (rdEnt st).1.op, .string (rdEnt st).1.k, .string (rdEnt st).1.v, .string (rdEnt st).1.o]) ?_ rfl ⟨rfl, hs2.kept (hB4.mono hle), hr2.below (hB4.mono hDw), ⟨hB4.os.trans hGw.os, hB4.tape.trans hGw.tape, hB4.output.trans hGw.output, Nat.le_trans hGw.size hB4.size, fun k hk hne => (hB4.block k hk).trans (hGw.block k hk hne)⟩⟩
  exact results_cell Tryz.results96 rfl hld

theorem grown_then {w w1 w2 : World} {row : Option Nat} (h : w.grownBy w1 row) (hb : Below w.heap.size w1 w2) : w.grownBy w2 row :=
  ⟨hb.os.trans h.os, hb.tape.trans h.tape, hb.output.trans h.output, Nat.le_trans h.size hb.size, fun k hk hne => (hb.block k hk).trans (h.block k hk hne)⟩
end Go.Proofs.YtafmjckpbcijoaaGreatDoor

/-
  impl.reader.entries.
-/
namespace Go.Proofs.YtafmjckpbcijoaaGreatDoor
open Go.RowKit
set_option linter.unusedVariables false
set_option linter.unusedSimpArgs false

theorem entAt_new (w : World) (e : Ent) : EntAt (w.alloc (.cells #[.int .i64 e.t, .int .i64 e.cl, .int .i64 e.sq, .int .i64 e.op, .string e.k, .string e.v, .string e.o] 87)) w.heap.size 0 e := by
  unfold EntAt
  simp [World.cell?_alloc_new]

set_option maxHeartbeats 4000000 in
set_option maxRecDepth 100000 in
theorem entries_any (b : Nat) (w : World) (A : Nat → Addr) (B D : Nat) (st : RSt) (hs : Sents w A B) (h : Rd w b A B D st) :
    Calls Tryz.prog 93 #[.pointer (some ⟨b, 0, none⟩)] w fun e w' => ∃ v, e = .returned v ∧ OwnE w' w.heap.size v (rdEnts st).1 ∧ Sents w' A B ∧ Rd w' b A B D (rdEnts st).2 ∧ w.grownBy w' (some b) := by
  have HN : Hid (Calls Tryz.prog 91 #[.pointer (some ⟨b, 0, none⟩)] w fun e w' => e = .returned (.int .i64 ((rdNum st).1 : Nat)) ∧ Sents w' A B ∧ Rd w' b A B D (rdNum st).2 ∧ w.grownBy w' (some b)) := number_s b w A B D st hs h
  have HE : ∀ w st, Sents w A B → Rd w b A B D st → Hid (Calls Tryz.prog 96 #[.pointer (some ⟨b, 0, none⟩)] w fun e w' => e = .returned (.agg #[.int .i64 (rdEnt st).1.t, .int .i64 (rdEnt st).1.cl, .int .i64 (rdEnt st).1.sq, .int .i64 (rdEnt st).1.op, .string (rdEnt st).1.k, .string (rdEnt st).1.v, .string (rdEnt st).1.o]) ∧ Sents w' A B ∧ Rd w' b A B D (rdEnt st).2 ∧ w.grownBy w' (some b)) := fun w st hs h => entry_any b w A B D st hs h
  have hB0 := h.1
  have hbD := h.2.1
  have hDw := h.2.2.1
  have hle := hs.le
  clear h hs
  unfold rdEnts
  by_cases h32 : 32 < (rdNum st).1
  · rw [if_pos h32]
    have h32' : (32 : Int) < (rdNum st).1 := by omega
    generalize (rdNum st).1 = n at *
    generalize (rdNum st).2 = t at *
    go_enter Tryz.func93, Tryz.ntmps93
    go_wp2_with (first
      | (go_at_call 91; refine Calls.mono HN.out ?_; rintro e w1 ⟨rfl, hs1, hr1, hg1⟩)
      | (go_at_call 82; refine (refuse_any b _ A B D t hs1 hr1).mono ?_; rintro e w2 ⟨⟨v, rfl⟩, hr2, hg2⟩))
    go_ret
    exact ⟨_, rfl, OwnE.nil _ _, hs1.kept (grown_below hg2 hB0 hs1.le), hr2, grownBy_trans hg1 hg2⟩
  · rw [if_neg h32]
    have h32' : ((rdNum st).1 : Int) ≤ 32 := by omega
    generalize (rdNum st).1 = n at *
    generalize (rdNum st).2 = t at *
    go_enter Tryz.func93, Tryz.ntmps93
    go_wp2_with (go_at_call 91; refine Calls.mono HN.out ?_; rintro e w1 ⟨rfl, hs1, hr1, hg1⟩)
    go_loopw [4, 12] (fun v i wr => ∃ k : Nat, k ≤ n ∧ i = .int .i64 k ∧ OwnE wr w.heap.size v (entsK t k).1 ∧ Sents wr A B ∧ Rd wr b A B D (entsK t k).2 ∧ w.grownBy wr (some b)) (fun _ i _ => n - (intOf i).toNat)
    case atStart => exact ⟨0, by omega, rfl, OwnE.nil _ _, hs1, hr1, hg1⟩
    case round =>
      obtain ⟨k, hk, rfl, ho, hsr, hrr, hgr⟩ := hrel
      by_cases hlt : k < n
      · have hzr := hgr.size
        have hbw : b < w.heap.size := by omega
        obtain ⟨va, vc, hve⟩ := ho.shape
        rw [entsK_len] at hve
        subst hve
        go_wp2_with (first
          | (go_at_call 96; refine Calls.mono (HE _ _ hsr hrr).out ?_; rintro e w2 ⟨rfl, hs2, hr2, hg2⟩; have hz2 := hg2.size; have hfit := rdEnt_fits (entsK t k).2; have hB2 := (Below.refl w2.heap.size w2).alloc (Nat.le_refl _) (.cells #[.int .i64 (rdEnt (entsK t k).2).1.t, .int .i64 (rdEnt (entsK t k).2).1.cl, .int .i64 (rdEnt (entsK t k).2).1.sq, .int .i64 (rdEnt (entsK t k).2).1.op, .string (rdEnt (entsK t k).2).1.k, .string (rdEnt (entsK t k).2).1.v, .string (rdEnt (entsK t k).2).1.o] 87); have ho2 := (ho.grown hg2 hbw).below hB2; have hea := entAt_new w2 (rdEnt (entsK t k).2).1)
          | (at_builtin; refine wpl_appendE rfl (.tmp 14) (.tmp 17) rfl _ hfit ho2 rfl w2.heap.size 1 hea rfl (by rw [entsK_len]; omega) (by simp; omega) ?_; intro v3 w3 ho3 hg3; have hB3 := (hB2.mono (show w.heap.size ≤ w2.heap.size by omega)).trans (growE hg3 ho2 (by simp; omega))))
        go_roundw
        case rel => exact ⟨k + 1, by omega, by go_num, ho3, hs2.kept (hB3.mono hle), hr2.below (hB3.mono hDw), grown_then (grownBy_trans hgr hg2) hB3⟩
        case measure => simp [intOf]; omega
      · have e : k = n := by omega
        subst e
        go_wp2
        go_ret
        exact ⟨_, rfl, ho, hsr, hrr, hgr⟩
end Go.Proofs.YtafmjckpbcijoaaGreatDoor

/-
  impl.reader: msg.
-/
namespace Go.Proofs.YtafmjckpbcijoaaGreatDoor
open Go.RowKit
set_option linter.unusedVariables false
set_option linter.unusedSimpArgs false

/-- what a message reads as, and what is left -/
structure MsgR where
  fr : Nat
  to : Nat
  tm : Nat
  li : Nat
  lt : Nat
  cm : Nat
  ok : Nat
  hi : Nat
  es : List Ent
  left : RSt

def rdMsg (s : RSt) : MsgR :=
  let a1 := rdNum s
  let a2 := rdNum a1.2
  let a3 := rdNum a2.2
  let a4 := rdNum a3.2
  let a5 := rdNum a4.2
  let a6 := rdNum a5.2
  let a7 := rdNum a6.2
  let a8 := rdNum a7.2
  let e := rdEnts a8.2
  ⟨a1.1, a2.1, a3.1, a4.1, a5.1, a6.1, a7.1, a8.1, e.1, e.2⟩

def msgV (kd : Int) (r : MsgR) (ev : Value) : Value := .agg #[.int .i64 kd, .int .i64 (r.fr : Nat), .int .i64 (r.to : Nat), .int .i64 (r.tm : Nat), .int .i64 (r.li : Nat), .int .i64 (r.lt : Nat), .int .i64 (r.cm : Nat), .int .i64 (r.ok : Nat), .int .i64 (r.hi : Nat), ev]

theorem infoMsg : (Tryz.prog.info? 27).map (·.size) = some 10 := by kernel_rfl

theorem OwnE.set {w : World} {B : Nat} {v : Value} {l : List Ent} (h : OwnE w B v l) (q i : Nat) (x : Value) (hq : q < B) : OwnE (w.setCell ⟨q, i, none⟩ x) B v l :=
  h.block fun k hk => Below.heap_setCell _ _ _ _ (by have := (h.2.lt k hk).1; show k ≠ q; omega)
theorem rdEnts_len (s : RSt) : (rdEnts s).1.length ≤ 32 := by
  unfold rdEnts
  split
  · simp
  · rw [entsK_len]; omega
theorem OwnE.after {w w' : World} {B B' : Nat} {v : Value} {l : List Ent} (h : OwnE w B v l) (hb : Below B w w') (hB : B' ≤ B) (hk : ∀ k, v.ownBlock = some k → w'.heap[k]? = w.heap[k]?) : OwnE w' B' v l := (h.block hk).le hB

set_option maxHeartbeats 8000000 in
set_option maxRecDepth 100000 in
theorem msg_any (b : Nat) (kd : Int) (w : World) (A : Nat → Addr) (B D : Nat) (st : RSt) (hs : Sents w A B) (h : Rd w b A B D st) :
    Calls Tryz.prog 81 #[.pointer (some ⟨b, 0, none⟩), .int .i64 kd] w fun e w' => ∃ ev, e = .returned (msgV kd (rdMsg st) ev) ∧ OwnE w' w.heap.size ev (rdMsg st).es ∧ Sents w' A B ∧ Rd w' b A B D (rdMsg st).left ∧ w.grownBy w' (some b) := by
  have HN : ∀ w st, Sents w A B → Rd w b A B D st → Hid (Calls Tryz.prog 91 #[.pointer (some ⟨b, 0, none⟩)] w fun e w' => e = .returned (.int .i64 ((rdNum st).1 : Nat)) ∧ Sents w' A B ∧ Rd w' b A B D (rdNum st).2 ∧ w.grownBy w' (some b)) := fun w st hs h => number_s b w A B D st hs h
  have HE : ∀ w st, Sents w A B → Rd w b A B D st → Hid (Calls Tryz.prog 93 #[.pointer (some ⟨b, 0, none⟩)] w fun e w' => ∃ v, e = .returned v ∧ OwnE w' w.heap.size v (rdEnts st).1 ∧ Sents w' A B ∧ Rd w' b A B D (rdEnts st).2 ∧ w.grownBy w' (some b)) := fun w st hs h => entries_any b w A B D st hs h
  have hB0 := h.1
  have hbD := h.2.1
  have hDw := h.2.2.1
  have hle := hs.le
  have HR : Hid (Rd w b A B D st) := h
  have HS : Hid (Sents w A B) := hs
  clear h hs
  have y1 : True := trivial
  have y2 : True := trivial
  have y3 : True := trivial
  have y4 : True := trivial
  have y5 : True := trivial
  have y6 : True := trivial
  have y7 : True := trivial
  have y8 : True := trivial
  go_enter Tryz.func81, Tryz.ntmps81
  go_wp2_with (first
    | (refine gate_store 27 (.tmp 5) (.tmp 7) rfl ?_; refine wpl_store_new rfl 27 (.tmp 5) (.tmp 7) rfl #[.int .i64 0, .int .i64 0, .int .i64 0, .int .i64 0, .int .i64 0, .int .i64 0, .int .i64 0, .int .i64 0, .int .i64 0, .slice none 0 0] #[.int .i64 kd, .int .i64 0, .int .i64 0, .int .i64 0, .int .i64 0, .int .i64 0, .int .i64 0, .int .i64 0, .int .i64 0, .slice none 0 0] (show Value.pointer (some ⟨w.heap.size + 1, 0, none⟩) = _ by simp) rfl infoMsg rfl (by simp [Value.oneCell']) ?_)
    | (go_at_call 91; clear y1; refine Calls.mono (HN _ _ (HS.out.kept (((Below.refl _ _).alloc (by omega) _).alloc (by simp; omega) _)) (HR.out.below (((Below.refl _ _).alloc (by omega) _).alloc (by simp; omega) _))).out ?_; rintro e w1 ⟨rfl, hs, hr, hg⟩; obtain ⟨cc, cf⟩ := grown_cell (q := w.heap.size + 1) hg (by simp [World.setCell] <;> omega) (by omega); obtain ⟨dc, df⟩ := grown_cell (q := w.heap.size) hg (by simp [World.setCell] <;> omega) (by omega); have hG : w.grownBy w1 (some b) := grownBy_trans (grown_alloc (grown_alloc (grownBy_refl w (some b)) _) _) hg; have hz := hG.size; have hz2 : w.heap.size + 1 < w1.heap.size := (by have := hg.size; simp [World.setCell] at this; omega))
    | (go_at_call 91; clear y2; refine Calls.mono (HN _ _ (hs.kept ((Below.refl _ _).setCell (show _ ≤ w.heap.size + 1 by omega) _)) (hr.below ((Below.refl _ _).setCell (show _ ≤ w.heap.size + 1 by omega) _))).out ?_; rintro e w2 ⟨rfl, hs, hr, hg⟩; obtain ⟨cc, cf⟩ := grown_cell (q := w.heap.size + 1) hg (by simp [World.setCell] <;> omega) (by omega); obtain ⟨dc, df⟩ := grown_cell (q := w.heap.size) hg (by simp [World.setCell] <;> omega) (by omega); have hG : w.grownBy w2 (some b) := grownBy_trans (grown_setNew hG (w.heap.size + 1) _ _ (by omega)) hg; have hz := hG.size; have hz2 : w.heap.size + 1 < w2.heap.size := (by have := hg.size; simp [World.setCell] at this; omega))
    | (go_at_call 91; clear y3; refine Calls.mono (HN _ _ (hs.kept ((Below.refl _ _).setCell (show _ ≤ w.heap.size + 1 by omega) _)) (hr.below ((Below.refl _ _).setCell (show _ ≤ w.heap.size + 1 by omega) _))).out ?_; rintro e w3 ⟨rfl, hs, hr, hg⟩; obtain ⟨cc, cf⟩ := grown_cell (q := w.heap.size + 1) hg (by simp [World.setCell] <;> omega) (by omega); obtain ⟨dc, df⟩ := grown_cell (q := w.heap.size) hg (by simp [World.setCell] <;> omega) (by omega); have hG : w.grownBy w3 (some b) := grownBy_trans (grown_setNew hG (w.heap.size + 1) _ _ (by omega)) hg; have hz := hG.size; have hz2 : w.heap.size + 1 < w3.heap.size := (by have := hg.size; simp [World.setCell] at this; omega))
    | (go_at_call 91; clear y4; refine Calls.mono (HN _ _ (hs.kept ((Below.refl _ _).setCell (show _ ≤ w.heap.size + 1 by omega) _)) (hr.below ((Below.refl _ _).setCell (show _ ≤ w.heap.size + 1 by omega) _))).out ?_; rintro e w4 ⟨rfl, hs, hr, hg⟩; obtain ⟨cc, cf⟩ := grown_cell (q := w.heap.size + 1) hg (by simp [World.setCell] <;> omega) (by omega); obtain ⟨dc, df⟩ := grown_cell (q := w.heap.size) hg (by simp [World.setCell] <;> omega) (by omega); have hG : w.grownBy w4 (some b) := grownBy_trans (grown_setNew hG (w.heap.size + 1) _ _ (by omega)) hg; have hz := hG.size; have hz2 : w.heap.size + 1 < w4.heap.size := (by have := hg.size; simp [World.setCell] at this; omega))
    | (go_at_call 91; clear y5; refine Calls.mono (HN _ _ (hs.kept ((Below.refl _ _).setCell (show _ ≤ w.heap.size + 1 by omega) _)) (hr.below ((Below.refl _ _).setCell (show _ ≤ w.heap.size + 1 by omega) _))).out ?_; rintro e w5 ⟨rfl, hs, hr, hg⟩; obtain ⟨cc, cf⟩ := grown_cell (q := w.heap.size + 1) hg (by simp [World.setCell] <;> omega) (by omega); obtain ⟨dc, df⟩ := grown_cell (q := w.heap.size) hg (by simp [World.setCell] <;> omega) (by omega); have hG : w.grownBy w5 (some b) := grownBy_trans (grown_setNew hG (w.heap.size + 1) _ _ (by omega)) hg; have hz := hG.size; have hz2 : w.heap.size + 1 < w5.heap.size := (by have := hg.size; simp [World.setCell] at this; omega))
    | (go_at_call 91; clear y6; refine Calls.mono (HN _ _ (hs.kept ((Below.refl _ _).setCell (show _ ≤ w.heap.size + 1 by omega) _)) (hr.below ((Below.refl _ _).setCell (show _ ≤ w.heap.size + 1 by omega) _))).out ?_; rintro e w6 ⟨rfl, hs, hr, hg⟩; obtain ⟨cc, cf⟩ := grown_cell (q := w.heap.size + 1) hg (by simp [World.setCell] <;> omega) (by omega); obtain ⟨dc, df⟩ := grown_cell (q := w.heap.size) hg (by simp [World.setCell] <;> omega) (by omega); have hG : w.grownBy w6 (some b) := grownBy_trans (grown_setNew hG (w.heap.size + 1) _ _ (by omega)) hg; have hz := hG.size; have hz2 : w.heap.size + 1 < w6.heap.size := (by have := hg.size; simp [World.setCell] at this; omega))
    | (go_at_call 91; clear y7; refine Calls.mono (HN _ _ (hs.kept ((Below.refl _ _).setCell (show _ ≤ w.heap.size + 1 by omega) _)) (hr.below ((Below.refl _ _).setCell (show _ ≤ w.heap.size + 1 by omega) _))).out ?_; rintro e w7 ⟨rfl, hs, hr, hg⟩; obtain ⟨cc, cf⟩ := grown_cell (q := w.heap.size + 1) hg (by simp [World.setCell] <;> omega) (by omega); obtain ⟨dc, df⟩ := grown_cell (q := w.heap.size) hg (by simp [World.setCell] <;> omega) (by omega); have hG : w.grownBy w7 (some b) := grownBy_trans (grown_setNew hG (w.heap.size + 1) _ _ (by omega)) hg; have hz := hG.size; have hz2 : w.heap.size + 1 < w7.heap.size := (by have := hg.size; simp [World.setCell] at this; omega))
    | (go_at_call 91; clear y8; refine Calls.mono (HN _ _ (hs.kept ((Below.refl _ _).setCell (show _ ≤ w.heap.size + 1 by omega) _)) (hr.below ((Below.refl _ _).setCell (show _ ≤ w.heap.size + 1 by omega) _))).out ?_; rintro e w8 ⟨rfl, hs, hr, hg⟩; obtain ⟨cc, cf⟩ := grown_cell (q := w.heap.size + 1) hg (by simp [World.setCell] <;> omega) (by omega); obtain ⟨dc, df⟩ := grown_cell (q := w.heap.size) hg (by simp [World.setCell] <;> omega) (by omega); have hG : w.grownBy w8 (some b) := grownBy_trans (grown_setNew hG (w.heap.size + 1) _ _ (by omega)) hg; have hz := hG.size; have hz2 : w.heap.size + 1 < w8.heap.size := (by have := hg.size; simp [World.setCell] at this; omega))
    | (go_at_call 93; refine Calls.mono (HE _ _ (hs.kept ((Below.refl _ _).setCell (show _ ≤ w.heap.size + 1 by omega) _)) (hr.below ((Below.refl _ _).setCell (show _ ≤ w.heap.size + 1 by omega) _))).out ?_; rintro e w9 ⟨ev, rfl, hoe, hs, hr, hg⟩; obtain ⟨cc, cf⟩ := grown_cell (q := w.heap.size + 1) hg (by simp [World.setCell] <;> omega) (by omega); obtain ⟨dc, df⟩ := grown_cell (q := w.heap.size) hg (by simp [World.setCell] <;> omega) (by omega); have hG : w.grownBy w9 (some b) := grownBy_trans (grown_setNew hG (w.heap.size + 1) _ _ (by omega)) hg; have hz := hG.size; have hz3 : w.heap.size + 1 < w8.heap.size := hz2; have hz2 : w.heap.size + 1 < w9.heap.size := (by have := hg.size; simp [World.setCell] at this; omega); have HOE := hoe.le (show w.heap.size + 2 ≤ _ by simp [World.setCell]; omega); obtain ⟨ea, ec, eve⟩ := hoe.shape; have hL32 := rdEnts_len (rdNum (rdNum (rdNum (rdNum (rdNum (rdNum (rdNum (rdNum st).2).2).2).2).2).2).2).2; generalize (rdEnts (rdNum (rdNum (rdNum (rdNum (rdNum (rdNum (rdNum (rdNum st).2).2).2).2).2).2).2).2).1.length = LL at eve hL32; subst eve; have HO2 : Hid (OwnE w9 (w.heap.size + 2) (.slice ea LL ec) (rdMsg st).es) := HOE; clear HOE hoe))
  refine bodyPost_ret (v := msgV kd (rdMsg st) (.slice ea LL ec)) (by simp [results, Tryz.results81, go_sem, msgV, rdMsg, *]) rfl ⟨_, rfl, ?_, ?_, ?_, ?_⟩
  · exact OwnE.le (((((((((((HO2.out.set (w.heap.size + 1) _ _ (by omega)).set w.heap.size _ _ (by omega)).set w.heap.size _ _ (by omega)).set w.heap.size _ _ (by omega)).set w.heap.size _ _ (by omega)).set w.heap.size _ _ (by omega)).set w.heap.size _ _ (by omega)).set w.heap.size _ _ (by omega)).set w.heap.size _ _ (by omega)).set w.heap.size _ _ (by omega)).set w.heap.size _ _ (by omega)) (by omega)
  · exact hs.kept ((((((((((((Below.refl _ _).setCell (show _ ≤ w.heap.size + 1 by omega) _).setCell (show _ ≤ w.heap.size by omega) _).setCell (show _ ≤ w.heap.size by omega) _).setCell (show _ ≤ w.heap.size by omega) _).setCell (show _ ≤ w.heap.size by omega) _).setCell (show _ ≤ w.heap.size by omega) _).setCell (show _ ≤ w.heap.size by omega) _).setCell (show _ ≤ w.heap.size by omega) _).setCell (show _ ≤ w.heap.size by omega) _).setCell (show _ ≤ w.heap.size by omega) _).setCell (show _ ≤ w.heap.size by omega) _)
  · exact hr.below ((((((((((((Below.refl _ _).setCell (show _ ≤ w.heap.size + 1 by omega) _).setCell (show _ ≤ w.heap.size by omega) _).setCell (show _ ≤ w.heap.size by omega) _).setCell (show _ ≤ w.heap.size by omega) _).setCell (show _ ≤ w.heap.size by omega) _).setCell (show _ ≤ w.heap.size by omega) _).setCell (show _ ≤ w.heap.size by omega) _).setCell (show _ ≤ w.heap.size by omega) _).setCell (show _ ≤ w.heap.size by omega) _).setCell (show _ ≤ w.heap.size by omega) _).setCell (show _ ≤ w.heap.size by omega) _)
  · exact grown_setNew (grown_setNew (grown_setNew (grown_setNew (grown_setNew (grown_setNew (grown_setNew (grown_setNew (grown_setNew (grown_setNew (grown_setNew hG (w.heap.size + 1) _ _ (by omega)) w.heap.size _ _ (by omega)) w.heap.size _ _ (by omega)) w.heap.size _ _ (by omega)) w.heap.size _ _ (by omega)) w.heap.size _ _ (by omega)) w.heap.size _ _ (by omega)) w.heap.size _ _ (by omega)) w.heap.size _ _ (by omega)) w.heap.size _ _ (by omega)) w.heap.size _ _ (by omega)
end Go.Proofs.YtafmjckpbcijoaaGreatDoor

/-
  impl.entryFits, spec.l1entryOk.
-/
namespace Go.Proofs.YtafmjckpbcijoaaGreatDoor
open Go.RowKit
set_option linter.unusedVariables false

theorem ret_bool {a b : Bool} (h : a = b) : Ending.returned (.bool a) = .returned (.bool b) := by rw [h]

/-- is an entry well-formed? -/
def entB (e : Ent) : Bool := inB e.t 1 1073741824 && (cmdF e.cl e.sq e.op e.k.size e.v.size e.o.size == 0)

set_option maxHeartbeats 2000000 in
theorem entryFits_any (e : Ent) (hf : e.fits) (w : World) :
    Calls Tryz.prog 127 #[.agg #[.int .i64 e.t, .int .i64 e.cl, .int .i64 e.sq, .int .i64 e.op, .string e.k, .string e.v, .string e.o]] w fun r w' => r = .returned (.bool (entB e)) ∧ Below w.heap.size w w' := by
  obtain ⟨h1, h2, h3⟩ := hf
  go_enter Tryz.func127, Tryz.ntmps127
  go_wp2_with (first
    | (go_at_call 52; refine (within_any _ _ _ _).mono ?_; rintro r w' ⟨rfl, rfl⟩)
    | (go_at_call 128; refine (implCmdFault_any e.cl e.sq e.op e.k e.v e.o h1 h2 h3 _).mono ?_; rintro r w1 ⟨rfl, hb⟩))
  · go_ret
    exact ⟨ret_bool (by go_light; simp_all [entB]), ((Below.refl _ _).alloc (Nat.le_refl _) _).trans (hb.mono (by simp))⟩
  · go_ret
    exact ⟨ret_bool (by go_light; simp_all [entB]), (Below.refl _ _).alloc (Nat.le_refl _) _⟩

set_option maxHeartbeats 2000000 in
theorem entryOk_any (e : Ent) (hf : e.fits) (w : World) :
    Calls Tryz.prog 51 #[.agg #[.int .i64 e.t, .int .i64 e.cl, .int .i64 e.sq, .int .i64 e.op, .string e.k, .string e.v, .string e.o]] w fun r w' => r = .returned (.bool (entB e)) ∧ Below w.heap.size w w' := by
  obtain ⟨h1, h2, h3⟩ := hf
  by_cases t1 : 1 ≤ e.t
  · by_cases t2 : e.t ≤ 1073741824
    · have hin : inB e.t 1 1073741824 = true := (inB_iff _ _ _).2 ⟨t1, t2⟩
      go_enter Tryz.func51, Tryz.ntmps51
      go_wp2_with (go_at_call 11; refine (specCmdFault_any e.cl e.sq e.op e.k e.v e.o h1 h2 h3 _).mono ?_; rintro r w1 ⟨rfl, hb⟩)
      go_ret
      exact ⟨ret_bool (by rw [entB, hin]; simp), ((Below.refl _ _).alloc (Nat.le_refl _) _).trans (hb.mono (by simp))⟩
    · have hin : inB e.t 1 1073741824 = false := (inB_not _ _ _).2 (by omega)
      have hd : decide (e.t ≤ 1073741824) = false := by simpa using t2
      go_enter Tryz.func51, Tryz.ntmps51
      go_wp2_with (go_at_call 11; refine (specCmdFault_any e.cl e.sq e.op e.k e.v e.o h1 h2 h3 _).mono ?_; rintro r w1 ⟨rfl, hb⟩)
      go_ret
      exact ⟨ret_bool (by rw [entB, hin]; simp), (Below.refl _ _).alloc (Nat.le_refl _) _⟩
  · have hin : inB e.t 1 1073741824 = false := (inB_not _ _ _).2 (by omega)
    have hd : decide (1 ≤ e.t) = false := by simpa using t1
    go_enter Tryz.func51, Tryz.ntmps51
    go_wp2_with (go_at_call 11; refine (specCmdFault_any e.cl e.sq e.op e.k e.v e.o h1 h2 h3 _).mono ?_; rintro r w1 ⟨rfl, hb⟩)
    go_ret
    exact ⟨ret_bool (by rw [entB, hin]; simp), (Below.refl _ _).alloc (Nat.le_refl _) _⟩

/-- every entry well-formed, no term below the one ahead of it, all up to high -/
def fitL (high : Int) : Int → List Ent → Bool
  | _, [] => true
  | low, e :: r => entB e && inB e.t low high && fitL high e.t r

theorem fitL_drop (high low : Int) (l : List Ent) (k : Nat) (h : k < l.length) : fitL high low (l.drop k) = (entB l[k] && inB l[k].t low high && fitL high l[k].t (l.drop (k + 1))) := by
  rw [List.drop_eq_getElem_cons h]
  rfl
end Go.Proofs.YtafmjckpbcijoaaGreatDoor
