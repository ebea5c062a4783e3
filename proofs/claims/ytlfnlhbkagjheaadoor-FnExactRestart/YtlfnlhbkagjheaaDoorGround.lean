import Derived.Test.YtlfnlhbkagjheaaDoorRows
import Derived.WalkKit
import Derived.WalkSpells
import Derived.RowKit3
import Derived.Below
import Derived.Deep.Light
import Derived.Deep.QuietTactic
import Derived.BigQuiet
import Derived.Laws.OwnMore
import Derived.Laws.BitsAllLaws
import Derived.OwnWalk
import Derived.Lib.AppendStr
import Derived.Maps.AppendAt
import Derived.LaidEql
import Derived.Stop.Asserts
import Derived.RowKitTokens
import Derived.Deep.MidRow
import Derived.Deep.WholeRow
import Derived.Laws.StructEq
/-
  Small things that every walk wants.
-/
namespace Go.Proofs.YtlfnlhbkagjheaaDoor
open Go.RowKit
set_option linter.unusedVariables false

theorem bcell {W w1 : World} (hb : Below W.heap.size W w1) : (∀ b o, b < W.heap.size → w1.cell? ⟨b, o, none⟩ = W.cell? ⟨b, o, none⟩) ∧ (∀ b o, b < W.heap.size → w1.frozen? ⟨b, o, none⟩ = W.frozen? ⟨b, o, none⟩) :=
  ⟨fun b o h => hb.cell (p := ⟨b, o, none⟩) h, fun b o h => hb.frozen (p := ⟨b, o, none⟩) h⟩

theorem ret_int {k : IntKind} {a b : Int} (h : a = b) : Ending.returned (.int k a) = .returned (.int k b) := by rw [h]

theorem ifc {α : Type} {p q : Prop} [Decidable p] [Decidable q] {a b c d : α} (h : p ↔ q) (h1 : a = c) (h2 : b = d) : (if p then a else b) = if q then c else d := by
  subst h1 h2
  by_cases hp : p
  · rw [if_pos hp, if_pos (h.1 hp)]
  · rw [if_neg hp, if_neg (fun hq => hp (h.2 hq))]
end Go.Proofs.YtlfnlhbkagjheaaDoor

/-
  Byte slices: what a slice value holds; laws.toByteS, laws.eqByteS.
-/
namespace Go.Proofs.YtlfnlhbkagjheaaDoor
open Go.RowKit
set_option linter.unusedVariables false

/-- the slice value v holds, in the world w, the bytes l -/
def Bs (w : World) (v : Value) (l : List Int) : Prop :=
  l.length ≤ maxLen ∧ (∀ x ∈ l, 0 ≤ x ∧ x ≤ 255) ∧
  ∃ a cap, v = .slice a l.length cap ∧ ∀ i, i < l.length → ∃ b off, a = some ⟨b, off, none⟩ ∧ ∀ j, j < l.length → w.cell? ⟨b, off + j, none⟩ = some (.int .u8 (l[j]?.getD 0))

theorem byte_at {l : List Int} (h : ∀ x ∈ l, 0 ≤ x ∧ x ≤ 255) (k : Nat) : 0 ≤ l[k]?.getD 0 ∧ l[k]?.getD 0 ≤ 255 := by
  rcases Nat.lt_or_ge k l.length with hk | hk
  · rw [List.getElem?_eq_getElem hk]; exact h _ (List.getElem_mem hk)
  · rw [List.getElem?_eq_none hk]; simp

theorem cell_lt {w : World} {b o : Nat} {v : Value} (h : w.cell? ⟨b, o, none⟩ = some v) : b < w.heap.size := by
  rcases Nat.lt_or_ge b w.heap.size with h' | h'
  · exact h'
  · rw [World.cell?, Array.getElem?_eq_none h'] at h; simp at h

theorem Bs.below {w w' : World} {v : Value} {l : List Int} (h : Bs w v l) (hb : Below w.heap.size w w') : Bs w' v l := by
  obtain ⟨hl, h8, a, cap, rfl, hc⟩ := h
  refine ⟨hl, h8, a, cap, rfl, fun i hi => ?_⟩
  obtain ⟨b, off, rfl, hj⟩ := hc i hi
  exact ⟨b, off, rfl, fun j hj' => by rw [hb.cell (cell_lt (hj j hj'))]; exact hj j hj'⟩


set_option maxHeartbeats 1000000 in
/-- two slices of the same bytes -/
theorem eqByteS_same (v u : Value) (l : List Int) (w : World) (hv : Bs w v l) (hu : Bs w u l) :
    Calls Tryd.prog 9 #[v, u] w fun e w' => e = .returned (.bool true) ∧ Below w.heap.size w w' := by
  obtain ⟨hl, h8, a, cap, rfl, hc⟩ := hv
  obtain ⟨_, _, a', cap', rfl, hc'⟩ := hu
  unfold maxLen at hl
  go_enter Tryd.func9, Tryd.ntmps9
  go_wp2
  go_loopw [5] (fun i wr => ∃ k : Nat, k ≤ l.length ∧ i = .int .i64 k ∧ ∃ n, wr = w.drewN n) (fun i _ => l.length - (intOf i).toNat)
  case atStart => exact ⟨0, Nat.zero_le _, rfl, 0, rfl⟩
  case round =>
    obtain ⟨k, hk, rfl, n, rfl⟩ := hrel
    by_cases hlt : k < l.length
    · obtain ⟨b, off, rfl, hcell⟩ := hc k hlt
      obtain ⟨b', off', rfl, hcell'⟩ := hc' k hlt
      have hck := hcell k hlt
      have hck' := hcell' k hlt
      clear hcell hcell' hc hc'
      go_wp2
      go_quiet (fail)
      go_wp2
      go_roundw
      case rel => exact ⟨k + 1, by omega, by go_num, _, rfl⟩
      case measure => simp [intOf]; omega
    · have e : k = l.length := by omega
      subst e
      go_wp2
      go_ret
      exact ⟨rfl, rfl, rfl, rfl, Nat.le_refl _, fun _ _ => rfl⟩
end Go.Proofs.YtlfnlhbkagjheaaDoor

/-
  Byte slices that the call itself owns; append to them.
-/
namespace Go.Proofs.YtlfnlhbkagjheaaDoor
open Go.RowKit
set_option linter.unusedVariables false

theorem infoU8 : (Tryd.prog.info? 5).map (fun i => (i.zero, i.size, i.bytes)) = some (some (.int .u8 0), 1, 1) := by kernel_rfl

/-- the slice value v, in memory from block B on that is the call's own, holds the bytes l -/
def Own (w : World) (B : Nat) (v : Value) (l : List Int) : Prop :=
  (∀ x ∈ l, 0 ≤ x ∧ x ≤ 255) ∧ w.ownsRow B 5 1 v l.length (l.map (Value.int .u8))

theorem Own.nil (w : World) (B : Nat) : Own w B (.slice none 0 0) [] := ⟨by simp, by simpa using World.ownsRow_nil w B 5 1⟩

theorem Own.shape {w : World} {B : Nat} {v : Value} {l : List Int} (h : Own w B v l) : ∃ a cap, v = .slice a l.length cap := by
  rcases h.2.2 with ⟨rfl, h0⟩ | ⟨g, cap, cur, rfl, _⟩
  · exact ⟨none, 0, by rw [h0]⟩
  · exact ⟨_, _, rfl⟩

theorem Own.shape' {w : World} {B : Nat} {v : Value} {l : List Int} (h : Own w B v l) (hl : 0 < l.length) : ∃ g cap, v = .slice (some ⟨g, 0, none⟩) l.length cap := by
  rcases h.2.2 with ⟨rfl, h0⟩ | ⟨g, cap, cur, rfl, _⟩
  · omega
  · exact ⟨_, _, rfl⟩

theorem Own.le {w : World} {B B' : Nat} {v : Value} {l : List Int} (h : Own w B v l) (hb : B' ≤ B) : Own w B' v l := by
  refine ⟨h.1, h.2.1, ?_⟩
  rcases h.2.2 with h | ⟨g, cap, cur, hv, hg, r⟩
  · exact .inl h
  · exact .inr ⟨g, cap, cur, hv, Nat.le_trans hb hg, r⟩

theorem heap_lt {w : World} {g : Nat} {o : Obj} (h : w.heap[g]? = some o) : g < w.heap.size := by
  rcases Nat.lt_or_ge g w.heap.size with h' | h'
  · exact h'
  · rw [Array.getElem?_eq_none h'] at h; cases h

theorem Own.below {w w' : World} {B : Nat} {v : Value} {l : List Int} (h : Own w B v l) (hb : Below w.heap.size w w') : Own w' B v l := by
  refine ⟨h.1, h.2.1, ?_⟩
  rcases h.2.2 with h | ⟨g, cap, cur, hv, hg, hh, r⟩
  · exact .inl h
  · exact .inr ⟨g, cap, cur, hv, hg, (hb.block g (heap_lt hh)).trans hh, r⟩

theorem cell_add (b o j : Nat) : (⟨b, o, none⟩ : Addr).add j = ⟨b, o + j, none⟩ := by
  unfold Addr.add
  split
  · next h => subst h; rfl
  · rfl

theorem Own.bs {w : World} {B : Nat} {v : Value} {l : List Int} (h : Own w B v l) (hl : l.length ≤ maxLen) : Bs w v l := by
  obtain ⟨a, cap, rfl⟩ := h.shape
  refine ⟨hl, h.1, a, cap, rfl, fun i hi => ?_⟩
  obtain ⟨g, cap', e⟩ := h.shape' (by omega)
  simp only [Value.slice.injEq] at e
  obtain ⟨rfl, _, rfl⟩ := e
  refine ⟨g, 0, rfl, fun j hj => ?_⟩
  have := h.2.cellAt j (by omega)
  rw [Nat.zero_add, this]
  simp [hj]

theorem Own.lit (w : World) (l : List Int) (cs : Array Value) (hc : cs.toList = l.map (Value.int .u8)) (h8 : ∀ x ∈ l, 0 ≤ x ∧ x ≤ 255) (hl : l.length ≤ maxLen) :
    Own (w.alloc (.cells cs 5)) w.heap.size (.slice (some ⟨w.heap.size, 0, none⟩) l.length l.length) l := by
  have hs : cs.size = l.length := by rw [← Array.length_toList, hc, List.length_map]
  refine ⟨h8, by simp, .inr ⟨w.heap.size, l.length, cs, rfl, Nat.le_refl _, ?_, Nat.le_refl _, hl, by omega, ?_⟩⟩
  · show (w.heap.push _)[_]? = _
    simp
  · rw [hc, List.take_of_length_le (by simp)]

/-- w' is w but for v's own row and new blocks; the new value v' lies in v's row or in a new block -/
structure Grew (w : World) (v : Value) (w' : World) (v' : Value) : Prop where
  g : w.grownBy w' v.ownBlock
  at' : v'.ownBlock = v.ownBlock ∨ ∃ k, v'.ownBlock = some k ∧ w.heap.size ≤ k

theorem Grew.refl (w : World) (v : Value) : Grew w v w v := ⟨⟨rfl, rfl, rfl, Nat.le_refl _, fun _ _ _ => rfl⟩, .inl rfl⟩
theorem Grew.trans {w w1 w2 : World} {v v1 v2 : Value} (h : Grew w v w1 v1) (k : Grew w1 v1 w2 v2) : Grew w v w2 v2 := by
  have hs := h.g.size
  refine ⟨⟨k.g.os.trans h.g.os, k.g.tape.trans h.g.tape, k.g.output.trans h.g.output, Nat.le_trans h.g.size k.g.size, fun i hi hne => ?_⟩, ?_⟩
  · refine (k.g.block i (by omega) ?_).trans (h.g.block i hi hne)
    rcases h.at' with e | ⟨j, e, hj⟩
    · rw [e]; exact hne
    · rw [e]; intro he; injection he with he; omega
  · rcases k.at' with e | ⟨j, e, hj⟩
    · rw [e]; exact h.at'
    · exact .inr ⟨j, e, by omega⟩
theorem Grew.alloc {w w' : World} {v v' : Value} (h : Grew w v w' v') (o : Obj) : Grew w v (w'.alloc o) v' :=
  h.trans ⟨World.grownBy_alloc _ _ _, .inl rfl⟩
theorem Grew.below {B : Nat} {w w' : World} {v v' : Value} {l : List Int} (h : Grew w v w' v') (hown : Own w B v l) (hB : B ≤ w.heap.size) : Below B w w' :=
  (Below.refl _ _).grown h.g hB (fun k hk => (hown.2.lt k hk).1)
/-- a block that is not v's own stays -/
theorem Grew.block {w w' : World} {v v' : Value} (h : Grew w v w' v') {k : Nat} (hk : k < w.heap.size) (hne : v.ownBlock ≠ some k) : w'.heap[k]? = w.heap[k]? := h.g.block k hk (fun e => hne e.symm)
theorem Grew.far {w w' : World} {v v' : Value} (h : Grew w v w' v') {k : Nat} (hk : k < w.heap.size) (hne : v.ownBlock ≠ some k) : v'.ownBlock ≠ some k := by
  rcases h.at' with e | ⟨j, e, hj⟩
  · rw [e]; exact hne
  · rw [e]; intro he; injection he with he; omega
theorem Grew.cell {w w' : World} {v v' : Value} (h : Grew w v w' v') {k o : Nat} (hk : k < w.heap.size) (hne : v.ownBlock ≠ some k) : w'.cell? ⟨k, o, none⟩ = w.cell? ⟨k, o, none⟩ := World.cell?_of_block (w := w) (h.block hk hne)
theorem Grew.of_below {w w' : World} {v : Value} (h : Below w.heap.size w w') : Grew w v w' v := ⟨⟨h.os, h.tape, h.output, h.size, fun k hk _ => h.block k hk⟩, .inl rfl⟩

set_option maxRecDepth 100000 in
theorem wpl_append {w : World} {ops : Array Oper} {rest : List Oper} {o : Oper} {a : Act} {Q : Exit → Act → World → Prop} (hgd : o.guard = none) (s x : Operand)
    (ho : o.op = .call { callee := .builtin .append, args := #[s, x], argTypes := #[22, 22] })
    {B : Nat} {v u : Value} {l l2 : List Int} (hown : Own w B v l) (hs : a.eval s = v) (hu : Bs w u l2) (hx : a.eval x = u) (hne : 0 < l2.length) (hlen : l.length + l2.length ≤ 1073741824) (hB : B ≤ w.heap.size)
    (h : ∀ v' w', Own w' B v' (l ++ l2) → Grew w v w' v' → wpList Tryd.prog ops Q rest (a.put o.dst v') w') : wpList Tryd.prog ops Q (o :: rest) a w := by
  obtain ⟨i0, hi, hz0, hz1, hz2⟩ := info_parts infoU8
  obtain ⟨_, h8, au, cu, rfl, hc⟩ := hu
  obtain ⟨b, off, rfl, hcell⟩ := hc 0 hne
  refine wpList_append_own_at w hgd s x 22 ho B 5 i0 (.int .u8 0) 1 1 Tryd.underlying22 hi hz0 hz1 hz2 rfl (by decide) v l.length _ hs hown.2 ⟨b, off, none⟩ l2.length cu (l2.map (Value.int .u8)) hx (by simp) ?_ ?_ (by unfold maxLen; omega) (by omega) hB ?_
  · intro j u hj
    rw [cell_add]
    rw [List.getElem?_map] at hj
    cases hk : l2[j]? with
    | none => rw [hk] at hj; cases hj
    | some y =>
      rw [hk] at hj
      have hjl : j < l2.length := by
        rcases Nat.lt_or_ge j l2.length with h' | h'
        · exact h'
        · rw [List.getElem?_eq_none h'] at hk; cases hk
      rw [hcell j hjl, hk]
      exact hj
  · intro u hu
    simp only [List.mem_map] at hu
    obtain ⟨y, _, rfl⟩ := hu
    rfl
  · intro v' w' h2 h3 _ h5
    refine h v' w' ⟨fun y hy => ?_, by simpa using h2⟩ ⟨h3, h5.imp id fun e => ⟨_, e, Nat.le_refl _⟩⟩
    rcases List.mem_append.1 hy with hy | hy
    · exact hown.1 y hy
    · exact h8 y hy

/-- the bytes of a string -/
def strL (s : ByteArray) : List Int := s.data.toList.map fun c => (c.toNat : Int)
theorem strL_len (s : ByteArray) : (strL s).length = s.size := by simp [strL]
theorem strL_byte (s : ByteArray) : ∀ x ∈ strL s, 0 ≤ x ∧ x ≤ 255 := by
  intro x hx
  simp only [strL, List.mem_map] at hx
  obtain ⟨c, _, rfl⟩ := hx
  have := c.toNat_lt
  omega

set_option maxRecDepth 100000 in
theorem wpl_append_str {w : World} {ops : Array Oper} {rest : List Oper} {o : Oper} {a : Act} {Q : Exit → Act → World → Prop} (hgd : o.guard = none) (sl x : Operand)
    (ho : o.op = .call { callee := .builtin .append, args := #[sl, x], argTypes := #[22, 9] })
    {B : Nat} {v : Value} {l : List Int} {t : ByteArray} (hown : Own w B v l) (hpos : 0 < l.length) (hs : a.eval sl = v) (hx : a.eval x = .string t) (hlen : l.length + t.size ≤ 1073741824) (hB : B ≤ w.heap.size)
    (h : ∀ v' w', Own w' B v' (l ++ strL t) → Grew w v w' v' → wpList Tryd.prog ops Q rest (a.put o.dst v') w') : wpList Tryd.prog ops Q (o :: rest) a w := by
  obtain ⟨i0, hi, hz0, hz1, hz2⟩ := info_parts infoU8
  refine wpList_plain hgd fun K hK => ?_
  obtain ⟨v', w', hr, h2, h3, h4⟩ := Lib.run_append_own_string (P := Tryd.prog) w B 22 9 o.type 5 i0 Tryd.underlying22 Tryd.underlying9 hi hz0 hz1 hz2 v l.length _ hown.2 t (by unfold maxLen; omega) (by omega) hB
  have hat : v'.ownBlock = v.ownBlock ∨ ∃ k, v'.ownBlock = some k ∧ w.heap.size ≤ k := by
    rcases hown.2.2 with ⟨_, h0⟩ | ⟨g, cap, cur, rfl, hbg, hg, hnc, hcm, hcs, htake⟩
    · omega
    · have hcs' : cur.size = cap := by simpa using hcs
      by_cases hroom : l.length + t.size ≤ cap
      · have hr2 := Lib.run_append_room_string (P := Tryd.prog) w 22 9 o.type 5 i0 Tryd.underlying22 Tryd.underlying9 hi hz1 g l.length cap cur hg t hroom (by omega)
        rw [hr2] at hr
        injection hr with e1 e2
        rw [← e1]
        exact .inl rfl
      · have holds := hown.2.cells (g := g) rfl
        have hr2 := Lib.run_append_grow_string (P := Tryd.prog) w 22 9 o.type 5 i0 (.int .u8 0) Tryd.underlying22 Tryd.underlying9 hi hz0 ⟨g, 0, none⟩ l.length cap (l.map (Value.int .u8)) (by rw [hz1]; simp) holds t (by omega) (by omega) (by rw [hz2]; exact growslice_fits (by omega) (by omega))
        rw [hr2] at hr
        injection hr with e1 e2
        rw [← e1]
        exact .inr ⟨_, rfl, Nat.le_refl _⟩
  unfold Oper.wp execOp
  simp only [ho, resolve, invoke, builtin, Sem.run_bind, Sem.run_pure, Result.andThen_ok, List.map_toArray, List.map_cons, List.map_nil, hs, hx, hr]
  refine hK _ _ (h v' w' ⟨fun y hy => ?_, ?_⟩ ⟨h3, hat⟩)
  · rcases List.mem_append.1 hy with hy | hy
    · exact hown.1 y hy
    · exact strL_byte t y hy
  · have e : (l ++ strL t).map (Value.int .u8) = l.map (Value.int .u8) ++ Lib.strCells t := by
      rw [List.map_append]
      congr 1
      simp [strL, Lib.strCells]
    rw [e, List.length_append, strL_len]
    exact h2
end Go.Proofs.YtlfnlhbkagjheaaDoor

/-
  Reading a body from left to right: on lists.
-/
namespace Go.Proofs.YtlfnlhbkagjheaaDoor
open Go.RowKit
set_option linter.unusedVariables false

/-- what the first k bytes of a number's form add up to -/
def valL (l : List Int) : Nat → Nat
  | 0 => 0
  | k + 1 => valL l k + (l[k]?.getD 0).toNat % 128 * 128 ^ k
theorem valL_lt (l : List Int) (k : Nat) : valL l k < 128 ^ k := by
  induction k with
  | zero => simp [valL]
  | succ k ih =>
    have h : (l[k]?.getD 0).toNat % 128 ≤ 127 := by omega
    have := Nat.mul_le_mul_right (128 ^ k) h
    rw [valL, Nat.pow_succ]
    omega

/-- the number whose form begins at place k, in at most f bytes: its value and how many bytes there are in all -/
def numAt (l : List Int) : Nat → Nat → Option (Nat × Nat)
  | 0, _ => none
  | f + 1, k =>
    if k < l.length then
      (if 128 ≤ l[k]?.getD 0 then numAt l f (k + 1)
       else if l[k]?.getD 0 = 0 ∧ 0 < k then none
       else some (valL l (k + 1), k + 1))
    else none
def numR (l : List Int) : Option (Nat × Nat) := numAt l 5 0

theorem numAt_bounds (l : List Int) (f : Nat) : ∀ k v n, f + k ≤ 5 → numAt l f k = some (v, n) → n ≤ l.length ∧ k < n ∧ v < 34359738368 := by
  induction f with
  | zero => intro k v n _ h; cases h
  | succ f ih =>
    intro k v n hk h
    unfold numAt at h
    split at h
    · next hl =>
      split at h
      · have := ih (k + 1) v n (by omega) h
        omega
      · split at h
        · cases h
        · injection h with h
          injection h with h1 h2
          have hv := valL_lt l (k + 1)
          have hp : 128 ^ (k + 1) ≤ 128 ^ 5 := Nat.pow_le_pow_right (by decide) (by omega)
          have : (128 : Nat) ^ 5 = 34359738368 := by decide
          omega
    · cases h
theorem numR_bounds {l : List Int} {v n : Nat} (h : numR l = some (v, n)) : n ≤ l.length ∧ 0 < n ∧ v < 34359738368 := numAt_bounds l 5 0 v n (by decide) h

/-- a reader's state: what is left, none behind a refusal -/
abbrev RSt := Option (List Int)

def rdNum : RSt → Nat × RSt
  | none => (0, none)
  | some l => match numR l with
    | none => (0, none)
    | some (v, n) => (v, some (l.drop n))
theorem rdNum_lt (st : RSt) : (rdNum st).1 < 34359738368 := by
  unfold rdNum
  split
  · simp
  · split
    · simp
    · next h => exact (numR_bounds h).2.2
def stLen : RSt → Nat
  | none => 0
  | some l => l.length
theorem rdNum_len (st : RSt) : stLen (rdNum st).2 ≤ stLen st := by
  unfold rdNum
  split
  · simp
  · split
    · simp [stLen]
    · next h => simp [stLen]

/-- the text of bytes -/
def textOf (l : List Int) : ByteArray := strOfNums l

def rdText (st : RSt) : ByteArray × RSt :=
  match (rdNum st).2 with
  | none => (ByteArray.empty, none)
  | some l => if 64 < (rdNum st).1 ∨ l.length < (rdNum st).1 then (ByteArray.empty, none) else (strOfNums (l.take (rdNum st).1), some (l.drop (rdNum st).1))

theorem rdText_size (st : RSt) : (rdText st).1.size ≤ 64 := by
  unfold rdText
  split
  · decide
  · split
    · decide
    · next h =>
      rw [strOfNums_size, List.length_take]
      omega
theorem rdText_len (st : RSt) : stLen (rdText st).2 ≤ stLen st := by
  have h := rdNum_len st
  unfold rdText
  split
  · simp [stLen]
  · next l e =>
    rw [e] at h
    split
    · simp [stLen]
    · simp only [stLen, List.length_drop] at h ⊢
      omega

theorem i64_or_nat (a b : Nat) (ha : a < 9223372036854775808) (hb : b < 9223372036854775808) : bits .or .i64 (a : Int) (b : Int) = ((a ||| b : Nat) : Int) := by
  have hx : a ||| b < 2 ^ 63 := Nat.or_lt_two_pow (by omega) (by omega)
  show IntKind.i64.wrap ((BitVec.ofInt 64 (a : Int) ||| BitVec.ofInt 64 (b : Int)).toNat : Int) = _
  rw [BitVec.toNat_or, ofInt_u64 a (by omega), ofInt_u64 b (by omega)]
  rw [IntKind.wrap_i64]
  omega
theorem or_step (a x k : Nat) (ha : a < 128 ^ k) (hx : x < 128) (hk : k ≤ 4) : bits .or .i64 (a : Int) ((x : Int) * 128 ^ k) = ((a + x * 128 ^ k : Nat) : Int) := by
  have h2 : (128 : Nat) ^ k = 2 ^ (7 * k) := by rw [Nat.pow_mul]
  have hp : 128 ^ k ≤ 128 ^ 4 := Nat.pow_le_pow_right (by decide) hk
  have h5 : (128 : Nat) ^ 4 = 268435456 := by decide
  have hm : x * 128 ^ k ≤ 127 * 128 ^ k := Nat.mul_le_mul_right _ (by omega)
  have e : (x : Int) * 128 ^ k = ((x * 128 ^ k : Nat) : Int) := by simp
  rw [e, i64_or_nat a (x * 128 ^ k) (by omega) (by omega)]
  congr 1
  rw [Nat.or_comm, nat_join (7 * k) (x * 128 ^ k) a (by rw [h2]; exact Nat.mul_mod_left _ _) (by rw [← h2]; exact ha), Nat.add_comm]
theorem and_127 (c : Int) (h0 : 0 ≤ c) (h1 : c ≤ 255) : bits .and .u8 c 127 = ((c.toNat % 128 : Nat) : Int) := by
  rw [u8_and c 127 h0 (by omega) (by decide) (by decide)]
  congr 1
  exact Nat.and_two_pow_sub_one_eq_mod _ 7
end Go.Proofs.YtlfnlhbkagjheaaDoor

/-
  Over a store into a row.
-/
namespace Go.Proofs.YtlfnlhbkagjheaaDoor
open Go.RowKit
set_option linter.unusedVariables false

theorem Rd.frame {w : World} {b : Nat} (x : Nat) (v : Value) : w.grownBy (w.setCell ⟨b, x, none⟩ v) (some b) :=
  ⟨rfl, rfl, rfl, by simp [World.setCell], fun k _ hk => Below.heap_setCell _ _ _ _ (fun e => hk (by rw [e]))⟩

theorem grownBy_trans {w w1 w2 : World} {row : Option Nat} (h : w.grownBy w1 row) (k : w1.grownBy w2 row) : w.grownBy w2 row :=
  ⟨k.os.trans h.os, k.tape.trans h.tape, k.output.trans h.output, Nat.le_trans h.size k.size, fun i hi hne => (k.block i (Nat.lt_of_lt_of_le hi h.size) hne).trans (h.block i hi hne)⟩
theorem grownBy_refl (w : World) (row : Option Nat) : w.grownBy w row := ⟨rfl, rfl, rfl, Nat.le_refl _, fun _ _ _ => rfl⟩
end Go.Proofs.YtlfnlhbkagjheaaDoor

/-
  errors.Is and errors.As at the errors of the wire: nil, and a refusal that wraps a sentinel.
-/
namespace Go.Proofs.YtlfnlhbkagjheaaDoor
open Go.RowKit Go.Extern.Stop Go.Stop Go.Extern
set_option linter.unusedVariables false

/-- the value of a sentinel -/
abbrev sentV (a : Addr) : Value := .iface 131 (.pointer (some a))
/-- an error that wraps the sentinel at a, with a fault -/
abbrev refV (a : Addr) (f : Int) : Value := .iface 94 (.agg #[sentV a, .int .i64 f])

theorem isTypeOf (v : Value) (w : World) : (Extern.ReflectliteType.typeOf #[.iface 131 v]).run Tryd.prog w = .ok (.iface 120 (.agg #[.pointer (some ⟨9, 131, none⟩)])) w := by kernel_rfl
def cmpM : Array Value → Sem Value := Extern.ReflectliteType.method fun t => do Rtype.noPackHeld "Comparable" t; pure (.bool (← typeInfo t).comparable)
theorem isComparable (w : World) : (cmpM #[.agg #[.pointer (some ⟨9, 131, none⟩)]]).run Tryd.prog w = .ok (.bool true) w := by kernel_rfl
theorem isMethodComparable (v : Value) (w : World) : (Go.method 272 120 v "Comparable").run Tryd.prog w = .ok (109, v) w := by kernel_rfl
theorem isComp : (Tryd.prog.info? 131).map (·.comparable) = some true := by kernel_rfl
theorem isSize : (Tryd.prog.info? 160).map (·.size) = some 1 := by kernel_rfl
theorem noIsE (v : Value) (xT : TypeId) (w : World) : (Instr.typeAssert (.iface 131 v) xT 122 true).run Tryd.prog w = .ok (.tuple #[.nilIface, .bool false]) w := run_typeAssert_lacksB Tryd.underlying122 (by kernel_rfl) (by kernel_rfl) v xT w
theorem noUnwrapE (v : Value) (xT : TypeId) (w : World) : (Instr.typeAssert (.iface 131 v) xT 125 true).run Tryd.prog w = .ok (.tuple #[.nilIface, .bool false]) w := run_typeAssert_lacksB Tryd.underlying125 (by kernel_rfl) (by kernel_rfl) v xT w
theorem noUnwrapsE (v : Value) (xT : TypeId) (w : World) : (Instr.typeAssert (.iface 131 v) xT 126 true).run Tryd.prog w = .ok (.tuple #[.nilIface, .bool false]) w := run_typeAssert_lacksB Tryd.underlying126 (by kernel_rfl) (by kernel_rfl) v xT w
theorem noIsW (v : Value) (xT : TypeId) (w : World) : (Instr.typeAssert (.iface 94 v) xT 122 true).run Tryd.prog w = .ok (.tuple #[.nilIface, .bool false]) w := run_typeAssert_lacksB Tryd.underlying122 (by kernel_rfl) (by kernel_rfl) v xT w
theorem hasUnwrapW (v : Value) (xT : TypeId) (w : World) : (Instr.typeAssert (.iface 94 v) xT 125 true).run Tryd.prog w = .ok (.tuple #[.iface 94 v, .bool true]) w := run_typeAssert_hasB Tryd.underlying125 (by kernel_rfl) v xT w
theorem methodUnwrap (v : Value) (w : World) : (Go.method 272 94 v "Unwrap").run Tryd.prog w = .ok (87, v) w := by kernel_rfl

theorem refusal_unwrap (a : Addr) (f : Int) (w : World) :
    Calls Tryd.prog 87 #[.agg #[sentV a, .int .i64 f]] w fun e w' => e = .returned (sentV a) ∧ w' = w.alloc (.cells #[sentV a, .int .i64 f] 94) := by
  go_enter Tryd.func87, Tryd.ntmps87
  go_wp2
  go_ret
  exact ⟨rfl, rfl⟩

/-- errors.Is(nil, x). -/
theorem is_nil (b : Addr) (w : World) :
    Calls Tryd.prog 45 #[.nilIface, sentV b] w fun e w' => e = .returned (.bool false) ∧ w' = w := by
  have hn := run_eql_iface_nil_left (P := Tryd.prog) w 131 (.pointer (some b)) Tryd.underlying61
  go_enter Tryd.func45, Tryd.ntmps45
  go_wp2
  go_ret
  exact ⟨rfl, rfl⟩

/-- errors.Is(e, x), e a refusal that wraps x itself: one Unwrap, then equal. -/
theorem is_same (b : Addr) (f : Int) (w : World) :
    Calls Tryd.prog 45 #[refV b f, sentV b] w fun e w' => e = .returned (.bool true) ∧ Below w.heap.size w w' := by
  obtain ⟨i, hi, hcmp⟩ := Option.map_eq_some_iff.1 isComp
  obtain ⟨j, hj, hjs⟩ := Option.map_eq_some_iff.1 isSize
  have h8 := @run_callFunc_extern Tryd.prog 61 _ Extern.ReflectliteType.typeOf Tryd.func61 (by kernel_rfl) (by kernel_rfl) (by kernel_rfl) (by kernel_rfl)
  have h32 := @run_callFunc_extern Tryd.prog 109 _ cmpM Tryd.func109 (by kernel_rfl) (by kernel_rfl) (by kernel_rfl) (by kernel_rfl)
  have tT := isTypeOf
  have cT := isComparable
  have mR := isMethodComparable
  have nW := noIsW
  have uW := hasUnwrapW
  have mU := methodUnwrap
  have heq := run_eql_iface_ptr_same (P := Tryd.prog) (w.alloc (.cells #[sentV b, .int .i64 f] 94)) b Tryd.underlying61 Tryd.underlying131 hi hcmp hj
  have hty := run_eql_iface_types (P := Tryd.prog) 94 131 (.agg #[sentV b, .int .i64 f]) (.pointer (some b)) Tryd.underlying61 (by decide) w
  go_enter Tryd.func45, Tryd.ntmps45
  go_wp2
  refine wp_loop_rounds 2 ?_
  rw [rounds_succ]
  go_wp2
  rw [rounds_succ]
  go_wp2
  go_ret
  exact ⟨rfl, (Below.refl _ _).alloc (Nat.le_refl _) _⟩

/-- errors.Is(e, x), e a refusal that wraps another sentinel. -/
theorem is_other (a b : Addr) (f : Int) (ca cb : Array Value) (ta tb : TypeId) (w : World) (hne : a ≠ b) (ha : w.heap[a.block]? = some (.cells ca ta (0, 0))) (hb : w.heap[b.block]? = some (.cells cb tb (0, 0))) :
    Calls Tryd.prog 45 #[refV a f, sentV b] w fun e w' => e = .returned (.bool false) ∧ Below w.heap.size w w' := by
  obtain ⟨i, hi, hcmp⟩ := Option.map_eq_some_iff.1 isComp
  obtain ⟨j, hj, hjs⟩ := Option.map_eq_some_iff.1 isSize
  have h8 := @run_callFunc_extern Tryd.prog 61 _ Extern.ReflectliteType.typeOf Tryd.func61 (by kernel_rfl) (by kernel_rfl) (by kernel_rfl) (by kernel_rfl)
  have h32 := @run_callFunc_extern Tryd.prog 109 _ cmpM Tryd.func109 (by kernel_rfl) (by kernel_rfl) (by kernel_rfl) (by kernel_rfl)
  have tT := isTypeOf
  have cT := isComparable
  have mR := isMethodComparable
  have nE := noIsE
  have uE := noUnwrapE
  have vE := noUnwrapsE
  have nW := noIsW
  have uW := hasUnwrapW
  have mU := methodUnwrap
  have al : ∀ (k : Nat) (o : Obj), w.heap[k]? = some o → (w.alloc (.cells #[sentV a, .int .i64 f] 94)).heap[k]? = some o := fun k o h => by
    have hlt : k < w.heap.size := by
      rcases Nat.lt_or_ge k w.heap.size with h' | h'
      · exact h'
      · rw [Array.getElem?_eq_none h'] at h; cases h
    show (w.heap.push _)[k]? = _
    rw [Array.getElem?_push, if_neg (Nat.ne_of_lt hlt)]
    exact h
  have heq := run_eql_iface_ptr_other (P := Tryd.prog) (w.alloc (.cells #[sentV a, .int .i64 f] 94)) Tryd.underlying61 Tryd.underlying131 hi hcmp hj (by rw [hjs]; decide) hne (al _ _ ha) (al _ _ hb)
  have hty := run_eql_iface_types (P := Tryd.prog) 94 131 (.agg #[sentV a, .int .i64 f]) (.pointer (some b)) Tryd.underlying61 (by decide) w
  go_enter Tryd.func45, Tryd.ntmps45
  go_wp2
  refine wp_loop_rounds 2 ?_
  rw [rounds_succ]
  go_wp2
  rw [rounds_succ]
  go_wp2
  go_ret
  exact ⟨rfl, (Below.refl _ _).alloc (Nat.le_refl _) _⟩
end Go.Proofs.YtlfnlhbkagjheaaDoor

/-
  The nine sentinels.
-/
namespace Go.Proofs.YtlfnlhbkagjheaaDoor
open Go.RowKit Go.Extern.Stop Go.Stop Go.Extern
set_option linter.unusedVariables false

/-- the nine sentinels lie at A 1 .. A 9 -/
structure Sents (w : World) (A : Nat → Addr) (B : Nat) : Prop where
  g1 : w.cell? ⟨7, 0, none⟩ = some (sentV (A 1))
  g2 : w.cell? ⟨8, 0, none⟩ = some (sentV (A 2))
  g3 : w.cell? ⟨2, 0, none⟩ = some (sentV (A 3))
  g4 : w.cell? ⟨3, 0, none⟩ = some (sentV (A 4))
  g5 : w.cell? ⟨4, 0, none⟩ = some (sentV (A 5))
  g6 : w.cell? ⟨5, 0, none⟩ = some (sentV (A 6))
  g7 : w.cell? ⟨0, 0, none⟩ = some (sentV (A 7))
  g8 : w.cell? ⟨1, 0, none⟩ = some (sentV (A 8))
  g9 : w.cell? ⟨6, 0, none⟩ = some (sentV (A 9))
  row : ∀ i, 1 ≤ i → i ≤ 9 → ∃ c t, w.heap[(A i).block]? = some (.cells c t (0, 0))
  ne : ∀ i j, 1 ≤ i → i ≤ 9 → 1 ≤ j → j ≤ 9 → i ≠ j → A i ≠ A j
  gl : 9 ≤ B
  lt : ∀ i, 1 ≤ i → i ≤ 9 → (A i).block < B
  le : B ≤ w.heap.size

theorem Sents.kept {w w' : World} {A : Nat → Addr} {B : Nat} (h : Sents w A B) (hb : Below B w w') : Sents w' A B := by
  have hg := h.gl
  have c : ∀ {k o : Nat} {v : Value}, k < B → w.cell? ⟨k, o, none⟩ = some v → w'.cell? ⟨k, o, none⟩ = some v := fun {k o v} hk hc => by rw [hb.cell (p := ⟨k, o, none⟩) hk]; exact hc
  refine ⟨c (by omega) h.g1, c (by omega) h.g2, c (by omega) h.g3, c (by omega) h.g4, c (by omega) h.g5, c (by omega) h.g6, c (by omega) h.g7, c (by omega) h.g8, c (by omega) h.g9, fun i h1 h6 => ?_, h.ne, hg, h.lt, Nat.le_trans h.le hb.size⟩
  obtain ⟨x, t, e⟩ := h.row i h1 h6
  exact ⟨x, t, (hb.block _ (h.lt i h1 h6)).trans e⟩
theorem Sents.below {w w' : World} {A : Nat → Addr} {B : Nat} (h : Sents w A B) (hb : Below w.heap.size w w') : Sents w' A B := h.kept (hb.mono h.le)

theorem is_at {w : World} {A : Nat → Addr} {B : Nat} (hs : Sents w A B) (i j : Nat) (f : Int) (h1 : 1 ≤ i) (h6 : i ≤ 9) (k1 : 1 ≤ j) (k6 : j ≤ 9) :
    Calls Tryd.prog 45 #[refV (A i) f, sentV (A j)] w fun e w' => e = .returned (.bool (decide (i = j))) ∧ Below w.heap.size w w' := by
  by_cases e : i = j
  · subst e
    simpa using is_same (A i) f w
  · obtain ⟨c, t, hc⟩ := hs.row i h1 h6
    obtain ⟨c', t', hc'⟩ := hs.row j k1 k6
    simpa [e] using is_other (A i) (A j) f c c' t t' w (hs.ne i j h1 h6 k1 k6 e) hc hc'
end Go.Proofs.YtlfnlhbkagjheaaDoor

/-
  impl.reader in memory; refuse, number.
-/
namespace Go.Proofs.YtlfnlhbkagjheaaDoor
open Go.RowKit
set_option linter.unusedVariables false

/-- a slice value whose length is within its capacity; it lies below D -/
def Fits (D : Nat) (v : Value) (l : List Int) : Prop := ∃ a n c, v = .slice a n c ∧ n ≤ c ∧ (0 < l.length → ∃ x, a = some x ∧ x.block < D)

/-- the reader that lies in block b, B ≤ b < D, has the state st; its bytes lie below D -/
def Rd (w : World) (b : Nat) (A : Nat → Addr) (B D : Nat) (st : RSt) : Prop :=
  B ≤ b ∧ b < D ∧ D ≤ w.heap.size ∧ (∀ i, w.frozen? ⟨b, i, none⟩ = false) ∧
  match st with
  | none => w.cell? ⟨b, 0, none⟩ = some (.slice none 0 0) ∧ w.cell? ⟨b, 1, none⟩ = some (refV (A 5) 0)
  | some l => (∃ v, w.cell? ⟨b, 0, none⟩ = some v ∧ Bs w v l ∧ Fits D v l) ∧ w.cell? ⟨b, 1, none⟩ = some .nilIface

def noByte : Value → Prop
  | .int .u8 _ => False
  | _ => True

/-- bytes stay where a cell that is no byte is written -/
theorem Bs.setCell {w : World} {v : Value} {l : List Int} (h : Bs w v l) {b i : Nat} {x : Value} (hx : w.cell? ⟨b, i, none⟩ = some x) (hn : noByte x) (y : Value) : Bs (w.setCell ⟨b, i, none⟩ y) v l := by
  obtain ⟨hl, h8, a, cap, rfl, hc⟩ := h
  refine ⟨hl, h8, a, cap, rfl, fun k hk => ?_⟩
  obtain ⟨b', off, rfl, hj⟩ := hc k hk
  refine ⟨b', off, rfl, fun j hj' => ?_⟩
  rw [World.cell?_setCell_other w _ _ _ ?_]
  · exact hj j hj'
  · intro e
    have hj2 := hj j hj'
    rw [← e, hx] at hj2
    injection hj2 with e'
    rw [e'] at hn
    exact hn

theorem Bs.drop {w : World} {a : Option Addr} {n c : Nat} {l : List Int} (h : Bs w (.slice a n c) l) (hc : n ≤ c) {D : Nat} (hD : 0 < l.length → ∃ x, a = some x ∧ x.block < D) (k : Nat) (hk : k ≤ l.length) :
    Bs w (sliced a k n c 1) (l.drop k) ∧ Fits D (sliced a k n c 1) (l.drop k) := by
  obtain ⟨hl, h8, a', cap, e, hcell⟩ := h
  injection e with e1 e2 e3
  subst e1 e2 e3
  refine ⟨⟨by simp; omega, fun x hx => h8 x (List.mem_of_mem_drop hx), _, c - k, by simp [sliced]; rfl, fun i hi => ?_⟩, ⟨_, _, _, rfl, by omega, fun hp => ?_⟩⟩
  rotate_left
  · rw [List.length_drop] at hp
    obtain ⟨x, rfl, hx⟩ := hD (by omega)
    rw [if_neg (by omega)]
    refine ⟨_, rfl, ?_⟩
    show (x.add (k * 1)).block < D
    unfold Addr.add
    split <;> exact hx
  rw [List.length_drop] at hi
  obtain ⟨b, off, rfl, hj⟩ := hcell 0 (by omega)
  refine ⟨b, off + k, ?_, fun j hj' => ?_⟩
  · rw [if_neg (by omega)]
    simp [cell_add]
  · rw [List.length_drop] at hj'
    have := hj (k + j) (by omega)
    rw [← Nat.add_assoc] at this
    rw [this, List.getElem?_drop]

theorem size5 : ∀ w, (Go.sizeOf 5).run Tryd.prog w = .ok 1 w := fun w => by kernel_rfl


theorem grown_below {w w' : World} {b B : Nat} (h : w.grownBy w' (some b)) (hb : B ≤ b) (hB : B ≤ w.heap.size) : Below B w w' :=
  (Below.refl _ _).grown h hB (fun k hk => by injection hk with hk; omega)

theorem Rd.below {w w' : World} {b : Nat} {A : Nat → Addr} {B D : Nat} {st : RSt} (h : Rd w b A B D st) (hb : Below D w w') : Rd w' b A B D st := by
  obtain ⟨hB, hbD, hDw, hf, h⟩ := h
  refine ⟨hB, hbD, Nat.le_trans hDw hb.size, fun i => by rw [hb.frozen (p := ⟨b, i, none⟩) hbD]; exact hf i, ?_⟩
  have c := fun (o : Nat) => hb.cell (p := ⟨b, o, none⟩) hbD
  cases st with
  | none => exact ⟨(c 0).trans h.1, (c 1).trans h.2⟩
  | some l =>
    obtain ⟨⟨v, h0, hbs, hfit⟩, h1⟩ := h
    refine ⟨⟨v, (c 0).trans h0, ?_, hfit⟩, (c 1).trans h1⟩
    obtain ⟨a, n, cc, rfl, _, hD⟩ := hfit
    obtain ⟨hl, h8, a', cap, e, hc⟩ := hbs
    injection e with e1 e2 e3
    subst e1 e2 e3
    refine ⟨hl, h8, _, _, rfl, fun i hi => ?_⟩
    obtain ⟨b', off, rfl, hj⟩ := hc i hi
    obtain ⟨x, ex, hx⟩ := hD (by omega)
    injection ex with ex
    subst ex
    exact ⟨b', off, rfl, fun j hj' => by rw [hb.cell (p := ⟨b', off + j, none⟩) hx]; exact hj j hj'⟩

theorem refuse_any (b : Nat) (w : World) (A : Nat → Addr) (B D : Nat) (st : RSt) (hs : Sents w A B) (h : Rd w b A B D st) :
    Calls Tryd.prog 67 #[.pointer (some ⟨b, 0, none⟩)] w fun e w' => (∃ v, e = .returned v) ∧ Rd w' b A B D none ∧ w.grownBy w' (some b) := by
  obtain ⟨hB, hbD, hDw, hf, h⟩ := h
  have hg := hs.g5
  have hn := hs.gl
  have hf0 := hf 0
  have hf1 := hf 1
  have hne : b ≠ 4 := by omega
  have h0 : ∃ v, w.cell? ⟨b, 0, none⟩ = some v := by
    cases st with
    | none => exact ⟨_, h.1⟩
    | some l => obtain ⟨⟨v, hv, _⟩, _⟩ := h; exact ⟨v, hv⟩
  obtain ⟨v0, h0⟩ := h0
  have o1 : ⟨b, 0, none⟩ ≠ (⟨b, 1, none⟩ : Addr) := by intro h; injection h with _ h2 _; cases h2
  have o5 : ⟨b, 0, none⟩ ≠ (⟨4, 0, none⟩ : Addr) := by intro h; injection h with h2 _ _; exact hne h2
  have e1 := fun y => World.cell?_setCell_other w ⟨b, 0, none⟩ ⟨b, 1, none⟩ y o1
  have e5 := fun y => World.cell?_setCell_other w ⟨b, 0, none⟩ ⟨4, 0, none⟩ y o5
  have e0 := fun y => World.cell?_setCell_same w ⟨b, 0, none⟩ y h0
  cases st with
  | none =>
    obtain ⟨_, h1⟩ := h
    go_enter Tryd.func67, Tryd.ntmps67
    go_wp2
    (try simp only [Exit.inBlock, Exit.then])
    refine bodyPost_end (results_none rfl _ _ _) rfl ?_
    refine ⟨⟨_, rfl⟩, ⟨hB, hbD, by simpa [World.setCell] using hDw, fun i => ?_, ?_, ?_⟩, Rd.frame _ _⟩
    · rw [World.frozen?_setCell]; exact hf i
    · exact e0 _
    · exact (e1 _).trans h1
  | some l =>
    obtain ⟨_, h1⟩ := h
    go_enter Tryd.func67, Tryd.ntmps67
    go_wp2
    (try simp only [Exit.inBlock, Exit.then])
    refine bodyPost_end (results_none rfl _ _ _) rfl ?_
    refine ⟨⟨_, rfl⟩, ⟨hB, hbD, by simpa [World.setCell] using hDw, fun i => ?_, ?_, ?_⟩, grownBy_trans (Rd.frame _ _) (Rd.frame _ _)⟩
    · rw [World.frozen?_setCell, World.frozen?_setCell]; exact hf i
    · rw [World.cell?_setCell_other _ _ _ _ (Ne.symm o1)]; exact e0 _
    · exact World.cell?_setCell_same _ _ _ ((e1 _).trans h1)

set_option maxHeartbeats 4000000 in
set_option maxRecDepth 100000 in
theorem number_any (b : Nat) (w : World) (A : Nat → Addr) (B D : Nat) (st : RSt) (hs : Sents w A B) (h : Rd w b A B D st) :
    Calls Tryd.prog 58 #[.pointer (some ⟨b, 0, none⟩)] w fun e w' => e = .returned (.int .i64 ((rdNum st).1 : Nat)) ∧ Rd w' b A B D (rdNum st).2 ∧ w.grownBy w' (some b) := by
  have HR : Hid (Rd w b A B D st) := h
  obtain ⟨hB, hbD, hDw, hf, h⟩ := h
  cases st with
  | none =>
    obtain ⟨h0, h1⟩ := h
    go_enter Tryd.func58, Tryd.ntmps58
    go_wp2
    refine wp_loop_rounds 1 ?_
    rw [rounds_succ]
    go_wp2_with (go_at_call 67; refine (refuse_any b w A B D none hs HR.out).mono ?_; rintro e w1 ⟨⟨v, rfl⟩, hr, hg⟩)
    go_ret
    exact ⟨rfl, hr, hg⟩
  | some l =>
    obtain ⟨⟨v, h0, hbs, hfit⟩, h1⟩ := h
    have HB : Hid (Bs w v l) := hbs
    obtain ⟨a, n, c, rfl, hnc, hD⟩ := hfit
    obtain ⟨hl, h8, a', cap, e, hc⟩ := hbs
    injection e with e1 e2 e3
    subst e1 e2 e3
    unfold maxLen at hl
    have hf0 := hf 0
    go_enter Tryd.func58, Tryd.ntmps58
    go_wp2
    go_loop [3, 4] (fun m i => ∃ k : Nat, k ≤ 5 ∧ i = .int .i64 k ∧ m = .int .i64 (valL l k : Nat) ∧ numR l = numAt l (5 - k) k) (fun _ i => 5 - (intOf i).toNat)
    case atStart => exact ⟨0, by omega, rfl, rfl, rfl⟩
    case round =>
      obtain ⟨k, hk, rfl, rfl, hnum⟩ := hrel
      by_cases hk5 : k < 5
      · by_cases hlt : k < l.length
        · obtain ⟨b', off, rfl, hcell⟩ := hc k hlt
          have hck := hcell k hlt
          have h8k := byte_at h8 k
          have hA := and_127 _ h8k.1 h8k.2
          have hx : (l[k]?.getD 0).toNat % 128 < 128 := Nat.mod_lt _ (by decide)
          have hO := or_step (valL l k) ((l[k]?.getD 0).toNat % 128) k (valL_lt l k) hx (by omega)
          have hS : Hid (valL l (k + 1) = valL l k + (l[k]?.getD 0).toNat % 128 * 128 ^ k) := rfl
          have hN : Hid (numAt l (5 - k) k = if 128 ≤ l[k]?.getD 0 then numAt l (5 - (k + 1)) (k + 1) else if l[k]?.getD 0 = 0 ∧ 0 < k then none else some (valL l (k + 1), k + 1)) := by
            have e : 5 - k = (5 - (k + 1)) + 1 := by omega
            rw [e]
            show numAt l _ k = _
            rw [numAt, if_pos hlt]
          have eg : l[k]?.getD 0 = l[k] := by simp [hlt]
          rw [eg] at hck h8k hA hx hO hS hN
          generalize hxx : l[k].toNat % 128 = x at hA hx hO hS
          generalize hcc : l[k] = cc at hck h8k hA hN
          generalize hvv : valL l k = V at hO hS
          obtain ⟨b0, b1⟩ := h8k
          clear hxx hcc hvv hcell hc eg h8
          by_cases h128 : 128 ≤ cc
          · rw [if_pos h128] at hN
            obtain rfl | rfl | rfl | rfl | rfl : k = 0 ∨ k = 1 ∨ k = 2 ∨ k = 3 ∨ k = 4 := by omega
            all_goals
              simp at hO
              (try rw [Nat.add_zero] at hck)
              go_wp2
              go_round
              case rel => first | exact ⟨1, by decide, rfl, by rw [hS.out]; simp, hnum.trans hN.out⟩ | exact ⟨2, by decide, rfl, by rw [hS.out]; simp, hnum.trans hN.out⟩ | exact ⟨3, by decide, rfl, by rw [hS.out]; simp, hnum.trans hN.out⟩ | exact ⟨4, by decide, rfl, by rw [hS.out]; simp, hnum.trans hN.out⟩ | exact ⟨5, by decide, rfl, by rw [hS.out]; simp, hnum.trans hN.out⟩
              case measure => simp [intOf]
          · rw [if_neg h128] at hN
            by_cases hz : cc = 0 ∧ 0 < k
            · rw [if_pos hz] at hN
              obtain ⟨rfl, hk0⟩ := hz
              have hnn : numR l = none := hnum.trans hN.out
              obtain rfl | rfl | rfl | rfl : k = 1 ∨ k = 2 ∨ k = 3 ∨ k = 4 := by omega
              all_goals
                simp at hO
                go_wp2_with (go_at_call 67; refine (refuse_any b w A B D (some l) hs HR.out).mono ?_; rintro e w1 ⟨⟨v, rfl⟩, hr, hg⟩)
                go_ret
                rw [rdNum, hnn]
                exact ⟨rfl, hr, hg⟩
            · rw [if_neg hz] at hN
              have hnn : numR l = some (valL l (k + 1), k + 1) := hnum.trans hN.out
              have HW : ∀ (y : Value) (l' : List Int), Bs w y l' → Fits D y l' → Rd (w.setCell ⟨b, 0, none⟩ y) b A B D (some l') := fun y l' hy hfy =>
                ⟨hB, hbD, by simpa [World.setCell] using hDw, fun i => by rw [World.frozen?_setCell]; exact hf i, ⟨y, World.cell?_setCell_same w _ _ h0, hy.setCell h0 trivial y, hfy⟩,
                  (World.cell?_setCell_other w _ _ _ (by intro h; injection h with _ h2 _; cases h2)).trans h1⟩
              have HD := HB.out.drop hnc hD (k + 1) (by omega)
              have HW2 : Hid (Rd (w.setCell ⟨b, 0, none⟩ (sliced (some ⟨b', off, none⟩) (k + 1) l.length c 1)) b A B D (some (l.drop (k + 1)))) := HW _ _ HD.1 HD.2
              clear HW HD
              have hzz : ¬ (cc = 0 ∧ (0 : Int) < k) := by omega
              obtain rfl | rfl | rfl | rfl | rfl : k = 0 ∨ k = 1 ∨ k = 2 ∨ k = 3 ∨ k = 4 := by omega
              all_goals
                simp at hO
                (try rw [Nat.add_zero] at hck)
                go_wp2
                all_goals go_ret
                all_goals rw [rdNum, hnn]
                all_goals exact ⟨by rw [hS.out]; simp, by have h2 := HW2.out; go_light; simp_all [sliced, cell_add], Rd.frame _ _⟩
        · have hnn : numR l = none := by
            rw [hnum]
            have e : 5 - k = (5 - (k + 1)) + 1 := by omega
            rw [e, numAt, if_neg hlt]
          go_wp2_with (go_at_call 67; refine (refuse_any b w A B D (some l) hs HR.out).mono ?_; rintro e w1 ⟨⟨v, rfl⟩, hr, hg⟩)
          go_ret
          rw [rdNum, hnn]
          exact ⟨rfl, hr, hg⟩
      · have e : k = 5 := by omega
        subst e
        go_wp2_with (go_at_call 67; refine (refuse_any b w A B D (some l) hs HR.out).mono ?_; rintro e w1 ⟨⟨v, rfl⟩, hr, hg⟩)
        go_ret
        rw [rdNum, hnum]
        exact ⟨rfl, hr, hg⟩
end Go.Proofs.YtlfnlhbkagjheaaDoor

/-
  impl.reader: text, end.
-/
namespace Go.Proofs.YtlfnlhbkagjheaaDoor
open Go.RowKit
set_option linter.unusedVariables false

theorem elem22 : Tryd.prog.elem 22 = 5 := by rw [Program.elem, Tryd.underlying22]
theorem under22 : Tryd.prog.underlying 22 = some (.slice (Tryd.prog.elem 22)) := by rw [elem22]; exact Tryd.underlying22

theorem slice_h (a : Option Addr) (len c n : Nat) (h : n ≤ c) (wx : World) : (Instr.slice 22 (.slice a len c) none (some (.int .i64 (n : Int))) none).run Tryd.prog wx = .ok (sliced a 0 n c 1) wx := by
  rw [run_slice_h wx 22 a len c under22 .i64 (n : Int) (by omega) (by omega), elem22, size5]
  rfl
theorem slice_l (a : Option Addr) (len c n : Nat) (h : n ≤ len) (wx : World) : (Instr.slice 22 (.slice a len c) (some (.int .i64 (n : Int))) none none).run Tryd.prog wx = .ok (sliced a n len c 1) wx := by
  rw [run_slice_l wx 22 a len c under22 .i64 (n : Int) (by omega) (by omega), elem22, size5]
  rfl

theorem conv_zero (a : Option Addr) (c : Nat) (w : World) : (convert 22 9 (.slice a 0 c)).run Tryd.prog w = .ok (.string (strOfNums [])) w := by
  cases a with
  | none =>
    rw [run_convert_bytes_nil w 22 5 Tryd.underlying22 Tryd.underlying5 0 c 9 Tryd.underlying9]
    rfl
  | some a =>
    have hl : (loadCells a 0).run Tryd.prog w = .ok (([] : List Int).map (Value.int .u8)).toArray w := by
      simpa using run_loadCells_list (P := Tryd.prog) w a [] (fun j v hj => by simp at hj)
    rw [run_convert_bytes_string w 22 9 5 (some a) 0 c Tryd.underlying22 Tryd.underlying5 Tryd.underlying9, run_bytesToString w a 0 c [] hl]
    rfl

set_option maxRecDepth 100000 in
theorem conv_take {w : World} {a : Option Addr} {len c : Nat} {l : List Int} (h : Bs w (.slice a len c) l) (hc : len ≤ c) (n : Nat) (hn : n ≤ l.length) :
    (convert 22 9 (sliced a 0 n c 1)).run Tryd.prog w = .ok (.string (strOfNums (l.take n))) w := by
  by_cases h0 : n = 0
  · subst h0
    rw [List.take_zero]
    exact conv_zero (if c = 0 then a else a.map (·.add (0 * 1))) (c - 0) w
  · obtain ⟨hl, h8, a', cap, e, hcell⟩ := h
    injection e with e1 e2 e3
    subst e1 e2 e3
    obtain ⟨b, off, rfl, hj⟩ := hcell 0 (by omega)
    have hne : ¬ c = 0 := by omega
    have hs : sliced (some ⟨b, off, none⟩) 0 n c 1 = .slice (some ⟨b, off, none⟩) n c := by simp [sliced, hne, cell_add]
    rw [hs]
    refine run_convert_bytes_arg w 22 5 Tryd.underlying22 Tryd.underlying5 b off n c (l.take n) (by simp; omega) (fun i hi => ?_) 9 Tryd.underlying9
    rw [hj i (by omega)]
    simp [List.getD, hi]

theorem rdNum_none {st : RSt} (h : (rdNum st).2 = none) : (rdNum st).1 = 0 := by
  unfold rdNum at h ⊢
  split
  · rfl
  · split
    · rfl
    · next h' => simp [h'] at h

set_option maxHeartbeats 4000000 in
set_option maxRecDepth 100000 in
theorem text_any (b : Nat) (w : World) (A : Nat → Addr) (B D : Nat) (st : RSt) (hs : Sents w A B) (h : Rd w b A B D st) :
    Calls Tryd.prog 70 #[.pointer (some ⟨b, 0, none⟩)] w fun e w' => e = .returned (.string (rdText st).1) ∧ Rd w' b A B D (rdText st).2 ∧ w.grownBy w' (some b) := by
  have HN : Hid (Calls Tryd.prog 58 #[.pointer (some ⟨b, 0, none⟩)] w fun e w' => e = .returned (.int .i64 ((rdNum st).1 : Nat)) ∧ Rd w' b A B D (rdNum st).2 ∧ w.grownBy w' (some b)) := number_any b w A B D st hs h
  have hB0 := h.1
  have hbD := h.2.1
  have hn := rdNum_lt st
  have h0 := @rdNum_none st
  unfold rdText
  generalize (rdNum st).1 = n at HN hn h0
  generalize (rdNum st).2 = t at HN h0
  cases t with
  | none =>
    obtain rfl := h0 rfl
    have c0 := fun w => conv_zero none 0 w
    have e0 : strOfNums [] = ByteArray.empty := rfl
    rw [e0] at c0
    go_enter Tryd.func70, Tryd.ntmps70
    go_wp2_with (go_at_call 58; refine HN.out.mono ?_; rintro e w1 ⟨rfl, hr, hg⟩; obtain ⟨_, _, hDw, hf, q0, q1⟩ := hr; have hf0 := hf 0)
    go_ret
    refine ⟨rfl, ⟨hB0, hbD, by simpa [World.setCell] using hDw, fun i => ?_, ?_, ?_⟩, grownBy_trans hg (Rd.frame _ _)⟩
    · rw [World.frozen?_setCell]; exact hf i
    · exact World.cell?_setCell_same _ _ _ q0
    · rw [World.cell?_setCell_other _ _ _ _ (by intro h; injection h with _ h2 _; cases h2)]; exact q1
  | some l =>
    clear h0
    by_cases hlong : 64 < n ∨ l.length < n
    · simp only [if_pos hlong]
      have hl64 : 64 < (n : Int) ∨ (l.length : Int) < n := by omega
      go_enter Tryd.func70, Tryd.ntmps70
      go_wp2_with (first
        | (go_at_call 58; refine HN.out.mono ?_; rintro e w1 ⟨rfl, hr, hg⟩; have HR : Hid (Rd w1 b A B D (some l)) := hr; obtain ⟨_, _, hDw, hf, ⟨v, q0, ⟨_, _, a, c, rfl, _⟩, _⟩, q1⟩ := hr; have hs1 := hs.kept (grown_below hg hB0 hs.le))
        | (go_at_call 67; refine (refuse_any b _ A B D (some l) hs1 HR.out).mono ?_; rintro e w2 ⟨⟨v, rfl⟩, hr2, hg2⟩))
      all_goals go_ret
      all_goals exact ⟨rfl, hr2, grownBy_trans hg hg2⟩
    · simp only [if_neg hlong]
      have hl64 : (n : Int) ≤ 64 ∧ (n : Int) ≤ l.length := by omega
      go_enter Tryd.func70, Tryd.ntmps70
      go_wp2_with (first
        | (go_at_call 58; refine HN.out.mono ?_; rintro e w1 ⟨rfl, hr, hg⟩; obtain ⟨_, _, hDw, hf, ⟨v, q0, hbs, ⟨a, len, c, rfl, hlc, hD⟩⟩, q1⟩ := hr; have hf0 := hf 0; have HB : Hid (Bs w1 (.slice a len c) l) := hbs; have el : len = l.length := (by obtain ⟨_, _, _, _, e, _⟩ := hbs; injection e); subst el; clear hbs; have t1 := slice_h a l.length c n (by omega); have t2 := slice_l a l.length c n (by omega); have cv := conv_take HB.out hlc n (by omega); have dr := HB.out.drop hlc hD n (by omega); obtain ⟨a2, n2, c2, e2, _, _⟩ := dr.2; rw [e2] at t2 dr; have DR : Hid (Bs w1 (.slice a2 n2 c2) (l.drop n) ∧ Fits D (.slice a2 n2 c2) (l.drop n)) := dr; generalize sliced a 0 n c 1 = S1 at t1 cv; clear dr e2))
      go_ret
      refine ⟨rfl, ⟨hB0, hbD, by simpa [World.setCell] using hDw, fun i => ?_, ⟨_, ?_, DR.out.1.setCell q0 trivial _, DR.out.2⟩, ?_⟩, grownBy_trans hg (Rd.frame _ _)⟩
      · rw [World.frozen?_setCell]; exact hf i
      · exact World.cell?_setCell_same _ _ _ q0
      · rw [World.cell?_setCell_other _ _ _ _ (by intro h; injection h with _ h2 _; cases h2)]; exact q1

theorem grown_cell {w w' : World} {b q : Nat} (h : w.grownBy w' (some b)) (hq : q < w.heap.size) (hne : q ≠ b) : (∀ o, w'.cell? ⟨q, o, none⟩ = w.cell? ⟨q, o, none⟩) ∧ (∀ o, w'.frozen? ⟨q, o, none⟩ = w.frozen? ⟨q, o, none⟩) := by
  have hb := h.block q hq (by intro e; injection e with e; exact hne e)
  exact ⟨fun o => World.cell?_of_block (w := w) hb, fun o => by simp only [World.frozen?, hb]⟩

/-- number, with what stays -/
theorem number_s (b : Nat) (w : World) (A : Nat → Addr) (B D : Nat) (st : RSt) (hs : Sents w A B) (h : Rd w b A B D st) :
    Calls Tryd.prog 58 #[.pointer (some ⟨b, 0, none⟩)] w fun e w' => e = .returned (.int .i64 ((rdNum st).1 : Nat)) ∧ Sents w' A B ∧ Rd w' b A B D (rdNum st).2 ∧ w.grownBy w' (some b) :=
  (number_any b w A B D st hs h).mono fun e w' ⟨h1, h2, h3⟩ => ⟨h1, hs.kept (grown_below h3 h.1 hs.le), h2, h3⟩
theorem text_s (b : Nat) (w : World) (A : Nat → Addr) (B D : Nat) (st : RSt) (hs : Sents w A B) (h : Rd w b A B D st) :
    Calls Tryd.prog 70 #[.pointer (some ⟨b, 0, none⟩)] w fun e w' => e = .returned (.string (rdText st).1) ∧ Sents w' A B ∧ Rd w' b A B D (rdText st).2 ∧ w.grownBy w' (some b) :=
  (text_any b w A B D st hs h).mono fun e w' ⟨h1, h2, h3⟩ => ⟨h1, hs.kept (grown_below h3 h.1 hs.le), h2, h3⟩
theorem grown_alloc {w w' : World} {row : Option Nat} (h : w.grownBy w' row) (o : Obj) : w.grownBy (w'.alloc o) row := grownBy_trans h (World.grownBy_alloc _ _ _)
theorem grown_setNew {w w' : World} {row : Option Nat} (h : w.grownBy w' row) (q i : Nat) (v : Value) (hq : w.heap.size ≤ q) : w.grownBy (w'.setCell ⟨q, i, none⟩ v) row :=
  ⟨h.os, h.tape, h.output, by simpa [World.setCell] using h.size, fun k hk hne => (Below.heap_setCell _ _ _ _ (by show k ≠ q; omega)).trans (h.block k hk hne)⟩

/-- what end answers -/
def endV (A : Nat → Addr) (st : RSt) : Value := if st = some [] then .nilIface else refV (A 5) 0

set_option maxHeartbeats 1000000 in
theorem end_any (b : Nat) (w : World) (A : Nat → Addr) (B D : Nat) (st : RSt) (hs : Sents w A B) (h : Rd w b A B D st) :
    Calls Tryd.prog 60 #[.pointer (some ⟨b, 0, none⟩)] w fun e w' => e = .returned (endV A st) ∧ w.grownBy w' (some b) := by
  have HR : Hid (Rd w b A B D st) := h
  obtain ⟨hB, hbD, hDw, hf, h⟩ := h
  cases st with
  | none =>
    obtain ⟨h0, h1⟩ := h
    go_enter Tryd.func60, Tryd.ntmps60
    go_wp2
    go_ret
    exact ⟨rfl, grownBy_refl _ _⟩
  | some l =>
    obtain ⟨⟨v, h0, ⟨hl, _, a, c, rfl, _⟩, _⟩, h1⟩ := h
    unfold maxLen at hl
    cases l with
    | nil =>
      go_enter Tryd.func60, Tryd.ntmps60
      go_wp2
      go_ret
      exact ⟨rfl, grownBy_refl _ _⟩
    | cons x l =>
      have hp : (0 : Int) < (x :: l).length := by simp
      generalize hL : x :: l = L at *
      have hv : endV A (some L) = refV (A 5) 0 := by subst hL; rfl
      rw [hv]
      go_enter Tryd.func60, Tryd.ntmps60
      go_wp2_with (go_at_call 67; refine (refuse_any b w A B D (some L) hs HR.out).mono ?_; rintro e w1 ⟨⟨v, rfl⟩, hr, hg⟩; obtain ⟨_, _, _, _, q0, q1⟩ := hr)
      go_ret
      exact ⟨rfl, hg⟩
end Go.Proofs.YtlfnlhbkagjheaaDoor

/-
  The check sum: the program's and the specification's, over one plain function of lists.
-/
namespace Go.Proofs.YtlfnlhbkagjheaaDoor
open Go.RowKit
set_option linter.unusedVariables false

def stepN (r : Nat) : Nat := if r % 2 = 1 then (r / 2) ^^^ 3988292384 else r / 2
def stepsN : Nat → Nat → Nat
  | 0, r => r
  | n + 1, r => stepN (stepsN n r)
/-- the register behind the first k bytes -/
def crcSt (l : List Int) : Nat → Nat
  | 0 => 4294967295
  | k + 1 => stepsN 8 (crcSt l k ^^^ (l[k]?.getD 0).toNat)

theorem stepN_lt (q : Nat) (h : q < 4294967296) : stepN q < 4294967296 := by
  unfold stepN
  split
  · exact Nat.xor_lt_two_pow (n := 32) (by omega) (by decide)
  · omega
theorem stepsN_lt (n q : Nat) (h : q < 4294967296) : stepsN n q < 4294967296 := by
  induction n with
  | zero => exact h
  | succ n ih => exact stepN_lt _ ih
theorem xor_lt (a b : Nat) (ha : a < 4294967296) (hb : b < 4294967296) : a ^^^ b < 4294967296 := Nat.xor_lt_two_pow (n := 32) ha hb
theorem crcSt_lt (l : List Int) (h8 : ∀ x ∈ l, 0 ≤ x ∧ x ≤ 255) (k : Nat) : crcSt l k < 4294967296 := by
  induction k with
  | zero => exact (by decide : (4294967295 : Nat) < 4294967296)
  | succ k ih =>
    have := byte_at h8 k
    exact stepsN_lt _ _ (xor_lt _ _ ih (by omega))

theorem bit0 (q : Nat) (hq : q < 4294967296) : bits .and .u32 (q : Int) 1 = ((q % 2 : Nat) : Int) := by
  have := u32_and_nat q 1 hq (by decide)
  rw [Nat.and_one_is_mod] at this
  exact this
theorem i1 (q : Nat) (hq : q < 4294967296) (h : (bits .and .u32 (q : Int) 1 == 1) = true) : bits .xor .u32 ((q : Int) / 2) 3988292384 = ((stepN q : Nat) : Int) := by
  rw [bit0 q hq] at h
  have h' : q % 2 = 1 := by simp at h; omega
  have := u32_xor_nat (q / 2) 3988292384 (by omega) (by decide)
  rw [stepN, if_pos h']
  rw [← this]
  congr 1
theorem i0 (q : Nat) (hq : q < 4294967296) (h : (bits .and .u32 (q : Int) 1 == 1) = false) : (q : Int) / 2 = ((stepN q : Nat) : Int) := by
  rw [bit0 q hq] at h
  have h' : ¬ q % 2 = 1 := by simp at h; omega
  rw [stepN, if_neg h']
  rfl
theorem x0 (r : Nat) (c : Int) (hr : r < 4294967296) (h0 : 0 ≤ c) (h1 : c ≤ 255) : bits .xor .u32 (r : Int) c = ((r ^^^ c.toNat : Nat) : Int) := by
  have e : c = (c.toNat : Int) := by omega
  have := u32_xor_nat r c.toNat hr (by omega)
  rw [← e] at this
  exact this

theorem xor_max (r : Nat) (hr : r < 4294967296) : bits .xor .u32 (r : Int) 4294967295 = ((r ^^^ 4294967295 : Nat) : Int) := u32_xor_nat r 4294967295 hr (by decide)
theorem max_xor (r : Nat) (hr : r < 4294967296) : bits .xor .u32 IntKind.u32.max (r : Int) = ((r ^^^ 4294967295 : Nat) : Int) := by
  rw [Nat.xor_comm]
  exact u32_xor_nat 4294967295 r (by decide) hr

/-! the specification's step: its register is the program's, with the rest of the byte taken out again -/
theorem low_eq (S d r : Nat) (hr : r = S ^^^ d) (hr' : r < 4294967296) (hd : d < 4294967296) :
    bits .and .u32 (bits .xor .u32 (r : Int) (bits .and .u32 (d : Int) 1)) 1 = ((S % 2 : Nat) : Int) := by
  rw [bit0 d hd, u32_xor_nat r (d % 2) hr' (by omega), bit0 _ (xor_lt _ _ hr' (by omega))]
  congr 1
  subst hr
  have m2 : ∀ a b : Nat, (a ^^^ b) % 2 = (a % 2) ^^^ (b % 2) := fun a b => Nat.xor_mod_two_pow (n := 1)
  rw [m2, m2, Nat.mod_mod, Nat.xor_assoc, Nat.xor_self, Nat.xor_zero]
theorem half_xor (S d : Nat) : (S ^^^ d) / 2 = (S / 2) ^^^ (d / 2) := by
  have := Nat.shiftRight_xor_distrib (a := S) (b := d) (i := 1)
  simpa [Nat.shiftRight_eq_div_pow] using this
theorem half_pow (c j : Nat) : c / 2 ^ j / 2 = c / 2 ^ (j + 1) := by rw [Nat.div_div_eq_div_mul, Nat.pow_succ]
theorem byte_shift (c : Int) (j : Nat) (h0 : 0 ≤ c) (h1 : c ≤ 255) : c / 2 ^ j % 4294967296 = ((c.toNat / 2 ^ j : Nat) : Int) := by
  obtain ⟨n, rfl⟩ := Int.eq_ofNat_of_zero_le h0
  have h : n / 2 ^ j ≤ n := Nat.div_le_self _ _
  have e : ((n : Int) / 2 ^ j) = ((n / 2 ^ j : Nat) : Int) := by simp
  rw [e]
  simp only [Int.toNat_natCast]
  generalize n / 2 ^ j = d at h
  omega
theorem s1 (S c : Nat) (j : Nat) (lk : Int) (h0 : 0 ≤ lk) (h1 : lk ≤ 255) (hc : c = lk.toNat) (hS : S < 4294967296)
    (h : (bits .and .u32 (bits .xor .u32 ((S ^^^ c / 2 ^ j : Nat) : Int) (bits .and .u32 (lk / 2 ^ j % 4294967296) 1)) 1 == 1) = true) :
    bits .xor .u32 (((S ^^^ c / 2 ^ j : Nat) : Int) / 2) 3988292384 = ((stepN S ^^^ c / 2 ^ (j + 1) : Nat) : Int) := by
  have hd : c / 2 ^ j ≤ c := Nat.div_le_self _ _
  have hlt := xor_lt S (c / 2 ^ j) hS (by omega)
  rw [byte_shift lk j h0 h1, ← hc, low_eq S (c / 2 ^ j) _ rfl hlt (by omega)] at h
  have h' : S % 2 = 1 := by simp at h; omega
  rw [stepN, if_pos h', ← half_pow]
  have := u32_xor_nat ((S ^^^ c / 2 ^ j) / 2) 3988292384 (by omega) (by decide)
  rw [half_xor] at this
  have e : ((S ^^^ c / 2 ^ j : Nat) : Int) / 2 = (((S / 2) ^^^ (c / 2 ^ j / 2) : Nat) : Int) := by rw [← half_xor]; rfl
  rw [e]
  refine this.trans ?_
  congr 1
  rw [Nat.xor_assoc, Nat.xor_comm (c / 2 ^ j / 2), ← Nat.xor_assoc]
theorem s0 (S c : Nat) (j : Nat) (lk : Int) (h0 : 0 ≤ lk) (h1 : lk ≤ 255) (hc : c = lk.toNat) (hS : S < 4294967296)
    (h : (bits .and .u32 (bits .xor .u32 ((S ^^^ c / 2 ^ j : Nat) : Int) (bits .and .u32 (lk / 2 ^ j % 4294967296) 1)) 1 == 1) = false) :
    ((S ^^^ c / 2 ^ j : Nat) : Int) / 2 = ((stepN S ^^^ c / 2 ^ (j + 1) : Nat) : Int) := by
  have hd : c / 2 ^ j ≤ c := Nat.div_le_self _ _
  have hlt := xor_lt S (c / 2 ^ j) hS (by omega)
  rw [byte_shift lk j h0 h1, ← hc, low_eq S (c / 2 ^ j) _ rfl hlt (by omega)] at h
  have h' : ¬ S % 2 = 1 := by simp at h; omega
  rw [stepN, if_neg h', ← half_pow, ← half_xor]
  rfl
end Go.Proofs.YtlfnlhbkagjheaaDoor

/-
  The walks of both Crc32 and of the law FnExactCrc32.
-/
namespace Go.Proofs.YtlfnlhbkagjheaaDoor
open Go.RowKit
set_option linter.unusedVariables false

/-- the check sum -/
def crcOf (l : List Int) : Nat := crcSt l l.length ^^^ 4294967295

set_option maxHeartbeats 1000000 in
theorem implCrc_any (v : Value) (l : List Int) (w : World) (hv : Bs w v l) :
    Calls Tryd.prog 57 #[v] w fun e w' => e = .returned (.int .u32 (crcOf l : Nat)) ∧ w' = w := by
  obtain ⟨hl, h8, a, cap, rfl, hc⟩ := hv
  unfold maxLen at hl
  go_enter Tryd.func57, Tryd.ntmps57
  go_wp2
  go_loop [3, 9] (fun s i => ∃ k : Nat, k ≤ l.length ∧ i = .int .i64 k ∧ s = .int .u32 (crcSt l k : Nat)) (fun _ i => l.length - (intOf i).toNat)
  case atStart => exact ⟨0, Nat.zero_le _, rfl, rfl⟩
  case round =>
    obtain ⟨k, hk, rfl, rfl⟩ := hrel
    have hr := crcSt_lt l h8 k
    by_cases hlt : k < l.length
    · obtain ⟨b, off, rfl, hcell⟩ := hc k hlt
      have hck := hcell k hlt
      have h8k := byte_at h8 k
      have hx := x0 (crcSt l k) _ hr h8k.1 h8k.2
      have hS : Hid (crcSt l (k + 1) = stepsN 8 (crcSt l k ^^^ (l[k]?.getD 0).toNat)) := rfl
      have hs0 := xor_lt (crcSt l k) (l[k]?.getD 0).toNat hr (by omega)
      generalize hg : crcSt l k ^^^ (l[k]?.getD 0).toNat = s0 at hx hS hs0
      have eg : l[k]?.getD 0 = l[k] := by simp [hlt]
      rw [eg] at hx h8k hck
      clear hcell hc hg eg
      go_wp2
      go_loop [3, 17] (fun s i => ∃ j : Nat, j ≤ 8 ∧ i = .int .i64 j ∧ s = .int .u32 (stepsN j s0 : Nat)) (fun _ i => 8 - (intOf i).toNat)
      case atStart => exact ⟨0, by omega, rfl, by simp [stepsN]⟩
      case round =>
        obtain ⟨j, hj, rfl, rfl⟩ := hrel
        have hq := stepsN_lt j s0 hs0
        by_cases hlt' : j < 8
        · have H1 := i1 (stepsN j s0) hq
          have H0 := i0 (stepsN j s0) hq
          have HS : Hid (stepsN (j + 1) s0 = stepN (stepsN j s0)) := rfl
          generalize stepsN j s0 = q at HS hq H1 H0
          have K1 : Hid ((bits .and .u32 (q : Int) 1 == 1) = true → bits .xor .u32 ((q : Int) / 2) 3988292384 = ((stepN q : Nat) : Int)) := H1
          have K0 : Hid ((bits .and .u32 (q : Int) 1 == 1) = false → (q : Int) / 2 = ((stepN q : Nat) : Int)) := H0
          clear H1 H0
          go_wp2
          · go_round
            case rel => exact ⟨j + 1, by omega, by go_num, by rw [HS.out, ← K1.out (by assumption)]⟩
            case measure => simp [intOf]; omega
          · go_round
            case rel => exact ⟨j + 1, by omega, by go_num, by rw [HS.out, ← K0.out (by assumption)]⟩
            case measure => simp [intOf]; omega
        · have e8 : j = 8 := by omega
          subst e8
          go_wp2
          go_round
          case rel => exact ⟨k + 1, by omega, by go_num, by rw [hS.out]⟩
          case measure => simp [intOf]; omega
    · have e : k = l.length := by omega
      subst e
      have hm := max_xor _ hr
      go_wp2
      go_ret
      exact ⟨by simp [crcOf], rfl⟩

set_option maxHeartbeats 1000000 in
theorem specCrc_any (v : Value) (l : List Int) (w : World) (hv : Bs w v l) :
    Calls Tryd.prog 53 #[v] w fun e w' => e = .returned (.int .u32 (crcOf l : Nat)) ∧ w' = w := by
  obtain ⟨hl, h8, a, cap, rfl, hc⟩ := hv
  unfold maxLen at hl
  go_enter Tryd.func53, Tryd.ntmps53
  go_wp2
  go_loop [3, 4] (fun s i => ∃ k : Nat, k ≤ l.length ∧ i = .int .i64 k ∧ s = .int .u32 (crcSt l k : Nat)) (fun _ i => l.length - (intOf i).toNat)
  case atStart => exact ⟨0, Nat.zero_le _, rfl, rfl⟩
  case round =>
    obtain ⟨k, hk, rfl, rfl⟩ := hrel
    have hr := crcSt_lt l h8 k
    by_cases hlt : k < l.length
    · obtain ⟨b, off, rfl, hcell⟩ := hc k hlt
      have hck := hcell k hlt
      have h8k := byte_at h8 k
      have hS : Hid (crcSt l (k + 1) = stepsN 8 (crcSt l k ^^^ (l[k]?.getD 0).toNat)) := rfl
      have eg : l[k]?.getD 0 = l[k] := by simp [hlt]
      rw [eg] at h8k hck hS
      generalize hlk : l[k] = lk at h8k hck hS
      obtain ⟨b0, b1⟩ := h8k
      clear hcell hc eg
      go_wp2
      go_loop [3, 5] (fun s i => ∃ j : Nat, j ≤ 8 ∧ i = .int .i64 j ∧ s = .int .u32 ((stepsN j (crcSt l k ^^^ lk.toNat) ^^^ lk.toNat / 2 ^ j : Nat))) (fun _ i => 8 - (intOf i).toNat)
      case atStart => exact ⟨0, by omega, rfl, by simp [stepsN, Nat.xor_assoc]⟩
      case round =>
        obtain ⟨j, hj, rfl, rfl⟩ := hrel
        have hq := stepsN_lt j (crcSt l k ^^^ lk.toNat) (xor_lt _ _ hr (by omega))
        by_cases hlt' : j < 8
        · have HS : Hid (stepsN (j + 1) (crcSt l k ^^^ lk.toNat) = stepN (stepsN j (crcSt l k ^^^ lk.toNat))) := rfl
          generalize stepsN j (crcSt l k ^^^ lk.toNat) = S at HS hq
          have K1 : Hid _ := s1 S lk.toNat j lk b0 b1 rfl hq
          have K0 : Hid _ := s0 S lk.toNat j lk b0 b1 rfl hq
          have hXlt := xor_lt S (lk.toNat / 2 ^ j) hq (by have := Nat.div_le_self lk.toNat (2 ^ j); omega)
          generalize S ^^^ lk.toNat / 2 ^ j = X at K1 K0 hXlt
          go_wp2
          · go_round
            case rel => exact ⟨j + 1, by omega, by go_num, by rw [HS.out, ← K1.out (by assumption)]⟩
            case measure => simp [intOf]; omega
          · go_round
            case rel => exact ⟨j + 1, by omega, by go_num, by rw [HS.out, ← K0.out (by assumption)]⟩
            case measure => simp [intOf]; omega
        · have e8 : j = 8 := by omega
          subst e8
          have hz : lk.toNat / 2 ^ 8 = 0 := by omega
          rw [hz, Nat.xor_zero]
          go_wp2
          go_round
          case rel => exact ⟨k + 1, by omega, by go_num, by rw [hS.out]⟩
          case measure => simp [intOf]; omega
    · have e : k = l.length := by omega
      subst e
      have hm := xor_max _ hr
      go_wp2
      go_ret
      exact ⟨by simp [crcOf], rfl⟩
end Go.Proofs.YtlfnlhbkagjheaaDoor

/-
  impl.within.
-/
namespace Go.Proofs.YtlfnlhbkagjheaaDoor
open Go.RowKit
set_option linter.unusedVariables false

/-- in a range, as a Bool that the walk leaves whole -/
def inB (n lo hi : Int) : Bool := decide (lo ≤ n) && decide (n ≤ hi)
theorem inB_iff (n lo hi : Int) : inB n lo hi = true ↔ lo ≤ n ∧ n ≤ hi := by simp [inB]
theorem inB_not (n lo hi : Int) : inB n lo hi = false ↔ (n < lo ∨ hi < n) := by
  by_cases h1 : lo ≤ n <;> by_cases h2 : n ≤ hi <;> simp [inB, h1, h2] <;> omega

set_option maxHeartbeats 400000 in
theorem within_any (n lo hi : Int) (w : World) :
    Calls Tryd.prog 49 #[.int .i64 n, .int .i64 lo, .int .i64 hi] w fun e w' => e = .returned (.bool (inB n lo hi)) ∧ w' = w := by
  by_cases h1 : lo ≤ n
  · by_cases h2 : n ≤ hi
    · have hb : inB n lo hi = true := by simp [inB, h1, h2]
      rw [hb]
      go_enter Tryd.func49, Tryd.ntmps49
      go_wp2
      go_ret
      exact ⟨rfl, rfl⟩
    · have hb : inB n lo hi = false := by simp [inB, h1]; omega
      rw [hb]
      go_enter Tryd.func49, Tryd.ntmps49
      go_wp2
      go_ret
      exact ⟨by simp, rfl⟩
  · have hb : inB n lo hi = false := by simp [inB]; omega
    rw [hb]
    go_enter Tryd.func49, Tryd.ntmps49
    go_wp2
    go_ret
    exact ⟨rfl, rfl⟩

end Go.Proofs.YtlfnlhbkagjheaaDoor

/-
  impl.wordAt, impl.openFrame.
-/
namespace Go.Proofs.YtlfnlhbkagjheaaDoor
open Go.RowKit
set_option linter.unusedVariables false

/-- the word at a place, lowest byte first -/
def wordN (l : List Int) (i : Nat) : Int := l[i]?.getD 0 + l[i + 1]?.getD 0 * 256 + l[i + 2]?.getD 0 * 65536 + l[i + 3]?.getD 0 * 16777216

theorem or_u32 (k : Nat) (a b : Int) (ha : 0 ≤ a) (ha' : a < 2 ^ k) (hb : 0 ≤ b) (hb' : b ≤ 255) (hk : k ≤ 24) : bits .or .u32 a (b * 2 ^ k) = a + b * 2 ^ k := by
  obtain ⟨a, rfl⟩ := Int.eq_ofNat_of_zero_le ha
  obtain ⟨b, rfl⟩ := Int.eq_ofNat_of_zero_le hb
  have hp : 2 ^ k ≤ 2 ^ 24 := Nat.pow_le_pow_right (by decide) hk
  have h5 : (2 : Nat) ^ 24 = 16777216 := by decide
  have ha2 : a < 2 ^ k := by exact_mod_cast ha'
  have hm : b * 2 ^ k ≤ 255 * 2 ^ k := Nat.mul_le_mul_right _ (by omega)
  have e : (b : Int) * 2 ^ k = ((b * 2 ^ k : Nat) : Int) := by simp
  rw [e, u32_or_nat a (b * 2 ^ k) (by omega) (by omega), Nat.or_comm, nat_join k (b * 2 ^ k) a (Nat.mul_mod_left _ _) ha2]
  omega

set_option maxHeartbeats 2000000 in
set_option maxRecDepth 100000 in
theorem wordAt0 (v : Value) (l : List Int) (w : World) (hv : Bs w v l) (hl : 8 < l.length) :
    Calls Tryd.prog 56 #[v, .int .i64 0] w fun e w' => e = .returned (.int .u32 (wordN l 0)) ∧ Below w.heap.size w w' := by
  obtain ⟨hm, h8, a, cap, rfl, hc⟩ := hv
  obtain ⟨b, off, rfl, hcell⟩ := hc 0 (by omega)
  have c0 := hcell 0 (by omega)
  have c1 := hcell 1 (by omega)
  have c2 := hcell 2 (by omega)
  have c3 := hcell 3 (by omega)
  have b0 := byte_at h8 0
  have b1 := byte_at h8 1
  have b2 := byte_at h8 2
  have b3 := byte_at h8 3
  unfold wordN
  simp only [Nat.zero_add, Nat.add_zero] at *
  generalize l[0]?.getD 0 = x0 at *
  generalize l[1]?.getD 0 = x1 at *
  generalize l[2]?.getD 0 = x2 at *
  generalize l[3]?.getD 0 = x3 at *
  have o1 := or_u32 8 x0 x1 (by omega) (by omega) (by omega) (by omega) (by omega)
  have o2 := or_u32 16 (x0 + x1 * 256) x2 (by omega) (by omega) (by omega) (by omega) (by omega)
  have o3 := or_u32 24 (x0 + x1 * 256 + x2 * 65536) x3 (by omega) (by omega) (by omega) (by omega) (by omega)
  simp only [Int.reducePow] at o1 o2 o3
  clear hcell hc h8
  unfold maxLen at hm
  go_enter Tryd.func56, Tryd.ntmps56
  go_wp2
  go_quiet (fail)
  go_wp2
  go_ret
  exact ⟨rfl, rfl, rfl, rfl, Nat.le_refl _, fun _ _ => rfl⟩
set_option maxHeartbeats 2000000 in
set_option maxRecDepth 100000 in
theorem wordAt4 (v : Value) (l : List Int) (w : World) (hv : Bs w v l) (hl : 8 < l.length) :
    Calls Tryd.prog 56 #[v, .int .i64 4] w fun e w' => e = .returned (.int .u32 (wordN l 4)) ∧ Below w.heap.size w w' := by
  obtain ⟨hm, h8, a, cap, rfl, hc⟩ := hv
  obtain ⟨b, off, rfl, hcell⟩ := hc 0 (by omega)
  have c0 := hcell 4 (by omega)
  have c1 := hcell 5 (by omega)
  have c2 := hcell 6 (by omega)
  have c3 := hcell 7 (by omega)
  have b0 := byte_at h8 4
  have b1 := byte_at h8 5
  have b2 := byte_at h8 6
  have b3 := byte_at h8 7
  unfold wordN
  simp only [Nat.reduceAdd] at *
  generalize l[4]?.getD 0 = x0 at *
  generalize l[5]?.getD 0 = x1 at *
  generalize l[6]?.getD 0 = x2 at *
  generalize l[7]?.getD 0 = x3 at *
  have o1 := or_u32 8 x0 x1 (by omega) (by omega) (by omega) (by omega) (by omega)
  have o2 := or_u32 16 (x0 + x1 * 256) x2 (by omega) (by omega) (by omega) (by omega) (by omega)
  have o3 := or_u32 24 (x0 + x1 * 256 + x2 * 65536) x3 (by omega) (by omega) (by omega) (by omega) (by omega)
  simp only [Int.reducePow] at o1 o2 o3
  clear hcell hc h8
  unfold maxLen at hm
  go_enter Tryd.func56, Tryd.ntmps56
  go_wp2
  go_quiet (fail)
  go_wp2
  go_ret
  exact ⟨rfl, rfl, rfl, rfl, Nat.le_refl _, fun _ _ => rfl⟩

end Go.Proofs.YtlfnlhbkagjheaaDoor

/-
  impl.openFrame.
-/
namespace Go.Proofs.YtlfnlhbkagjheaaDoor
open Go.RowKit
set_option linter.unusedVariables false

/-- the code of a frame, but for its kind -/
def sumC (l : List Int) : Nat :=
  if ¬ (9 ≤ l.length ∧ l.length ≤ 16384) then 1
  else if wordN l 0 ≠ (l.length : Int) - 8 then 2
  else if wordN l 4 ≠ (crcOf (l.drop 8) : Nat) then 3 else 0

theorem sumC_len {l : List Int} (h : sumC l = 0) : 9 ≤ l.length ∧ l.length ≤ 16384 := by
  unfold sumC at h
  split at h
  · cases h
  · omega

set_option maxHeartbeats 4000000 in
set_option maxRecDepth 100000 in
theorem openFrame_any (a : Option Addr) (len c : Nat) (l : List Int) (w : World) (A : Nat → Addr) (B : Nat) (hs : Sents w A B) (hv : Bs w (.slice a len c) l) (hc : len ≤ c) (D : Nat) (hD : 0 < l.length → ∃ x, a = some x ∧ x.block < D) :
    Calls Tryd.prog 43 #[.slice a len c] w fun e w' =>
      e = .returned (if sumC l = 0 then .tuple #[sliced a 8 len c 1, .nilIface] else .tuple #[.slice none 0 0, refV (A (sumC l)) 0]) ∧ Below w.heap.size w w' := by
  have HV : Hid (Bs w (.slice a len c) l) := hv
  have el : len = l.length := by obtain ⟨_, _, _, _, e, _⟩ := hv; injection e
  have hml := hv.1
  unfold maxLen at hml
  subst el
  clear hv
  by_cases h1 : 9 ≤ l.length ∧ l.length ≤ 16384
  · have t1 : ∀ wx, (Instr.slice 22 (.slice a l.length c) (some (.int .i64 8)) none none).run Tryd.prog wx = .ok (sliced a 8 l.length c 1) wx := slice_l a l.length c 8 (by omega)
    have hin : inB l.length 9 16384 = true := by rw [inB_iff]; omega
    have hd := HV.out.drop hc hD 8 (by omega)
    obtain ⟨a2, n2, c2, e2, _, _⟩ := hd.2
    rw [e2] at t1 hd ⊢
    have e3 : n2 = l.length - 8 := by
      obtain ⟨_, _, _, _, e, _⟩ := hd.1
      injection e with _ e _
      rw [e, List.length_drop]
    subst e3
    have HD : Hid (Bs w (.slice a2 (l.length - 8) c2) (l.drop 8)) := hd.1
    clear hd e2
    have g2 := hs.g2
    have g3 := hs.g3
    have hsub : ((l.length - 8 : Nat) : Int) = (l.length : Int) - 8 := by omega
    have y1 : True := trivial
    have hcr : crcOf (l.drop 8) < 4294967296 := xor_lt _ _ (crcSt_lt (l.drop 8) HD.out.2.1 _) (by decide)
    have hS : sumC l = if wordN l 0 ≠ (l.length : Int) - 8 then 2 else if wordN l 4 ≠ (crcOf (l.drop 8) : Nat) then 3 else 0 := by
      unfold sumC
      rw [if_neg (fun h => h h1)]
    have HW0 : ∀ w' : World, Bs w' (.slice a l.length c) l → Hid (Calls Tryd.prog 56 #[.slice a l.length c, .int .i64 0] w' fun e w'' => e = .returned (.int .u32 (wordN l 0)) ∧ Below w'.heap.size w' w'') := fun w' h => wordAt0 _ l w' h (by omega)
    have HW4 : ∀ w' : World, Bs w' (.slice a l.length c) l → Hid (Calls Tryd.prog 56 #[.slice a l.length c, .int .i64 4] w' fun e w'' => e = .returned (.int .u32 (wordN l 4)) ∧ Below w'.heap.size w' w'') := fun w' h => wordAt4 _ l w' h (by omega)
    have HC : ∀ w' : World, Bs w' (.slice a2 (l.length - 8) c2) (l.drop 8) → Hid (Calls Tryd.prog 57 #[.slice a2 (l.length - 8) c2] w' fun e w'' => e = .returned (.int .u32 (crcOf (l.drop 8) : Nat)) ∧ w'' = w') := fun w' h => implCrc_any _ _ w' h
    generalize crcOf (l.drop 8) = cr at hcr hS HC
    generalize wordN l 0 = w0 at hS HW0
    generalize wordN l 4 = w4 at hS HW4
    by_cases h2 : w0 = (l.length : Int) - 8
    · by_cases h3 : w4 = (cr : Nat)
      · have hsc : sumC l = 0 := by simp [hS, h2, h3]
        rw [if_pos hsc]
        go_enter Tryd.func43, Tryd.ntmps43
        go_wp2_with (first
          | (go_at_call 49; refine (within_any _ _ _ _).mono ?_; rw [hin]; rintro e w1 ⟨rfl, rfl⟩)
          | (go_at_call 56; clear y1; refine (HW0 _ HV.out).out.mono ?_; rw [h2]; rintro e w1 ⟨rfl, hb1⟩)
          | (go_at_call 56; refine (HW4 _ (HV.out.below hb1)).out.mono ?_; rw [h3]; rintro e w2 ⟨rfl, hb2⟩; have hB := hb1.trans (hb2.mono hb1.size))
          | (go_at_call 57; refine (HC _ (HD.out.below hB)).out.mono ?_; rintro e w3 ⟨rfl, rfl⟩))
        go_ret2
        exact ⟨rfl, hB⟩
      · have hsc : sumC l = 3 := by simp [hS, h2, h3]
        rw [hsc]
        simp only [Nat.succ_ne_zero, if_false]
        have n3 : (w4 != (cr : Int)) = true := by simpa using h3
        go_enter Tryd.func43, Tryd.ntmps43
        go_wp2_with (first
          | (go_at_call 49; refine (within_any _ _ _ _).mono ?_; rw [hin]; rintro e w1 ⟨rfl, rfl⟩)
          | (go_at_call 56; clear y1; refine (HW0 _ HV.out).out.mono ?_; rw [h2]; rintro e w1 ⟨rfl, hb1⟩)
          | (go_at_call 56; refine (HW4 _ (HV.out.below hb1)).out.mono ?_; rintro e w2 ⟨rfl, hb2⟩; have hB := hb1.trans (hb2.mono hb1.size); have g3' := (hs.below hB).g3)
          | (go_at_call 57; refine (HC _ (HD.out.below hB)).out.mono ?_; rintro e w3 ⟨rfl, rfl⟩))
        go_quiet (fail)
        go_wp2
        go_ret2
        exact ⟨rfl, ⟨hB.os, hB.tape, hB.output, hB.size, hB.block⟩⟩
    · have hsc : sumC l = 2 := by simp [hS, h2]
      rw [hsc]
      simp only [Nat.succ_ne_zero, if_false]
      have n2 : (w0 != (l.length : Int) - 8) = true := by simpa using h2
      go_enter Tryd.func43, Tryd.ntmps43
      go_wp2_with (first
        | (go_at_call 49; refine (within_any _ _ _ _).mono ?_; rw [hin]; rintro e w1 ⟨rfl, rfl⟩)
        | (go_at_call 56; clear y1; refine (HW0 _ HV.out).out.mono ?_; rintro e w1 ⟨rfl, hb1⟩; have g2' := (hs.below hb1).g2))
      go_quiet (fail)
      go_wp2
      go_ret2
      exact ⟨rfl, ⟨hb1.os, hb1.tape, hb1.output, hb1.size, hb1.block⟩⟩
  · have hsc : sumC l = 1 := by simp [sumC, h1]
    rw [hsc]
    simp only [Nat.succ_ne_zero, if_false]
    have hin : inB l.length 9 16384 = false := by rw [inB_not]; omega
    have g1 := hs.g1
    go_enter Tryd.func43, Tryd.ntmps43
    go_wp2_with (go_at_call 49; refine (within_any _ _ _ _).mono ?_; rw [hin]; rintro e w1 ⟨rfl, rfl⟩)
    go_quiet (fail)
    go_wp2
    go_ret2
    exact ⟨rfl, rfl, rfl, rfl, Nat.le_refl _, fun _ _ => rfl⟩
end Go.Proofs.YtlfnlhbkagjheaaDoor

/-
  Codes and faults of a frame.
-/
namespace Go.Proofs.YtlfnlhbkagjheaaDoor
open Go.RowKit
set_option linter.unusedVariables false
set_option linter.unusedSimpArgs false

theorem Bs.lt {w : World} {a : Option Addr} {n c : Nat} {l : List Int} (h : Bs w (.slice a n c) l) (hp : 0 < l.length) : ∃ x, a = some x ∧ x.block < w.heap.size := by
  obtain ⟨_, _, a', c', e, hcell⟩ := h
  injection e with e1 e2 e3
  subst e1
  obtain ⟨b, off, rfl, hj⟩ := hcell 0 hp
  exact ⟨_, rfl, cell_lt (hj 0 hp)⟩

/-- the code of a frame for the kinds lo .. hi, but for its rest -/
def openC (l : List Int) (lo hi : Int) : Nat := if sumC l ≠ 0 then sumC l else if inB (l[8]?.getD 0) lo hi = false then 4 else 0
theorem openC_le (l : List Int) (lo hi : Int) : openC l lo hi ≤ 4 := by
  unfold openC sumC
  repeat' split
  all_goals omega

/-- code and fault of a frame: what is left of its body, and the fault of its value -/
def decC (l : List Int) (lo hi : Int) (left : RSt) (f : Int) : Nat × Int :=
  if openC l lo hi ≠ 0 then (openC l lo hi, 0) else if left ≠ some [] then (5, 0) else if f ≠ 0 then (6, f) else (0, 0)
theorem decC_le (l : List Int) (lo hi : Int) (left : RSt) (f : Int) : (decC l lo hi left f).1 ≤ 6 := by
  have := openC_le l lo hi
  unfold decC
  repeat' split
  all_goals simp <;> omega
theorem decC_zero {l : List Int} {lo hi : Int} {left : RSt} {f : Int} (h : (decC l lo hi left f).1 = 0) : openC l lo hi = 0 ∧ left = some [] ∧ f = 0 := by
  unfold decC at h
  split at h
  · next h' => exact absurd h h'
  · next h' =>
    split at h
    · cases h
    · next h'' =>
      split at h
      · cases h
      · next h3 => exact ⟨Decidable.not_not.1 h', Decidable.not_not.1 h'', Decidable.not_not.1 h3⟩

theorem grown_of_below {w w' : World} (h : Below w.heap.size w w') (row : Option Nat) : w.grownBy w' row := ⟨h.os, h.tape, h.output, h.size, fun k hk _ => h.block k hk⟩

end Go.Proofs.YtlfnlhbkagjheaaDoor

/-
  impl.reader: cmd.
-/
namespace Go.Proofs.YtlfnlhbkagjheaaDoor
open Go.RowKit
set_option linter.unusedVariables false
set_option linter.unusedSimpArgs false

/-- what a command reads as, and what is left -/
structure CmdR where
  cl : Nat
  sq : Nat
  op : Nat
  k : ByteArray
  v : ByteArray
  o : ByteArray
  left : RSt

def rdCmd (s : RSt) : CmdR :=
  let a := rdNum s
  let b := rdNum a.2
  let c := rdNum b.2
  let d := rdText c.2
  let e := rdText d.2
  let f := rdText e.2
  ⟨a.1, b.1, c.1, d.1, e.1, f.1, f.2⟩

def cmdV (r : CmdR) : Value := .agg #[.int .i64 (r.cl : Nat), .int .i64 (r.sq : Nat), .int .i64 (r.op : Nat), .string r.k, .string r.v, .string r.o]

theorem rdCmd_k (s : RSt) : (rdCmd s).k.size ≤ 64 := rdText_size _
theorem rdCmd_v (s : RSt) : (rdCmd s).v.size ≤ 64 := rdText_size _
theorem rdCmd_o (s : RSt) : (rdCmd s).o.size ≤ 64 := rdText_size _

set_option maxHeartbeats 4000000 in
set_option maxRecDepth 100000 in
theorem cmd_any (b : Nat) (w : World) (A : Nat → Addr) (B D : Nat) (st : RSt) (hs : Sents w A B) (h : Rd w b A B D st) :
    Calls Tryd.prog 68 #[.pointer (some ⟨b, 0, none⟩)] w fun e w' => e = .returned (cmdV (rdCmd st)) ∧ Rd w' b A B D (rdCmd st).left ∧ w.grownBy w' (some b) := by
  have HN : ∀ w st, Sents w A B → Rd w b A B D st → Hid (Calls Tryd.prog 58 #[.pointer (some ⟨b, 0, none⟩)] w fun e w' => e = .returned (.int .i64 ((rdNum st).1 : Nat)) ∧ Sents w' A B ∧ Rd w' b A B D (rdNum st).2 ∧ w.grownBy w' (some b)) := fun w st hs h => number_s b w A B D st hs h
  have HT : ∀ w st, Sents w A B → Rd w b A B D st → Hid (Calls Tryd.prog 70 #[.pointer (some ⟨b, 0, none⟩)] w fun e w' => e = .returned (.string (rdText st).1) ∧ Sents w' A B ∧ Rd w' b A B D (rdText st).2 ∧ w.grownBy w' (some b)) := fun w st hs h => text_s b w A B D st hs h
  have hB0 := h.1
  have hbD := h.2.1
  have hDw := h.2.2.1
  have HR : Hid (Rd w b A B D st) := h
  have HS : Hid (Sents w A B) := hs
  clear h hs
  have y1 : True := trivial
  have y2 : True := trivial
  have y3 : True := trivial
  have y4 : True := trivial
  have y5 : True := trivial
  have y6 : True := trivial
  go_enter Tryd.func68, Tryd.ntmps68
  go_wp2_with (first
    | (go_at_call 58; clear y1; refine Calls.mono (HN _ _ (HS.out.kept (((Below.refl _ _).alloc (by omega) _).alloc (by simp; omega) _)) (HR.out.below (((Below.refl _ _).alloc (by omega) _).alloc (by simp; omega) _))).out ?_; rintro e w1 ⟨rfl, hs, hr, hg⟩; obtain ⟨cc, cf⟩ := grown_cell (q := w.heap.size + 1) hg (by simp [World.setCell] <;> omega) (by omega); obtain ⟨dc, df⟩ := grown_cell (q := w.heap.size) hg (by simp [World.setCell] <;> omega) (by omega); have hG : w.grownBy w1 (some b) := grownBy_trans (grown_alloc (grown_alloc (grownBy_refl w (some b)) _) _) hg; have hz := hG.size; have hz2 : w.heap.size + 1 < w1.heap.size := (by have := hg.size; simp [World.setCell] at this; omega))
    | (go_at_call 58; clear y2; refine Calls.mono (HN _ _ (hs.kept ((Below.refl _ _).setCell (show _ ≤ w.heap.size + 1 by omega) _)) (hr.below ((Below.refl _ _).setCell (show _ ≤ w.heap.size + 1 by omega) _))).out ?_; rintro e w2 ⟨rfl, hs, hr, hg⟩; obtain ⟨cc, cf⟩ := grown_cell (q := w.heap.size + 1) hg (by simp [World.setCell] <;> omega) (by omega); obtain ⟨dc, df⟩ := grown_cell (q := w.heap.size) hg (by simp [World.setCell] <;> omega) (by omega); have hG : w.grownBy w2 (some b) := grownBy_trans (grown_setNew hG (w.heap.size + 1) _ _ (by omega)) hg; have hz := hG.size; have hz2 : w.heap.size + 1 < w2.heap.size := (by have := hg.size; simp [World.setCell] at this; omega))
    | (go_at_call 58; clear y3; refine Calls.mono (HN _ _ (hs.kept ((Below.refl _ _).setCell (show _ ≤ w.heap.size + 1 by omega) _)) (hr.below ((Below.refl _ _).setCell (show _ ≤ w.heap.size + 1 by omega) _))).out ?_; rintro e w3 ⟨rfl, hs, hr, hg⟩; obtain ⟨cc, cf⟩ := grown_cell (q := w.heap.size + 1) hg (by simp [World.setCell] <;> omega) (by omega); obtain ⟨dc, df⟩ := grown_cell (q := w.heap.size) hg (by simp [World.setCell] <;> omega) (by omega); have hG : w.grownBy w3 (some b) := grownBy_trans (grown_setNew hG (w.heap.size + 1) _ _ (by omega)) hg; have hz := hG.size; have hz2 : w.heap.size + 1 < w3.heap.size := (by have := hg.size; simp [World.setCell] at this; omega))
    | (go_at_call 70; clear y4; refine Calls.mono (HT _ _ (hs.kept ((Below.refl _ _).setCell (show _ ≤ w.heap.size + 1 by omega) _)) (hr.below ((Below.refl _ _).setCell (show _ ≤ w.heap.size + 1 by omega) _))).out ?_; rintro e w4 ⟨rfl, hs, hr, hg⟩; obtain ⟨cc, cf⟩ := grown_cell (q := w.heap.size + 1) hg (by simp [World.setCell] <;> omega) (by omega); obtain ⟨dc, df⟩ := grown_cell (q := w.heap.size) hg (by simp [World.setCell] <;> omega) (by omega); have hG : w.grownBy w4 (some b) := grownBy_trans (grown_setNew hG (w.heap.size + 1) _ _ (by omega)) hg; have hz := hG.size; have hz2 : w.heap.size + 1 < w4.heap.size := (by have := hg.size; simp [World.setCell] at this; omega))
    | (go_at_call 70; clear y5; refine Calls.mono (HT _ _ (hs.kept ((Below.refl _ _).setCell (show _ ≤ w.heap.size + 1 by omega) _)) (hr.below ((Below.refl _ _).setCell (show _ ≤ w.heap.size + 1 by omega) _))).out ?_; rintro e w5 ⟨rfl, hs, hr, hg⟩; obtain ⟨cc, cf⟩ := grown_cell (q := w.heap.size + 1) hg (by simp [World.setCell] <;> omega) (by omega); obtain ⟨dc, df⟩ := grown_cell (q := w.heap.size) hg (by simp [World.setCell] <;> omega) (by omega); have hG : w.grownBy w5 (some b) := grownBy_trans (grown_setNew hG (w.heap.size + 1) _ _ (by omega)) hg; have hz := hG.size; have hz2 : w.heap.size + 1 < w5.heap.size := (by have := hg.size; simp [World.setCell] at this; omega))
    | (go_at_call 70; clear y6; refine Calls.mono (HT _ _ (hs.kept ((Below.refl _ _).setCell (show _ ≤ w.heap.size + 1 by omega) _)) (hr.below ((Below.refl _ _).setCell (show _ ≤ w.heap.size + 1 by omega) _))).out ?_; rintro e w6 ⟨rfl, hs, hr, hg⟩; obtain ⟨cc, cf⟩ := grown_cell (q := w.heap.size + 1) hg (by simp [World.setCell] <;> omega) (by omega); obtain ⟨dc, df⟩ := grown_cell (q := w.heap.size) hg (by simp [World.setCell] <;> omega) (by omega); have hG : w.grownBy w6 (some b) := grownBy_trans (grown_setNew hG (w.heap.size + 1) _ _ (by omega)) hg; have hz := hG.size; have hz2 : w.heap.size + 1 < w6.heap.size := (by have := hg.size; simp [World.setCell] at this; omega)))
  exact bodyPost_ret (v := cmdV (rdCmd st)) (by simp [results, Tryd.results68, go_sem, cmdV, rdCmd, *]) rfl ⟨rfl, hr.below ((((((((Below.refl _ _).setCell (show _ ≤ w.heap.size + 1 by omega) _).setCell (show _ ≤ w.heap.size by omega) _).setCell (show _ ≤ w.heap.size by omega) _).setCell (show _ ≤ w.heap.size by omega) _).setCell (show _ ≤ w.heap.size by omega) _).setCell (show _ ≤ w.heap.size by omega) _).setCell (show _ ≤ w.heap.size by omega) _), grown_setNew (grown_setNew (grown_setNew (grown_setNew (grown_setNew (grown_setNew (grown_setNew hG (w.heap.size + 1) _ _ (by omega)) w.heap.size _ _ (by omega)) w.heap.size _ _ (by omega)) w.heap.size _ _ (by omega)) w.heap.size _ _ (by omega)) w.heap.size _ _ (by omega)) w.heap.size _ _ (by omega)⟩
end Go.Proofs.YtlfnlhbkagjheaaDoor

/-
  Slices of entries: what a slice value holds.
-/
namespace Go.Proofs.YtlfnlhbkagjheaaDoor
open Go.RowKit
set_option linter.unusedVariables false

/-- an entry -/
structure Ent where
  t : Int
  cl : Int
  sq : Int
  op : Int
  k : ByteArray
  v : ByteArray
  o : ByteArray

def Ent.fits (e : Ent) : Prop := e.k.size ≤ maxLen ∧ e.v.size ≤ maxLen ∧ e.o.size ≤ maxLen

/-- the seven cells of an entry -/
def EntAt (w : World) (b off : Nat) (e : Ent) : Prop :=
  w.cell? ⟨b, off, none⟩ = some (.int .i64 e.t) ∧ w.cell? ⟨b, off + 1, none⟩ = some (.int .i64 e.cl) ∧ w.cell? ⟨b, off + 2, none⟩ = some (.int .i64 e.sq) ∧ w.cell? ⟨b, off + 3, none⟩ = some (.int .i64 e.op) ∧
  w.cell? ⟨b, off + 4, none⟩ = some (.string e.k) ∧ w.cell? ⟨b, off + 5, none⟩ = some (.string e.v) ∧ w.cell? ⟨b, off + 6, none⟩ = some (.string e.o)

theorem EntAt.below {w w' : World} {b off : Nat} {e : Ent} (h : EntAt w b off e) (hb : Below w.heap.size w w') : EntAt w' b off e := by
  obtain ⟨h0, h1, h2, h3, h4, h5, h6⟩ := h
  have hl := cell_lt h0
  exact ⟨(hb.cell hl).trans h0, (hb.cell hl).trans h1, (hb.cell hl).trans h2, (hb.cell hl).trans h3, (hb.cell hl).trans h4, (hb.cell hl).trans h5, (hb.cell hl).trans h6⟩

/-- the slice value v holds, in the world w, the entries l -/
def Es (w : World) (v : Value) (l : List Ent) : Prop :=
  l.length ≤ maxLen ∧ (∀ e ∈ l, e.fits) ∧
  ∃ a cap, v = .slice a l.length cap ∧ ∀ i, i < l.length → ∃ b off, a = some ⟨b, off, none⟩ ∧ ∀ j (h : j < l.length), EntAt w b (off + j * 7) l[j]

theorem Es.below {w w' : World} {v : Value} {l : List Ent} (h : Es w v l) (hb : Below w.heap.size w w') : Es w' v l := by
  obtain ⟨hl, hf, a, cap, rfl, hc⟩ := h
  refine ⟨hl, hf, a, cap, rfl, fun i hi => ?_⟩
  obtain ⟨b, off, rfl, hj⟩ := hc i hi
  exact ⟨b, off, rfl, fun j hj' => (hj j hj').below hb⟩

theorem Es.block {w w' : World} {g n cap : Nat} {l : List Ent} (h : Es w (.slice (some ⟨g, 0, none⟩) n cap) l) (hb : w'.heap[g]? = w.heap[g]?) : Es w' (.slice (some ⟨g, 0, none⟩) n cap) l := by
  obtain ⟨hl, hf, a, cap', e, hc⟩ := h
  refine ⟨hl, hf, a, cap', e, fun i hi => ?_⟩
  obtain ⟨b, off, rfl, hj⟩ := hc i hi
  simp only [Value.slice.injEq, Option.some.injEq, Addr.mk.injEq, and_true] at e
  obtain ⟨⟨rfl, rfl⟩, _⟩ := e
  have hcc : ∀ o, w'.cell? ⟨g, o, none⟩ = w.cell? ⟨g, o, none⟩ := fun o => World.cell?_of_block (w := w) hb
  refine ⟨g, 0, rfl, fun j hj' => ?_⟩
  obtain ⟨h0, h1, h2, h3, h4, h5, h6⟩ := hj j hj'
  exact ⟨(hcc _).trans h0, (hcc _).trans h1, (hcc _).trans h2, (hcc _).trans h3, (hcc _).trans h4, (hcc _).trans h5, (hcc _).trans h6⟩
end Go.Proofs.YtlfnlhbkagjheaaDoor

/-
  Slices of entries that the call itself owns; append to them.
-/
namespace Go.Proofs.YtlfnlhbkagjheaaDoor
open Go.RowKit
set_option linter.unusedVariables false

theorem infoEnt : (Tryd.prog.info? 53).map (fun i => (i.zero, i.size, i.bytes)) = some (some (.agg #[.int .i64 0, .int .i64 0, .int .i64 0, .int .i64 0, .string ⟨#[]⟩, .string ⟨#[]⟩, .string ⟨#[]⟩]), 7, 80) := by kernel_rfl

def Ent.cells (e : Ent) : List Value := [.int .i64 e.t, .int .i64 e.cl, .int .i64 e.sq, .int .i64 e.op, .string e.k, .string e.v, .string e.o]
def entCells : List Ent → List Value
  | [] => []
  | e :: l => e.cells ++ entCells l
theorem entCells_app (l k : List Ent) : entCells (l ++ k) = entCells l ++ entCells k := by
  induction l with
  | nil => rfl
  | cons e l ih => rw [List.cons_append, entCells, ih, entCells, List.append_assoc]
theorem entCells_len (l : List Ent) : (entCells l).length = l.length * 7 := by
  induction l with
  | nil => rfl
  | cons e l ih => rw [entCells, List.length_append, ih, List.length_cons]; simp [Ent.cells]; omega
theorem entCells_get (l : List Ent) : ∀ (j : Nat) (h : j < l.length) (i : Nat), i < 7 → (entCells l)[j * 7 + i]? = l[j].cells[i]? := by
  induction l with
  | nil => intro j h; simp at h
  | cons e l ih =>
    intro j h i hi
    have h7 : e.cells.length = 7 := rfl
    cases j with
    | zero => rw [entCells, List.getElem?_append_left (by rw [h7]; omega)]; simp
    | succ j =>
      rw [entCells, List.getElem?_append_right (by rw [h7]; omega), h7, show (j + 1) * 7 + i - 7 = j * 7 + i by omega, ih j (by simpa using h) i hi]
      simp

/-- the slice value v, in memory from block B on that is the call's own, holds the entries l -/
def OwnE (w : World) (B : Nat) (v : Value) (l : List Ent) : Prop :=
  (∀ e ∈ l, e.fits) ∧ w.ownsRow B 53 7 v l.length (entCells l)

theorem OwnE.nil (w : World) (B : Nat) : OwnE w B (.slice none 0 0) [] := ⟨by simp, World.ownsRow_nil w B _ 7⟩
theorem OwnE.made (w : World) (B : Nat) (hB : B ≤ w.heap.size) : OwnE (w.alloc (.cells #[] 53)) B (.slice (some ⟨w.heap.size, 0, none⟩) 0 0) [] :=
  ⟨by simp, World.ownsRow_made w #[] 0 hB (by decide) (by simp)⟩
theorem OwnE.shape {w : World} {B : Nat} {v : Value} {l : List Ent} (h : OwnE w B v l) : ∃ a cap, v = .slice a l.length cap := by
  rcases h.2.2 with ⟨rfl, h0⟩ | ⟨g, cap, cur, rfl, _⟩
  · exact ⟨none, 0, by rw [h0]⟩
  · exact ⟨_, _, rfl⟩
theorem OwnE.shape' {w : World} {B : Nat} {v : Value} {l : List Ent} (h : OwnE w B v l) (hl : 0 < l.length) : ∃ g cap, v = .slice (some ⟨g, 0, none⟩) l.length cap := by
  rcases h.2.2 with ⟨rfl, h0⟩ | ⟨g, cap, cur, rfl, _⟩
  · omega
  · exact ⟨_, _, rfl⟩
theorem OwnE.le {w : World} {B B' : Nat} {v : Value} {l : List Ent} (h : OwnE w B v l) (hb : B' ≤ B) : OwnE w B' v l := by
  refine ⟨h.1, h.2.1, ?_⟩
  rcases h.2.2 with h | ⟨g, cap, cur, hv, hg, r⟩
  · exact .inl h
  · exact .inr ⟨g, cap, cur, hv, Nat.le_trans hb hg, r⟩
theorem OwnE.block {w w' : World} {B : Nat} {v : Value} {l : List Ent} (h : OwnE w B v l) (hb : ∀ k, v.ownBlock = some k → w'.heap[k]? = w.heap[k]?) : OwnE w' B v l := by
  refine ⟨h.1, h.2.1, ?_⟩
  rcases h.2.2 with h | ⟨g, cap, cur, hv, hg, hh, r⟩
  · exact .inl h
  · subst hv
    exact .inr ⟨g, cap, cur, rfl, hg, (hb g rfl).trans hh, r⟩
theorem OwnE.below {w w' : World} {B : Nat} {v : Value} {l : List Ent} (h : OwnE w B v l) (hb : Below w.heap.size w w') : OwnE w' B v l :=
  h.block fun k hk => hb.block k (h.2.lt k hk).2
/-- .. through a call that writes in one block that is older -/
theorem OwnE.grown {w w' : World} {B b : Nat} {v : Value} {l : List Ent} (h : OwnE w B v l) (hg : w.grownBy w' (some b)) (hb : b < B) : OwnE w' B v l :=
  h.block fun k hk => hg.block k (h.2.lt k hk).2 (by intro e; injection e with e; have := (h.2.lt k hk).1; omega)
theorem OwnE.es {w : World} {B : Nat} {v : Value} {l : List Ent} (h : OwnE w B v l) (hl : l.length ≤ maxLen) : Es w v l := by
  obtain ⟨a, cap, rfl⟩ := h.shape
  refine ⟨hl, h.1, a, cap, rfl, fun i hi => ?_⟩
  obtain ⟨g, cap', e⟩ := h.shape' (by omega)
  simp only [Value.slice.injEq] at e
  obtain ⟨rfl, _, rfl⟩ := e
  refine ⟨g, 0, rfl, fun j hj => ?_⟩
  have c : ∀ i, i < 7 → w.cell? ⟨g, j * 7 + i, none⟩ = l[j].cells[i]? := fun i hi => by
    rw [h.2.cellAt (j * 7 + i) (by omega)]
    exact entCells_get l j hj i hi
  rw [Nat.zero_add]
  exact ⟨c 0 (by omega), c 1 (by omega), c 2 (by omega), c 3 (by omega), c 4 (by omega), c 5 (by omega), c 6 (by omega)⟩

theorem growE {B : Nat} {w w' : World} {v v' : Value} {l : List Ent} (h : Grew w v w' v') (hown : OwnE w B v l) (hB : B ≤ w.heap.size) : Below B w w' :=
  (Below.refl _ _).grown h.g hB (fun k hk => (hown.2.lt k hk).1)

set_option maxRecDepth 100000 in
theorem wpl_appendE {w : World} {ops : Array Oper} {rest : List Oper} {o : Oper} {a : Act} {Q : Exit → Act → World → Prop} (hgd : o.guard = none) (s x : Operand)
    (ho : o.op = .call { callee := .builtin .append, args := #[s, x], argTypes := #[23, 23] })
    {B : Nat} {v : Value} {l : List Ent} (e : Ent) (hf : e.fits) (hown : OwnE w B v l) (hs : a.eval s = v) (b c : Nat) (hu : EntAt w b 0 e) (hx : a.eval x = .slice (some ⟨b, 0, none⟩) 1 c) (hlen : l.length ≤ 1000000) (hB : B ≤ w.heap.size)
    (h : ∀ v' w', OwnE w' B v' (l ++ [e]) → Grew w v w' v' → wpList Tryd.prog ops Q rest (a.put o.dst v') w') : wpList Tryd.prog ops Q (o :: rest) a w := by
  obtain ⟨i0, hi, hz0, hz1, hz2⟩ := info_parts infoEnt
  obtain ⟨u0, u1, u2, u3, u4, u5, u6⟩ := hu
  refine wpList_append_own_at w hgd s x 23 ho B 53 i0 _ 7 80 Tryd.underlying23 hi hz0 hz1 hz2 rfl (by decide) v l.length _ hs hown.2 ⟨b, 0, none⟩ 1 c e.cells hx rfl ?_ ?_ (by unfold maxLen; omega) (by omega) hB ?_
  · intro j u hj
    rw [cell_add, Nat.zero_add]
    have hj7 : j < 7 := (List.getElem?_eq_some_iff.1 hj).1
    rcases (show j = 0 ∨ j = 1 ∨ j = 2 ∨ j = 3 ∨ j = 4 ∨ j = 5 ∨ j = 6 by omega) with rfl | rfl | rfl | rfl | rfl | rfl | rfl
    · exact u0.trans hj
    · exact u1.trans hj
    · exact u2.trans hj
    · exact u3.trans hj
    · exact u4.trans hj
    · exact u5.trans hj
    · exact u6.trans hj
  · intro u hu
    simp only [Ent.cells, List.mem_cons, List.not_mem_nil, or_false] at hu
    rcases hu with rfl | rfl | rfl | rfl | rfl | rfl | rfl <;> rfl
  · intro v' w' h2 h3 _ h5
    refine h v' w' ⟨fun y hy => ?_, by rw [entCells_app]; simpa [entCells] using h2⟩ ⟨h3, h5.imp id fun e => ⟨_, e, Nat.le_refl _⟩⟩
    rcases List.mem_append.1 hy with hy | hy
    · exact hown.1 y hy
    · rw [List.mem_singleton.1 hy]; exact hf
end Go.Proofs.YtlfnlhbkagjheaaDoor

/-
  Stores into new blocks; results out of a cell.
-/
namespace Go.Proofs.YtlfnlhbkagjheaaDoor
open Go.RowKit
set_option linter.unusedVariables false
set_option linter.unusedSimpArgs false

theorem below_setCells {B g : Nat} {w0 : World} (hg : B ≤ g) : ∀ (vs : List Value) (o : Nat) (w : World), Below B w0 w → Below B w0 (w.setCells g o vs)
  | [], _, _, h => h
  | v :: vs, o, w, h => below_setCells hg vs (o + 1) _ (h.setCell (show B ≤ (⟨g, o, none⟩ : Addr).block from hg) v)

theorem wpl_store_new {w : World} {ops : Array Oper} {rest : List Oper} {o : Oper} {a : Act} {Q : Exit → Act → World → Prop} (hgd : o.guard = none) (ty : TypeId) (x y : Operand) (ho : o.op = .store ty x y)
    (c c' : Array Value) (hx : a.eval x = .pointer (some ⟨w.heap.size, 0, none⟩)) (hy : a.eval y = .agg c') (hi : (Tryd.prog.info? ty).map (·.size) = some c'.size) (hc : c.size = c'.size) (h1 : c'.all (·.oneCell') = true)
    (h : wpList Tryd.prog ops Q rest (a.put o.dst undef) (w.alloc (.cells c' ty))) : wpList Tryd.prog ops Q (o :: rest) a (w.alloc (.cells c ty)) :=
  wpList_plain hgd fun K hK => by
    unfold Oper.wp execOp
    simp only [ho, hx, hy, Sem.run_bind, Sem.run_pure, Result.andThen_ok, run_storeAt_new w ty c c' hi hc h1]
    exact hK _ _ h

theorem range_new (w : World) (cs : List Value) (t : TypeId) : (w.alloc (.cells cs.toArray t)).rangeAt w.heap.size 0 cs := by
  intro j v hj
  rw [Nat.zero_add, World.cell?_alloc_new]
  simpa using hj

theorem results_cell {fn : Func} {t : Tmp} {ty : TypeId} {tmps : Array Value} {a : Addr} {w : World} {v : Value} (hr : fn.results = #[.cell t ty]) (ht : tmps.getD t undef = .pointer (some a))
    (hl : (loadVar ty a).run Tryd.prog w = .ok v w) : (results fn tmps).run Tryd.prog w = .ok v w := by
  have e : tmps[t]?.getD undef = .pointer (some a) := by rw [← ht]; simp
  simp [results, hr, e, hl, asAddr]

/-- a variable that the call itself made is there still -/
theorem there_new {w w2 : World} {cs : Array Value} {t : TypeId} (hb : Below (w.alloc (.cells cs t)).heap.size (w.alloc (.cells cs t)) w2) (hlt : w.heap.size < w2.heap.size) (o : Obj) : (w2.alloc o).there w.heap.size 0 cs.size := by
  intro j hj
  have c := hb.cell (p := ⟨w.heap.size, 0 + j, none⟩) (by simp)
  have f := hb.frozen (p := ⟨w.heap.size, 0 + j, none⟩) (by simp)
  rw [World.cell?_alloc_lt _ _ ⟨w.heap.size, 0 + j, none⟩ hlt, World.frozen?_alloc_old _ _ ⟨w.heap.size, 0 + j, none⟩ (Nat.ne_of_lt hlt), c, f]
  simp [hj]
end Go.Proofs.YtlfnlhbkagjheaaDoor

/-
  Gates: so that an arm is tried at its own operation alone.
-/
namespace Go.Proofs.YtlfnlhbkagjheaaDoor
open Go.RowKit
set_option linter.unusedVariables false

theorem gate_store {P : Program} {w : World} {ops : Array Oper} {rest : List Oper} {o : Oper} {a : Act} {Q : Exit → Act → World → Prop} (ty : TypeId) (x y : Operand) (ho : o.op = .store ty x y)
    (h : wpList P ops Q (o :: rest) a w) : wpList P ops Q (o :: rest) a w := h
theorem gate_load {P : Program} {w : World} {ops : Array Oper} {rest : List Oper} {o : Oper} {a : Act} {Q : Exit → Act → World → Prop} (ty : TypeId) (x : Operand) (ho : o.op = .load ty x)
    (h : wpList P ops Q (o :: rest) a w) : wpList P ops Q (o :: rest) a w := h
theorem range_app {w : World} {b o : Nat} {xs ys : List Value} : w.rangeAt b o (xs ++ ys) ↔ w.rangeAt b o xs ∧ w.rangeAt b (o + xs.length) ys := by
  constructor
  · intro h
    refine ⟨fun j v hj => h j v ?_, fun j v hj => ?_⟩
    · rw [List.getElem?_append_left (List.getElem?_eq_some_iff.1 hj).1]; exact hj
    · have := h (xs.length + j) v (by rw [List.getElem?_append_right (by omega)]; simpa using hj)
      rwa [← Nat.add_assoc] at this
  · rintro ⟨h1, h2⟩ j v hj
    rcases Nat.lt_or_ge j xs.length with h | h
    · rw [List.getElem?_append_left h] at hj
      exact h1 j v hj
    · rw [List.getElem?_append_right h] at hj
      have := h2 (j - xs.length) v hj
      rwa [Nat.add_assoc, Nat.add_sub_cancel' h] at this
theorem range_splice {w : World} {b : Nat} (p m m' q : List Value) (h : w.rangeAt b 0 (p ++ (m ++ q))) (hl : m'.length = m.length) (ht : w.there b p.length m'.length) :
    (w.setCells b p.length m').rangeAt b 0 (p ++ (m' ++ q)) := by
  obtain ⟨h1, h2⟩ := range_app.1 h
  obtain ⟨h2, h3⟩ := range_app.1 h2
  rw [Nat.zero_add] at h2 h3
  refine range_app.2 ⟨World.rangeAt_setCells_apart h1 _ _ _ (by omega), range_app.2 ⟨?_, ?_⟩⟩
  · rw [Nat.zero_add]; exact World.rangeAt_setCells_same _ _ _ _ ht
  · rw [Nat.zero_add, hl]; exact World.rangeAt_setCells_apart h3 _ _ _ (by omega)
theorem there_part {w : World} {b n : Nat} (h : w.there b 0 n) (o k : Nat) (hk : o + k ≤ n) : w.there b o k := fun j hj => by
  have := h (o + j) (by omega)
  rwa [Nat.zero_add] at this
end Go.Proofs.YtlfnlhbkagjheaaDoor

/-
  impl.reader: entry, entries.
-/
namespace Go.Proofs.YtlfnlhbkagjheaaDoor
open Go.RowKit
set_option linter.unusedVariables false
set_option linter.unusedSimpArgs false

def rdEnt (s : RSt) : Ent × RSt := (⟨(rdNum s).1, (rdCmd (rdNum s).2).cl, (rdCmd (rdNum s).2).sq, (rdCmd (rdNum s).2).op, (rdCmd (rdNum s).2).k, (rdCmd (rdNum s).2).v, (rdCmd (rdNum s).2).o⟩, (rdCmd (rdNum s).2).left)
/-- k entries, one behind another -/
def entsK (s : RSt) : Nat → List Ent × RSt
  | 0 => ([], s)
  | k + 1 => ((entsK s k).1 ++ [(rdEnt (entsK s k).2).1], (rdEnt (entsK s k).2).2)
/-- a number of entries, and they -/
def rdEnts (s : RSt) : List Ent × RSt := if 32 < (rdNum s).1 then ([], none) else entsK (rdNum s).2 (rdNum s).1

theorem rdEnt_fits (s : RSt) : (rdEnt s).1.fits :=
  ⟨Nat.le_trans (rdCmd_k _) (by decide), Nat.le_trans (rdCmd_v _) (by decide), Nat.le_trans (rdCmd_o _) (by decide)⟩
theorem entsK_len (s : RSt) (k : Nat) : (entsK s k).1.length = k := by
  induction k with
  | zero => rfl
  | succ k ih => rw [entsK, List.length_append, ih]; rfl

theorem infoEntS : (Tryd.prog.info? 53).map (·.size) = some 7 := by kernel_rfl

theorem cmd_s (b : Nat) (w : World) (A : Nat → Addr) (B D : Nat) (st : RSt) (hs : Sents w A B) (h : Rd w b A B D st) :
    Calls Tryd.prog 68 #[.pointer (some ⟨b, 0, none⟩)] w fun e w' => e = .returned (cmdV (rdCmd st)) ∧ Sents w' A B ∧ Rd w' b A B D (rdCmd st).left ∧ w.grownBy w' (some b) :=
  (cmd_any b w A B D st hs h).mono fun e w' ⟨h1, h2, h3⟩ => ⟨h1, hs.kept (grown_below h3 h.1 hs.le), h2, h3⟩

theorem there_of_blockR {w w' : World} {b o n : Nat} (hb : w'.heap[b]? = w.heap[b]?) (h : w.there b o n) : w'.there b o n := fun j hj => by
  rw [World.cell?_of_block (w := w) hb, show w'.frozen? ⟨b, o + j, none⟩ = w.frozen? ⟨b, o + j, none⟩ by simp only [World.frozen?, hb]]
  exact h j hj

set_option maxHeartbeats 4000000 in
set_option maxRecDepth 100000 in
theorem entry_any (b : Nat) (w : World) (A : Nat → Addr) (B D : Nat) (st : RSt) (hs : Sents w A B) (h : Rd w b A B D st) :
    Calls Tryd.prog 59 #[.pointer (some ⟨b, 0, none⟩)] w fun e w' => e = .returned (.agg #[.int .i64 (rdEnt st).1.t, .int .i64 (rdEnt st).1.cl, .int .i64 (rdEnt st).1.sq, .int .i64 (rdEnt st).1.op, .string (rdEnt st).1.k, .string (rdEnt st).1.v, .string (rdEnt st).1.o]) ∧ Sents w' A B ∧ Rd w' b A B D (rdEnt st).2 ∧ w.grownBy w' (some b) := by
  have HN : ∀ w st, Sents w A B → Rd w b A B D st → Hid (Calls Tryd.prog 58 #[.pointer (some ⟨b, 0, none⟩)] w fun e w' => e = .returned (.int .i64 ((rdNum st).1 : Nat)) ∧ Sents w' A B ∧ Rd w' b A B D (rdNum st).2 ∧ w.grownBy w' (some b)) := fun w st hs h => number_s b w A B D st hs h
  have HC : ∀ w st, Sents w A B → Rd w b A B D st → Hid (Calls Tryd.prog 68 #[.pointer (some ⟨b, 0, none⟩)] w fun e w' => e = .returned (cmdV (rdCmd st)) ∧ Sents w' A B ∧ Rd w' b A B D (rdCmd st).left ∧ w.grownBy w' (some b)) := fun w st hs h => cmd_s b w A B D st hs h
  have hB0 := h.1
  have hbD := h.2.1
  have hDw := h.2.2.1
  have hT0 : (w.alloc (.cells #[.int .i64 0, .int .i64 0, .int .i64 0, .int .i64 0, .string ⟨#[]⟩, .string ⟨#[]⟩, .string ⟨#[]⟩] 53)).there w.heap.size 0 7 := fun j hj => by rw [Nat.zero_add]; simp [World.cell?_alloc_new, hj]
  have hr0 : Rd (w.alloc (.cells #[.int .i64 0, .int .i64 0, .int .i64 0, .int .i64 0, .string ⟨#[]⟩, .string ⟨#[]⟩, .string ⟨#[]⟩] 53)) b A B D st := h.below ((Below.refl _ _).alloc hDw _)
  have hs0 : Sents (w.alloc (.cells #[.int .i64 0, .int .i64 0, .int .i64 0, .int .i64 0, .string ⟨#[]⟩, .string ⟨#[]⟩, .string ⟨#[]⟩] 53)) A B := hs.below ((Below.refl _ _).alloc (Nat.le_refl _) _)
  have hle := hs.le
  clear h hs
  go_enter Tryd.func59, Tryd.ntmps59
  go_wp2_with (first
    | (go_at_call 58; refine Calls.mono (HN _ _ hs0 hr0).out ?_; rintro e w1 ⟨rfl, hs1, hr1, hg1⟩)
    | (go_at_call 68; refine Calls.mono (HC _ _ hs1 hr1).out ?_; unfold cmdV; rintro e w2 ⟨rfl, hs2, hr2, hg2⟩; have hG := grownBy_trans hg1 hg2; have hT2 := there_of_blockR (hG.block w.heap.size (by simp) (by intro e; injection e with e; omega)) hT0)
    | (refine gate_store 53 (.tmp 2) (.tmp 9) rfl ?_; refine wpList_store_mid rfl 53 (.tmp 2) (.tmp 9) rfl w.heap.size 0 #[.int .i64 (rdEnt st).1.t, .int .i64 (rdEnt st).1.cl, .int .i64 (rdEnt st).1.sq, .int .i64 (rdEnt st).1.op, .string (rdEnt st).1.k, .string (rdEnt st).1.v, .string (rdEnt st).1.o] rfl rfl hT2 infoEntS (by simp [Value.oneCell']) ?_; have hra4 := World.rangeAt_setCells_same _ w.heap.size 0 [.int .i64 (rdEnt st).1.t, .int .i64 (rdEnt st).1.cl, .int .i64 (rdEnt st).1.sq, .int .i64 (rdEnt st).1.op, .string (rdEnt st).1.k, .string (rdEnt st).1.v, .string (rdEnt st).1.o] hT2; have hld := run_loadVar_mid (P := Tryd.prog) _ w.heap.size 0 53 _ _ hra4 Tryd.underlying53 rfl infoEntS; have hB4 := below_setCells (Nat.le_refl w.heap.size) [.int .i64 (rdEnt st).1.t, .int .i64 (rdEnt st).1.cl, .int .i64 (rdEnt st).1.sq, .int .i64 (rdEnt st).1.op, .string (rdEnt st).1.k, .string (rdEnt st).1.v, .string (rdEnt st).1.o] 0 _ (Below.refl w.heap.size w2); clear hra4; generalize (World.setCells _ w.heap.size 0 _) = W4 at hld hB4 ⊢))
  have hGw := grownBy_trans (grown_alloc (grownBy_refl w (some b)) (.cells #[.int .i64 0, .int .i64 0, .int .i64 0, .int .i64 0, .string ⟨#[]⟩, .string ⟨#[]⟩, .string ⟨#[]⟩] 53)) hG
  refine bodyPost_ret (v := .agg #[.int .i64 (rdEnt st).1.t, .int .i64 (rdEnt st).1.cl, .int .i64 (rdEnt st).1.sq, .int .i64 (rdEnt st).1.op, .string (rdEnt st).1.k, .string (rdEnt st).1.v, .string (rdEnt st).1.o]) ?_ rfl ⟨rfl, hs2.kept (hB4.mono hle), hr2.below (hB4.mono hDw), ⟨hB4.os.trans hGw.os, hB4.tape.trans hGw.tape, hB4.output.trans hGw.output, Nat.le_trans hGw.size hB4.size, fun k hk hne => (hB4.block k hk).trans (hGw.block k hk hne)⟩⟩
  exact results_cell Tryd.results59 rfl hld

theorem grown_then {w w1 w2 : World} {row : Option Nat} (h : w.grownBy w1 row) (hb : Below w.heap.size w1 w2) : w.grownBy w2 row :=
  ⟨hb.os.trans h.os, hb.tape.trans h.tape, hb.output.trans h.output, Nat.le_trans h.size hb.size, fun k hk hne => (hb.block k hk).trans (h.block k hk hne)⟩
end Go.Proofs.YtlfnlhbkagjheaaDoor

/-
  Records: eleven cells.
-/
namespace Go.Proofs.YtlfnlhbkagjheaaDoor
open Go.RowKit
set_option linter.unusedVariables false

/-! ### slices of structs, whatever the struct -/
theorem range_below {w w' : World} {b o : Nat} {cs : List Value} (h : w.rangeAt b o cs) (hb : Below w.heap.size w w') : w'.rangeAt b o cs := fun j v hj => (hb.cell (cell_lt (h j v hj))).trans (h j v hj)

/-- the slice value v holds, in the world w, the structs l, of m cells each -/
def Sl {α : Type} (cs : α → List Value) (m : Nat) (w : World) (v : Value) (l : List α) : Prop :=
  l.length ≤ maxLen ∧ ∃ a cap, v = .slice a l.length cap ∧ ∀ i, i < l.length → ∃ b off, a = some ⟨b, off, none⟩ ∧ ∀ j (h : j < l.length), w.rangeAt b (off + j * m) (cs l[j])

theorem Sl.below {α : Type} {cs : α → List Value} {m : Nat} {w w' : World} {v : Value} {l : List α} (h : Sl cs m w v l) (hb : Below w.heap.size w w') : Sl cs m w' v l := by
  obtain ⟨hl, a, cap, rfl, hc⟩ := h
  refine ⟨hl, a, cap, rfl, fun i hi => ?_⟩
  obtain ⟨b, off, rfl, hj⟩ := hc i hi
  exact ⟨b, off, rfl, fun j hj' => range_below (hj j hj') hb⟩

theorem there_below {w w' : World} {b o n : Nat} (h : w.there b o n) (hb : Below w.heap.size w w') (hlt : b < w.heap.size) : w'.there b o n := fun j hj => by
  rw [hb.cell (p := ⟨b, o + j, none⟩) hlt, hb.frozen (p := ⟨b, o + j, none⟩) hlt]; exact h j hj

theorem range_new' (w : World) (cs : List Value) (t : TypeId) : (w.alloc (.cells cs.toArray t)).rangeAt w.heap.size 0 cs := by
  intro j v hj
  rw [Nat.zero_add, World.cell?_alloc_new]
  simpa using hj
theorem there_new' (w : World) (cs : Array Value) (t : TypeId) : (w.alloc (.cells cs t)).there w.heap.size 0 cs.size := fun j hj => by
  refine ⟨?_, by simp⟩
  rw [Nat.zero_add, World.cell?_alloc_new, Array.getElem?_eq_getElem hj]; rfl
theorem below_setCells' {B g : Nat} {w0 : World} (hg : B ≤ g) : ∀ (vs : List Value) (o : Nat) (w : World), Below B w0 w → Below B w0 (w.setCells g o vs)
  | [], _, _, h => h
  | v :: vs, o, w, h => below_setCells' hg vs (o + 1) _ (h.setCell (show B ≤ (⟨g, o, none⟩ : Addr).block from hg) v)
theorem size_setCells' {g : Nat} : ∀ (vs : List Value) (o : Nat) (w : World), (w.setCells g o vs).heap.size = w.heap.size
  | [], _, _ => rfl
  | v :: vs, o, w => (size_setCells' vs (o + 1) _).trans (by simp [World.setCell])
theorem there_sub {w : World} {b n : Nat} (h : w.there b 0 n) (o k : Nat) (hk : o + k ≤ n) : w.there b o k := fun j hj => by
  have := h (o + j) (by omega)
  rwa [Nat.zero_add] at this

/-- what has been copied after k rounds -/
structure CopiedG {α : Type} (cs : α → List Value) (m : Nat) (w wr : World) (l : List α) (k : Nat) : Prop where
  below : Below w.heap.size w wr
  size : w.heap.size < wr.heap.size
  there : wr.there w.heap.size 0 (l.length * m)
  rows : ∀ j (h : j < l.length), j < k → wr.rangeAt w.heap.size (j * m) (cs l[j])

theorem CopiedG.start {α : Type} (cs : α → List Value) (m : Nat) (w : World) (l : List α) (z : Array Value) (t : TypeId) : CopiedG cs m w (w.alloc (.cells (madeCells z (l.length * m)) t)) l 0 :=
  ⟨(Below.refl _ _).alloc (Nat.le_refl _) _, by simp, by have h := there_new' w (madeCells z (l.length * m)) t; rwa [size_madeCells] at h, fun j _ h => absurd h (by omega)⟩
theorem CopiedG.later {α : Type} {cs : α → List Value} {m : Nat} {w wr w1 : World} {l : List α} {k : Nat} (h : CopiedG cs m w wr l k) (hb : Below wr.heap.size wr w1) : CopiedG cs m w w1 l k :=
  ⟨h.below.trans (hb.mono (Nat.le_of_lt h.size)), Nat.lt_of_lt_of_le h.size hb.size, fun j hj => by
    rw [hb.cell (p := ⟨w.heap.size, 0 + j, none⟩) h.size, hb.frozen (p := ⟨w.heap.size, 0 + j, none⟩) h.size]; exact h.there j hj, fun j hj hjk => range_below (h.rows j hj hjk) hb⟩
theorem row_le {j k n m : Nat} (h : j < k) (hk : k ≤ n) : j * m + m ≤ n * m := by
  have := Nat.mul_le_mul_right m (show j + 1 ≤ n by omega)
  rwa [Nat.succ_mul] at this
theorem CopiedG.step {α : Type} {cs : α → List Value} {m : Nat} {w wr : World} {l : List α} {k : Nat} (h : CopiedG cs m w wr l k) (hk : k < l.length) (hm : ∀ a, (cs a).length = m) :
    CopiedG cs m w (wr.setCells w.heap.size (k * m) (cs l[k])) l (k + 1) := by
  refine ⟨below_setCells' (Nat.le_refl _) _ _ _ h.below, by rw [size_setCells']; exact h.size, World.there_setCells h.there _ _ _, fun j hj hjk => ?_⟩
  by_cases e : j = k
  · subst e
    exact World.rangeAt_setCells_same _ _ _ _ (there_sub h.there _ _ (by rw [hm]; exact row_le hk (Nat.le_refl _)))
  · exact World.rangeAt_setCells_apart (h.rows j hj (by omega)) _ _ _ (.inr (.inl (by rw [hm]; exact row_le (show j < k by omega) (Nat.le_refl _))))
theorem CopiedG.sl {α : Type} {cs : α → List Value} {m : Nat} {w wr : World} {l : List α} (h : CopiedG cs m w wr l l.length) (hl : l.length ≤ maxLen) : Sl cs m wr (.slice (some ⟨w.heap.size, 0, none⟩) l.length l.length) l :=
  ⟨hl, _, _, rfl, fun i hi => ⟨_, _, rfl, fun j hj => by rw [Nat.zero_add]; exact h.rows j hj hj⟩⟩

/-! ### records -/
structure Rec where
  ki : Int
  tm : Int
  vo : Int
  ix : Int
  e : Ent
def Rec.cells (r : Rec) : List Value := [.int .i64 r.ki, .int .i64 r.tm, .int .i64 r.vo, .int .i64 r.ix, .int .i64 r.e.t, .int .i64 r.e.cl, .int .i64 r.e.sq, .int .i64 r.e.op, .string r.e.k, .string r.e.v, .string r.e.o]
theorem Rec.cells_len (r : Rec) : r.cells.length = 11 := rfl
theorem gate_store' {P : Program} {w : World} {ops : Array Oper} {rest : List Oper} {o : Oper} {a : Act} {Q : Exit → Act → World → Prop} (ty : TypeId) (x y : Operand) (ho : o.op = .store ty x y)
    (h : wpList P ops Q (o :: rest) a w) : wpList P ops Q (o :: rest) a w := h
theorem gate_load' {P : Program} {w : World} {ops : Array Oper} {rest : List Oper} {o : Oper} {a : Act} {Q : Exit → Act → World → Prop} (ty : TypeId) (x : Operand) (ho : o.op = .load ty x)
    (h : wpList P ops Q (o :: rest) a w) : wpList P ops Q (o :: rest) a w := h
end Go.Proofs.YtlfnlhbkagjheaaDoor

/-
  '==' on commands and records.
-/
namespace Go.Proofs.YtlfnlhbkagjheaaDoor
open Go.RowKit
set_option linter.unusedVariables false

def cmdEqB (a b : Ent) : Bool := a.cl == b.cl && (a.sq == b.sq && (a.op == b.op && (a.k.toList == b.k.toList && (a.v.toList == b.v.toList && a.o.toList == b.o.toList))))
def recEqB (r s : Rec) : Bool := r.ki == s.ki && (r.tm == s.tm && (r.vo == s.vo && (r.ix == s.ix && (r.e.t == s.e.t && cmdEqB r.e s.e))))

set_option maxRecDepth 100000 in
set_option maxHeartbeats 2000000 in
theorem eqCmd_run (d : Nat) (a b : Ent) (w : World) : (Op.equalIn (d + 2) 51 (.agg #[.int .i64 a.cl, .int .i64 a.sq, .int .i64 a.op, .string a.k, .string a.v, .string a.o]) (.agg #[.int .i64 b.cl, .int .i64 b.sq, .int .i64 b.op, .string b.k, .string b.v, .string b.o])).run Tryd.prog w = .ok (cmdEqB a b) w := by
  have u3 := Tryd.underlying3
  have u9 := Tryd.underlying9
  have hS : Tryd.prog.underlying 51 = some (.struct (Tryd.prog.fieldsOf 51)) := by kernel_rfl
  rw [run_equalIn_agg w (d + 1) 51 _ _ hS (by kernel_rfl)]
  simp only [Program.fieldsOf, Tryd.underlying51]
  unfold cmdEqB
  go_simp
  by_cases h1 : a.cl = b.cl <;> by_cases h2 : a.sq = b.sq <;> by_cases h3 : a.op = b.op <;> by_cases h4 : a.k.toList = b.k.toList <;> by_cases h5 : a.v.toList = b.v.toList <;> by_cases h6 : a.o.toList = b.o.toList <;> simp [h1, h2, h3, h4, h5, h6]

set_option maxRecDepth 100000 in
set_option maxHeartbeats 2000000 in
theorem eqEnt_run (d : Nat) (a b : Ent) (w : World) : (Op.equalIn (d + 3) 53 (.agg #[.int .i64 a.t, .int .i64 a.cl, .int .i64 a.sq, .int .i64 a.op, .string a.k, .string a.v, .string a.o]) (.agg #[.int .i64 b.t, .int .i64 b.cl, .int .i64 b.sq, .int .i64 b.op, .string b.k, .string b.v, .string b.o])).run Tryd.prog w = .ok (a.t == b.t && cmdEqB a b) w := by
  have u3 := Tryd.underlying3
  have hE := fun w => eqCmd_run d a b w
  have hS : Tryd.prog.underlying 53 = some (.struct (Tryd.prog.fieldsOf 53)) := by kernel_rfl
  rw [run_equalIn_agg w (d + 2) 53 _ _ hS (by kernel_rfl)]
  simp only [Program.fieldsOf, Tryd.underlying53]
  go_simp
  by_cases h1 : a.t = b.t <;> simp [h1]
  cases cmdEqB a b <;> simp

set_option maxRecDepth 100000 in
set_option maxHeartbeats 2000000 in
theorem eqRec_run (d : Nat) (r s : Rec) (w : World) : (Op.equalIn (d + 4) 55 (.agg r.cells.toArray) (.agg s.cells.toArray)).run Tryd.prog w = .ok (recEqB r s) w := by
  have u3 := Tryd.underlying3
  have hE := fun w => eqEnt_run d r.e s.e w
  have hS : Tryd.prog.underlying 55 = some (.struct (Tryd.prog.fieldsOf 55)) := by kernel_rfl
  rw [run_equalIn_agg w (d + 3) 55 _ _ hS (by kernel_rfl)]
  simp only [Program.fieldsOf, Tryd.underlying55, Rec.cells]
  unfold recEqB
  generalize (r.e.t == s.e.t && cmdEqB r.e s.e) = X at hE ⊢
  go_simp
  cases X <;> by_cases h1 : r.ki = s.ki <;> by_cases h2 : r.tm = s.tm <;> by_cases h3 : r.vo = s.vo <;> by_cases h4 : r.ix = s.ix <;> simp [h1, h2, h3, h4]

theorem bytes_ext {a b : ByteArray} (h : a.toList = b.toList) : a = b := by
  have e : a.data.toList = b.data.toList := by rw [← ByteArray.toList_eq, ← ByteArray.toList_eq]; exact h
  cases a; cases b; congr 1; exact Array.toList_inj.1 e
theorem cmdEqB_iff (a b : Ent) : cmdEqB a b = true ↔ a.cl = b.cl ∧ a.sq = b.sq ∧ a.op = b.op ∧ a.k = b.k ∧ a.v = b.v ∧ a.o = b.o := by
  simp only [cmdEqB, Bool.and_eq_true, beq_iff_eq]
  exact ⟨fun ⟨h1, h2, h3, h4, h5, h6⟩ => ⟨h1, h2, h3, bytes_ext h4, bytes_ext h5, bytes_ext h6⟩, fun ⟨h1, h2, h3, h4, h5, h6⟩ => ⟨h1, h2, h3, by rw [h4], by rw [h5], by rw [h6]⟩⟩
end Go.Proofs.YtlfnlhbkagjheaaDoor
