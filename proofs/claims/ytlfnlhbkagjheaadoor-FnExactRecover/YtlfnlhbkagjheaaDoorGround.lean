import Derived.Test.YtlfnlhbkagjheaaDoorRows
import Derived.WalkKit
import Derived.WalkSpells
import Derived.RowKit3
import Derived.Below
import Derived.Deep.Light
import Derived.Deep.QuietTactic
import Derived.BigQuiet
import Derived.Laws.OwnMore
import Derived.Laws.BitsAllLaws
import Derived.OwnWalk
import Derived.Lib.AppendStr
import Derived.Maps.AppendAt
import Derived.LaidEql
import Derived.Stop.Asserts
import Derived.RowKitTokens
/-
  Small things that every walk wants.
-/
namespace Go.Proofs.YtlfnlhbkagjheaaDoor
open Go.RowKit
set_option linter.unusedVariables false

theorem bcell {W w1 : World} (hb : Below W.heap.size W w1) : (∀ b o, b < W.heap.size → w1.cell? ⟨b, o, none⟩ = W.cell? ⟨b, o, none⟩) ∧ (∀ b o, b < W.heap.size → w1.frozen? ⟨b, o, none⟩ = W.frozen? ⟨b, o, none⟩) :=
  ⟨fun b o h => hb.cell (p := ⟨b, o, none⟩) h, fun b o h => hb.frozen (p := ⟨b, o, none⟩) h⟩

theorem ret_int {k : IntKind} {a b : Int} (h : a = b) : Ending.returned (.int k a) = .returned (.int k b) := by rw [h]

theorem ifc {α : Type} {p q : Prop} [Decidable p] [Decidable q] {a b c d : α} (h : p ↔ q) (h1 : a = c) (h2 : b = d) : (if p then a else b) = if q then c else d := by
  subst h1 h2
  by_cases hp : p
  · rw [if_pos hp, if_pos (h.1 hp)]
  · rw [if_neg hp, if_neg (fun hq => hp (h.2 hq))]
end Go.Proofs.YtlfnlhbkagjheaaDoor

/-
  Byte slices: what a slice value holds; laws.toByteS, laws.eqByteS.
-/
namespace Go.Proofs.YtlfnlhbkagjheaaDoor
open Go.RowKit
set_option linter.unusedVariables false

/-- the slice value v holds, in the world w, the bytes l -/
def Bs (w : World) (v : Value) (l : List Int) : Prop :=
  l.length ≤ maxLen ∧ (∀ x ∈ l, 0 ≤ x ∧ x ≤ 255) ∧
  ∃ a cap, v = .slice a l.length cap ∧ ∀ i, i < l.length → ∃ b off, a = some ⟨b, off, none⟩ ∧ ∀ j, j < l.length → w.cell? ⟨b, off + j, none⟩ = some (.int .u8 (l[j]?.getD 0))

theorem byte_at {l : List Int} (h : ∀ x ∈ l, 0 ≤ x ∧ x ≤ 255) (k : Nat) : 0 ≤ l[k]?.getD 0 ∧ l[k]?.getD 0 ≤ 255 := by
  rcases Nat.lt_or_ge k l.length with hk | hk
  · rw [List.getElem?_eq_getElem hk]; exact h _ (List.getElem_mem hk)
  · rw [List.getElem?_eq_none hk]; simp

theorem cell_lt {w : World} {b o : Nat} {v : Value} (h : w.cell? ⟨b, o, none⟩ = some v) : b < w.heap.size := by
  rcases Nat.lt_or_ge b w.heap.size with h' | h'
  · exact h'
  · rw [World.cell?, Array.getElem?_eq_none h'] at h; simp at h

theorem Bs.below {w w' : World} {v : Value} {l : List Int} (h : Bs w v l) (hb : Below w.heap.size w w') : Bs w' v l := by
  obtain ⟨hl, h8, a, cap, rfl, hc⟩ := h
  refine ⟨hl, h8, a, cap, rfl, fun i hi => ?_⟩
  obtain ⟨b, off, rfl, hj⟩ := hc i hi
  exact ⟨b, off, rfl, fun j hj' => by rw [hb.cell (cell_lt (hj j hj'))]; exact hj j hj'⟩


set_option maxHeartbeats 1000000 in
/-- two slices of the same bytes -/
theorem eqByteS_same (v u : Value) (l : List Int) (w : World) (hv : Bs w v l) (hu : Bs w u l) :
    Calls Tryd.prog 9 #[v, u] w fun e w' => e = .returned (.bool true) ∧ Below w.heap.size w w' := by
  obtain ⟨hl, h8, a, cap, rfl, hc⟩ := hv
  obtain ⟨_, _, a', cap', rfl, hc'⟩ := hu
  unfold maxLen at hl
  go_enter Tryd.func9, Tryd.ntmps9
  go_wp2
  go_loopw [5] (fun i wr => ∃ k : Nat, k ≤ l.length ∧ i = .int .i64 k ∧ ∃ n, wr = w.drewN n) (fun i _ => l.length - (intOf i).toNat)
  case atStart => exact ⟨0, Nat.zero_le _, rfl, 0, rfl⟩
  case round =>
    obtain ⟨k, hk, rfl, n, rfl⟩ := hrel
    by_cases hlt : k < l.length
    · obtain ⟨b, off, rfl, hcell⟩ := hc k hlt
      obtain ⟨b', off', rfl, hcell'⟩ := hc' k hlt
      have hck := hcell k hlt
      have hck' := hcell' k hlt
      clear hcell hcell' hc hc'
      go_wp2
      go_quiet (fail)
      go_wp2
      go_roundw
      case rel => exact ⟨k + 1, by omega, by go_num, _, rfl⟩
      case measure => simp [intOf]; omega
    · have e : k = l.length := by omega
      subst e
      go_wp2
      go_ret
      exact ⟨rfl, rfl, rfl, rfl, Nat.le_refl _, fun _ _ => rfl⟩
end Go.Proofs.YtlfnlhbkagjheaaDoor

/-
  Byte slices that the call itself owns; append to them.
-/
namespace Go.Proofs.YtlfnlhbkagjheaaDoor
open Go.RowKit
set_option linter.unusedVariables false

theorem infoU8 : (Tryd.prog.info? 5).map (fun i => (i.zero, i.size, i.bytes)) = some (some (.int .u8 0), 1, 1) := by kernel_rfl

/-- the slice value v, in memory from block B on that is the call's own, holds the bytes l -/
def Own (w : World) (B : Nat) (v : Value) (l : List Int) : Prop :=
  (∀ x ∈ l, 0 ≤ x ∧ x ≤ 255) ∧ w.ownsRow B 5 1 v l.length (l.map (Value.int .u8))

theorem Own.nil (w : World) (B : Nat) : Own w B (.slice none 0 0) [] := ⟨by simp, by simpa using World.ownsRow_nil w B 5 1⟩

theorem Own.shape {w : World} {B : Nat} {v : Value} {l : List Int} (h : Own w B v l) : ∃ a cap, v = .slice a l.length cap := by
  rcases h.2.2 with ⟨rfl, h0⟩ | ⟨g, cap, cur, rfl, _⟩
  · exact ⟨none, 0, by rw [h0]⟩
  · exact ⟨_, _, rfl⟩

theorem Own.shape' {w : World} {B : Nat} {v : Value} {l : List Int} (h : Own w B v l) (hl : 0 < l.length) : ∃ g cap, v = .slice (some ⟨g, 0, none⟩) l.length cap := by
  rcases h.2.2 with ⟨rfl, h0⟩ | ⟨g, cap, cur, rfl, _⟩
  · omega
  · exact ⟨_, _, rfl⟩

theorem Own.le {w : World} {B B' : Nat} {v : Value} {l : List Int} (h : Own w B v l) (hb : B' ≤ B) : Own w B' v l := by
  refine ⟨h.1, h.2.1, ?_⟩
  rcases h.2.2 with h | ⟨g, cap, cur, hv, hg, r⟩
  · exact .inl h
  · exact .inr ⟨g, cap, cur, hv, Nat.le_trans hb hg, r⟩

theorem heap_lt {w : World} {g : Nat} {o : Obj} (h : w.heap[g]? = some o) : g < w.heap.size := by
  rcases Nat.lt_or_ge g w.heap.size with h' | h'
  · exact h'
  · rw [Array.getElem?_eq_none h'] at h; cases h

theorem Own.below {w w' : World} {B : Nat} {v : Value} {l : List Int} (h : Own w B v l) (hb : Below w.heap.size w w') : Own w' B v l := by
  refine ⟨h.1, h.2.1, ?_⟩
  rcases h.2.2 with h | ⟨g, cap, cur, hv, hg, hh, r⟩
  · exact .inl h
  · exact .inr ⟨g, cap, cur, hv, hg, (hb.block g (heap_lt hh)).trans hh, r⟩

theorem cell_add (b o j : Nat) : (⟨b, o, none⟩ : Addr).add j = ⟨b, o + j, none⟩ := by
  unfold Addr.add
  split
  · next h => subst h; rfl
  · rfl

theorem Own.bs {w : World} {B : Nat} {v : Value} {l : List Int} (h : Own w B v l) (hl : l.length ≤ maxLen) : Bs w v l := by
  obtain ⟨a, cap, rfl⟩ := h.shape
  refine ⟨hl, h.1, a, cap, rfl, fun i hi => ?_⟩
  obtain ⟨g, cap', e⟩ := h.shape' (by omega)
  simp only [Value.slice.injEq] at e
  obtain ⟨rfl, _, rfl⟩ := e
  refine ⟨g, 0, rfl, fun j hj => ?_⟩
  have := h.2.cellAt j (by omega)
  rw [Nat.zero_add, this]
  simp [hj]

theorem Own.lit (w : World) (l : List Int) (cs : Array Value) (hc : cs.toList = l.map (Value.int .u8)) (h8 : ∀ x ∈ l, 0 ≤ x ∧ x ≤ 255) (hl : l.length ≤ maxLen) :
    Own (w.alloc (.cells cs 5)) w.heap.size (.slice (some ⟨w.heap.size, 0, none⟩) l.length l.length) l := by
  have hs : cs.size = l.length := by rw [← Array.length_toList, hc, List.length_map]
  refine ⟨h8, by simp, .inr ⟨w.heap.size, l.length, cs, rfl, Nat.le_refl _, ?_, Nat.le_refl _, hl, by omega, ?_⟩⟩
  · show (w.heap.push _)[_]? = _
    simp
  · rw [hc, List.take_of_length_le (by simp)]

/-- w' is w but for v's own row and new blocks; the new value v' lies in v's row or in a new block -/
structure Grew (w : World) (v : Value) (w' : World) (v' : Value) : Prop where
  g : w.grownBy w' v.ownBlock
  at' : v'.ownBlock = v.ownBlock ∨ ∃ k, v'.ownBlock = some k ∧ w.heap.size ≤ k

theorem Grew.refl (w : World) (v : Value) : Grew w v w v := ⟨⟨rfl, rfl, rfl, Nat.le_refl _, fun _ _ _ => rfl⟩, .inl rfl⟩
theorem Grew.trans {w w1 w2 : World} {v v1 v2 : Value} (h : Grew w v w1 v1) (k : Grew w1 v1 w2 v2) : Grew w v w2 v2 := by
  have hs := h.g.size
  refine ⟨⟨k.g.os.trans h.g.os, k.g.tape.trans h.g.tape, k.g.output.trans h.g.output, Nat.le_trans h.g.size k.g.size, fun i hi hne => ?_⟩, ?_⟩
  · refine (k.g.block i (by omega) ?_).trans (h.g.block i hi hne)
    rcases h.at' with e | ⟨j, e, hj⟩
    · rw [e]; exact hne
    · rw [e]; intro he; injection he with he; omega
  · rcases k.at' with e | ⟨j, e, hj⟩
    · rw [e]; exact h.at'
    · exact .inr ⟨j, e, by omega⟩
theorem Grew.alloc {w w' : World} {v v' : Value} (h : Grew w v w' v') (o : Obj) : Grew w v (w'.alloc o) v' :=
  h.trans ⟨World.grownBy_alloc _ _ _, .inl rfl⟩
theorem Grew.below {B : Nat} {w w' : World} {v v' : Value} {l : List Int} (h : Grew w v w' v') (hown : Own w B v l) (hB : B ≤ w.heap.size) : Below B w w' :=
  (Below.refl _ _).grown h.g hB (fun k hk => (hown.2.lt k hk).1)
/-- a block that is not v's own stays -/
theorem Grew.block {w w' : World} {v v' : Value} (h : Grew w v w' v') {k : Nat} (hk : k < w.heap.size) (hne : v.ownBlock ≠ some k) : w'.heap[k]? = w.heap[k]? := h.g.block k hk (fun e => hne e.symm)
theorem Grew.far {w w' : World} {v v' : Value} (h : Grew w v w' v') {k : Nat} (hk : k < w.heap.size) (hne : v.ownBlock ≠ some k) : v'.ownBlock ≠ some k := by
  rcases h.at' with e | ⟨j, e, hj⟩
  · rw [e]; exact hne
  · rw [e]; intro he; injection he with he; omega
theorem Grew.cell {w w' : World} {v v' : Value} (h : Grew w v w' v') {k o : Nat} (hk : k < w.heap.size) (hne : v.ownBlock ≠ some k) : w'.cell? ⟨k, o, none⟩ = w.cell? ⟨k, o, none⟩ := World.cell?_of_block (w := w) (h.block hk hne)
theorem Grew.of_below {w w' : World} {v : Value} (h : Below w.heap.size w w') : Grew w v w' v := ⟨⟨h.os, h.tape, h.output, h.size, fun k hk _ => h.block k hk⟩, .inl rfl⟩

set_option maxRecDepth 100000 in
theorem wpl_append {w : World} {ops : Array Oper} {rest : List Oper} {o : Oper} {a : Act} {Q : Exit → Act → World → Prop} (hgd : o.guard = none) (s x : Operand)
    (ho : o.op = .call { callee := .builtin .append, args := #[s, x], argTypes := #[22, 22] })
    {B : Nat} {v u : Value} {l l2 : List Int} (hown : Own w B v l) (hs : a.eval s = v) (hu : Bs w u l2) (hx : a.eval x = u) (hne : 0 < l2.length) (hlen : l.length + l2.length ≤ 1073741824) (hB : B ≤ w.heap.size)
    (h : ∀ v' w', Own w' B v' (l ++ l2) → Grew w v w' v' → wpList Tryd.prog ops Q rest (a.put o.dst v') w') : wpList Tryd.prog ops Q (o :: rest) a w := by
  obtain ⟨i0, hi, hz0, hz1, hz2⟩ := info_parts infoU8
  obtain ⟨_, h8, au, cu, rfl, hc⟩ := hu
  obtain ⟨b, off, rfl, hcell⟩ := hc 0 hne
  refine wpList_append_own_at w hgd s x 22 ho B 5 i0 (.int .u8 0) 1 1 Tryd.underlying22 hi hz0 hz1 hz2 rfl (by decide) v l.length _ hs hown.2 ⟨b, off, none⟩ l2.length cu (l2.map (Value.int .u8)) hx (by simp) ?_ ?_ (by unfold maxLen; omega) (by omega) hB ?_
  · intro j u hj
    rw [cell_add]
    rw [List.getElem?_map] at hj
    cases hk : l2[j]? with
    | none => rw [hk] at hj; cases hj
    | some y =>
      rw [hk] at hj
      have hjl : j < l2.length := by
        rcases Nat.lt_or_ge j l2.length with h' | h'
        · exact h'
        · rw [List.getElem?_eq_none h'] at hk; cases hk
      rw [hcell j hjl, hk]
      exact hj
  · intro u hu
    simp only [List.mem_map] at hu
    obtain ⟨y, _, rfl⟩ := hu
    rfl
  · intro v' w' h2 h3 _ h5
    refine h v' w' ⟨fun y hy => ?_, by simpa using h2⟩ ⟨h3, h5.imp id fun e => ⟨_, e, Nat.le_refl _⟩⟩
    rcases List.mem_append.1 hy with hy | hy
    · exact hown.1 y hy
    · exact h8 y hy

/-- the bytes of a string -/
def strL (s : ByteArray) : List Int := s.data.toList.map fun c => (c.toNat : Int)
theorem strL_len (s : ByteArray) : (strL s).length = s.size := by simp [strL]
theorem strL_byte (s : ByteArray) : ∀ x ∈ strL s, 0 ≤ x ∧ x ≤ 255 := by
  intro x hx
  simp only [strL, List.mem_map] at hx
  obtain ⟨c, _, rfl⟩ := hx
  have := c.toNat_lt
  omega

set_option maxRecDepth 100000 in
theorem wpl_append_str {w : World} {ops : Array Oper} {rest : List Oper} {o : Oper} {a : Act} {Q : Exit → Act → World → Prop} (hgd : o.guard = none) (sl x : Operand)
    (ho : o.op = .call { callee := .builtin .append, args := #[sl, x], argTypes := #[22, 9] })
    {B : Nat} {v : Value} {l : List Int} {t : ByteArray} (hown : Own w B v l) (hpos : 0 < l.length) (hs : a.eval sl = v) (hx : a.eval x = .string t) (hlen : l.length + t.size ≤ 1073741824) (hB : B ≤ w.heap.size)
    (h : ∀ v' w', Own w' B v' (l ++ strL t) → Grew w v w' v' → wpList Tryd.prog ops Q rest (a.put o.dst v') w') : wpList Tryd.prog ops Q (o :: rest) a w := by
  obtain ⟨i0, hi, hz0, hz1, hz2⟩ := info_parts infoU8
  refine wpList_plain hgd fun K hK => ?_
  obtain ⟨v', w', hr, h2, h3, h4⟩ := Lib.run_append_own_string (P := Tryd.prog) w B 22 9 o.type 5 i0 Tryd.underlying22 Tryd.underlying9 hi hz0 hz1 hz2 v l.length _ hown.2 t (by unfold maxLen; omega) (by omega) hB
  have hat : v'.ownBlock = v.ownBlock ∨ ∃ k, v'.ownBlock = some k ∧ w.heap.size ≤ k := by
    rcases hown.2.2 with ⟨_, h0⟩ | ⟨g, cap, cur, rfl, hbg, hg, hnc, hcm, hcs, htake⟩
    · omega
    · have hcs' : cur.size = cap := by simpa using hcs
      by_cases hroom : l.length + t.size ≤ cap
      · have hr2 := Lib.run_append_room_string (P := Tryd.prog) w 22 9 o.type 5 i0 Tryd.underlying22 Tryd.underlying9 hi hz1 g l.length cap cur hg t hroom (by omega)
        rw [hr2] at hr
        injection hr with e1 e2
        rw [← e1]
        exact .inl rfl
      · have holds := hown.2.cells (g := g) rfl
        have hr2 := Lib.run_append_grow_string (P := Tryd.prog) w 22 9 o.type 5 i0 (.int .u8 0) Tryd.underlying22 Tryd.underlying9 hi hz0 ⟨g, 0, none⟩ l.length cap (l.map (Value.int .u8)) (by rw [hz1]; simp) holds t (by omega) (by omega) (by rw [hz2]; exact growslice_fits (by omega) (by omega))
        rw [hr2] at hr
        injection hr with e1 e2
        rw [← e1]
        exact .inr ⟨_, rfl, Nat.le_refl _⟩
  unfold Oper.wp execOp
  simp only [ho, resolve, invoke, builtin, Sem.run_bind, Sem.run_pure, Result.andThen_ok, List.map_toArray, List.map_cons, List.map_nil, hs, hx, hr]
  refine hK _ _ (h v' w' ⟨fun y hy => ?_, ?_⟩ ⟨h3, hat⟩)
  · rcases List.mem_append.1 hy with hy | hy
    · exact hown.1 y hy
    · exact strL_byte t y hy
  · have e : (l ++ strL t).map (Value.int .u8) = l.map (Value.int .u8) ++ Lib.strCells t := by
      rw [List.map_append]
      congr 1
      simp [strL, Lib.strCells]
    rw [e, List.length_append, strL_len]
    exact h2
end Go.Proofs.YtlfnlhbkagjheaaDoor

/-
  Reading a body from left to right: on lists.
-/
namespace Go.Proofs.YtlfnlhbkagjheaaDoor
open Go.RowKit
set_option linter.unusedVariables false

/-- what the first k bytes of a number's form add up to -/
def valL (l : List Int) : Nat → Nat
  | 0 => 0
  | k + 1 => valL l k + (l[k]?.getD 0).toNat % 128 * 128 ^ k
theorem valL_lt (l : List Int) (k : Nat) : valL l k < 128 ^ k := by
  induction k with
  | zero => simp [valL]
  | succ k ih =>
    have h : (l[k]?.getD 0).toNat % 128 ≤ 127 := by omega
    have := Nat.mul_le_mul_right (128 ^ k) h
    rw [valL, Nat.pow_succ]
    omega

/-- the number whose form begins at place k, in at most f bytes: its value and how many bytes there are in all -/
def numAt (l : List Int) : Nat → Nat → Option (Nat × Nat)
  | 0, _ => none
  | f + 1, k =>
    if k < l.length then
      (if 128 ≤ l[k]?.getD 0 then numAt l f (k + 1)
       else if l[k]?.getD 0 = 0 ∧ 0 < k then none
       else some (valL l (k + 1), k + 1))
    else none
def numR (l : List Int) : Option (Nat × Nat) := numAt l 5 0

theorem numAt_bounds (l : List Int) (f : Nat) : ∀ k v n, f + k ≤ 5 → numAt l f k = some (v, n) → n ≤ l.length ∧ k < n ∧ v < 34359738368 := by
  induction f with
  | zero => intro k v n _ h; cases h
  | succ f ih =>
    intro k v n hk h
    unfold numAt at h
    split at h
    · next hl =>
      split at h
      · have := ih (k + 1) v n (by omega) h
        omega
      · split at h
        · cases h
        · injection h with h
          injection h with h1 h2
          have hv := valL_lt l (k + 1)
          have hp : 128 ^ (k + 1) ≤ 128 ^ 5 := Nat.pow_le_pow_right (by decide) (by omega)
          have : (128 : Nat) ^ 5 = 34359738368 := by decide
          omega
    · cases h
theorem numR_bounds {l : List Int} {v n : Nat} (h : numR l = some (v, n)) : n ≤ l.length ∧ 0 < n ∧ v < 34359738368 := numAt_bounds l 5 0 v n (by decide) h

/-- a reader's state: what is left, none behind a refusal -/
abbrev RSt := Option (List Int)

def rdNum : RSt → Nat × RSt
  | none => (0, none)
  | some l => match numR l with
    | none => (0, none)
    | some (v, n) => (v, some (l.drop n))
theorem rdNum_lt (st : RSt) : (rdNum st).1 < 34359738368 := by
  unfold rdNum
  split
  · simp
  · split
    · simp
    · next h => exact (numR_bounds h).2.2
def stLen : RSt → Nat
  | none => 0
  | some l => l.length
theorem rdNum_len (st : RSt) : stLen (rdNum st).2 ≤ stLen st := by
  unfold rdNum
  split
  · simp
  · split
    · simp [stLen]
    · next h => simp [stLen]

/-- the text of bytes -/
def textOf (l : List Int) : ByteArray := strOfNums l

def rdText (st : RSt) : ByteArray × RSt :=
  match (rdNum st).2 with
  | none => (ByteArray.empty, none)
  | some l => if 64 < (rdNum st).1 ∨ l.length < (rdNum st).1 then (ByteArray.empty, none) else (strOfNums (l.take (rdNum st).1), some (l.drop (rdNum st).1))

theorem rdText_size (st : RSt) : (rdText st).1.size ≤ 64 := by
  unfold rdText
  split
  · decide
  · split
    · decide
    · next h =>
      rw [strOfNums_size, List.length_take]
      omega
theorem rdText_len (st : RSt) : stLen (rdText st).2 ≤ stLen st := by
  have h := rdNum_len st
  unfold rdText
  split
  · simp [stLen]
  · next l e =>
    rw [e] at h
    split
    · simp [stLen]
    · simp only [stLen, List.length_drop] at h ⊢
      omega

theorem i64_or_nat (a b : Nat) (ha : a < 9223372036854775808) (hb : b < 9223372036854775808) : bits .or .i64 (a : Int) (b : Int) = ((a ||| b : Nat) : Int) := by
  have hx : a ||| b < 2 ^ 63 := Nat.or_lt_two_pow (by omega) (by omega)
  show IntKind.i64.wrap ((BitVec.ofInt 64 (a : Int) ||| BitVec.ofInt 64 (b : Int)).toNat : Int) = _
  rw [BitVec.toNat_or, ofInt_u64 a (by omega), ofInt_u64 b (by omega)]
  rw [IntKind.wrap_i64]
  omega
theorem or_step (a x k : Nat) (ha : a < 128 ^ k) (hx : x < 128) (hk : k ≤ 4) : bits .or .i64 (a : Int) ((x : Int) * 128 ^ k) = ((a + x * 128 ^ k : Nat) : Int) := by
  have h2 : (128 : Nat) ^ k = 2 ^ (7 * k) := by rw [Nat.pow_mul]
  have hp : 128 ^ k ≤ 128 ^ 4 := Nat.pow_le_pow_right (by decide) hk
  have h5 : (128 : Nat) ^ 4 = 268435456 := by decide
  have hm : x * 128 ^ k ≤ 127 * 128 ^ k := Nat.mul_le_mul_right _ (by omega)
  have e : (x : Int) * 128 ^ k = ((x * 128 ^ k : Nat) : Int) := by simp
  rw [e, i64_or_nat a (x * 128 ^ k) (by omega) (by omega)]
  congr 1
  rw [Nat.or_comm, nat_join (7 * k) (x * 128 ^ k) a (by rw [h2]; exact Nat.mul_mod_left _ _) (by rw [← h2]; exact ha), Nat.add_comm]
theorem and_127 (c : Int) (h0 : 0 ≤ c) (h1 : c ≤ 255) : bits .and .u8 c 127 = ((c.toNat % 128 : Nat) : Int) := by
  rw [u8_and c 127 h0 (by omega) (by decide) (by decide)]
  congr 1
  exact Nat.and_two_pow_sub_one_eq_mod _ 7
end Go.Proofs.YtlfnlhbkagjheaaDoor

/-
  Over a store into a row.
-/
namespace Go.Proofs.YtlfnlhbkagjheaaDoor
open Go.RowKit
set_option linter.unusedVariables false

theorem Rd.frame {w : World} {b : Nat} (x : Nat) (v : Value) : w.grownBy (w.setCell ⟨b, x, none⟩ v) (some b) :=
  ⟨rfl, rfl, rfl, by simp [World.setCell], fun k _ hk => Below.heap_setCell _ _ _ _ (fun e => hk (by rw [e]))⟩

theorem grownBy_trans {w w1 w2 : World} {row : Option Nat} (h : w.grownBy w1 row) (k : w1.grownBy w2 row) : w.grownBy w2 row :=
  ⟨k.os.trans h.os, k.tape.trans h.tape, k.output.trans h.output, Nat.le_trans h.size k.size, fun i hi hne => (k.block i (Nat.lt_of_lt_of_le hi h.size) hne).trans (h.block i hi hne)⟩
theorem grownBy_refl (w : World) (row : Option Nat) : w.grownBy w row := ⟨rfl, rfl, rfl, Nat.le_refl _, fun _ _ _ => rfl⟩
end Go.Proofs.YtlfnlhbkagjheaaDoor

/-
  errors.Is and errors.As at the errors of the wire: nil, and a refusal that wraps a sentinel.
-/
namespace Go.Proofs.YtlfnlhbkagjheaaDoor
open Go.RowKit Go.Extern.Stop Go.Stop Go.Extern
set_option linter.unusedVariables false

/-- the value of a sentinel -/
abbrev sentV (a : Addr) : Value := .iface 131 (.pointer (some a))
/-- an error that wraps the sentinel at a, with a fault -/
abbrev refV (a : Addr) (f : Int) : Value := .iface 94 (.agg #[sentV a, .int .i64 f])

theorem isTypeOf (v : Value) (w : World) : (Extern.ReflectliteType.typeOf #[.iface 131 v]).run Tryd.prog w = .ok (.iface 120 (.agg #[.pointer (some ⟨9, 131, none⟩)])) w := by kernel_rfl
def cmpM : Array Value → Sem Value := Extern.ReflectliteType.method fun t => do Rtype.noPackHeld "Comparable" t; pure (.bool (← typeInfo t).comparable)
theorem isComparable (w : World) : (cmpM #[.agg #[.pointer (some ⟨9, 131, none⟩)]]).run Tryd.prog w = .ok (.bool true) w := by kernel_rfl
theorem isMethodComparable (v : Value) (w : World) : (Go.method 272 120 v "Comparable").run Tryd.prog w = .ok (109, v) w := by kernel_rfl
theorem isComp : (Tryd.prog.info? 131).map (·.comparable) = some true := by kernel_rfl
theorem isSize : (Tryd.prog.info? 160).map (·.size) = some 1 := by kernel_rfl
theorem noIsE (v : Value) (xT : TypeId) (w : World) : (Instr.typeAssert (.iface 131 v) xT 122 true).run Tryd.prog w = .ok (.tuple #[.nilIface, .bool false]) w := run_typeAssert_lacksB Tryd.underlying122 (by kernel_rfl) (by kernel_rfl) v xT w
theorem noUnwrapE (v : Value) (xT : TypeId) (w : World) : (Instr.typeAssert (.iface 131 v) xT 125 true).run Tryd.prog w = .ok (.tuple #[.nilIface, .bool false]) w := run_typeAssert_lacksB Tryd.underlying125 (by kernel_rfl) (by kernel_rfl) v xT w
theorem noUnwrapsE (v : Value) (xT : TypeId) (w : World) : (Instr.typeAssert (.iface 131 v) xT 126 true).run Tryd.prog w = .ok (.tuple #[.nilIface, .bool false]) w := run_typeAssert_lacksB Tryd.underlying126 (by kernel_rfl) (by kernel_rfl) v xT w
theorem noIsW (v : Value) (xT : TypeId) (w : World) : (Instr.typeAssert (.iface 94 v) xT 122 true).run Tryd.prog w = .ok (.tuple #[.nilIface, .bool false]) w := run_typeAssert_lacksB Tryd.underlying122 (by kernel_rfl) (by kernel_rfl) v xT w
theorem hasUnwrapW (v : Value) (xT : TypeId) (w : World) : (Instr.typeAssert (.iface 94 v) xT 125 true).run Tryd.prog w = .ok (.tuple #[.iface 94 v, .bool true]) w := run_typeAssert_hasB Tryd.underlying125 (by kernel_rfl) v xT w
theorem methodUnwrap (v : Value) (w : World) : (Go.method 272 94 v "Unwrap").run Tryd.prog w = .ok (87, v) w := by kernel_rfl

theorem refusal_unwrap (a : Addr) (f : Int) (w : World) :
    Calls Tryd.prog 87 #[.agg #[sentV a, .int .i64 f]] w fun e w' => e = .returned (sentV a) ∧ w' = w.alloc (.cells #[sentV a, .int .i64 f] 94) := by
  go_enter Tryd.func87, Tryd.ntmps87
  go_wp2
  go_ret
  exact ⟨rfl, rfl⟩

/-- errors.Is(nil, x). -/
theorem is_nil (b : Addr) (w : World) :
    Calls Tryd.prog 45 #[.nilIface, sentV b] w fun e w' => e = .returned (.bool false) ∧ w' = w := by
  have hn := run_eql_iface_nil_left (P := Tryd.prog) w 131 (.pointer (some b)) Tryd.underlying61
  go_enter Tryd.func45, Tryd.ntmps45
  go_wp2
  go_ret
  exact ⟨rfl, rfl⟩

/-- errors.Is(e, x), e a refusal that wraps x itself: one Unwrap, then equal. -/
theorem is_same (b : Addr) (f : Int) (w : World) :
    Calls Tryd.prog 45 #[refV b f, sentV b] w fun e w' => e = .returned (.bool true) ∧ Below w.heap.size w w' := by
  obtain ⟨i, hi, hcmp⟩ := Option.map_eq_some_iff.1 isComp
  obtain ⟨j, hj, hjs⟩ := Option.map_eq_some_iff.1 isSize
  have h8 := @run_callFunc_extern Tryd.prog 61 _ Extern.ReflectliteType.typeOf Tryd.func61 (by kernel_rfl) (by kernel_rfl) (by kernel_rfl) (by kernel_rfl)
  have h32 := @run_callFunc_extern Tryd.prog 109 _ cmpM Tryd.func109 (by kernel_rfl) (by kernel_rfl) (by kernel_rfl) (by kernel_rfl)
  have tT := isTypeOf
  have cT := isComparable
  have mR := isMethodComparable
  have nW := noIsW
  have uW := hasUnwrapW
  have mU := methodUnwrap
  have heq := run_eql_iface_ptr_same (P := Tryd.prog) (w.alloc (.cells #[sentV b, .int .i64 f] 94)) b Tryd.underlying61 Tryd.underlying131 hi hcmp hj
  have hty := run_eql_iface_types (P := Tryd.prog) 94 131 (.agg #[sentV b, .int .i64 f]) (.pointer (some b)) Tryd.underlying61 (by decide) w
  go_enter Tryd.func45, Tryd.ntmps45
  go_wp2
  refine wp_loop_rounds 2 ?_
  rw [rounds_succ]
  go_wp2
  rw [rounds_succ]
  go_wp2
  go_ret
  exact ⟨rfl, (Below.refl _ _).alloc (Nat.le_refl _) _⟩

/-- errors.Is(e, x), e a refusal that wraps another sentinel. -/
theorem is_other (a b : Addr) (f : Int) (ca cb : Array Value) (ta tb : TypeId) (w : World) (hne : a ≠ b) (ha : w.heap[a.block]? = some (.cells ca ta (0, 0))) (hb : w.heap[b.block]? = some (.cells cb tb (0, 0))) :
    Calls Tryd.prog 45 #[refV a f, sentV b] w fun e w' => e = .returned (.bool false) ∧ Below w.heap.size w w' := by
  obtain ⟨i, hi, hcmp⟩ := Option.map_eq_some_iff.1 isComp
  obtain ⟨j, hj, hjs⟩ := Option.map_eq_some_iff.1 isSize
  have h8 := @run_callFunc_extern Tryd.prog 61 _ Extern.ReflectliteType.typeOf Tryd.func61 (by kernel_rfl) (by kernel_rfl) (by kernel_rfl) (by kernel_rfl)
  have h32 := @run_callFunc_extern Tryd.prog 109 _ cmpM Tryd.func109 (by kernel_rfl) (by kernel_rfl) (by kernel_rfl) (by kernel_rfl)
  have tT := isTypeOf
  have cT := isComparable
  have mR := isMethodComparable
  have nE := noIsE
  have uE := noUnwrapE
  have vE := noUnwrapsE
  have nW := noIsW
  have uW := hasUnwrapW
  have mU := methodUnwrap
  have al : ∀ (k : Nat) (o : Obj), w.heap[k]? = some o → (w.alloc (.cells #[sentV a, .int .i64 f] 94)).heap[k]? = some o := fun k o h => by
    have hlt : k < w.heap.size := by
      rcases Nat.lt_or_ge k w.heap.size with h' | h'
      · exact h'
      · rw [Array.getElem?_eq_none h'] at h; cases h
    show (w.heap.push _)[k]? = _
    rw [Array.getElem?_push, if_neg (Nat.ne_of_lt hlt)]
    exact h
  have heq := run_eql_iface_ptr_other (P := Tryd.prog) (w.alloc (.cells #[sentV a, .int .i64 f] 94)) Tryd.underlying61 Tryd.underlying131 hi hcmp hj (by rw [hjs]; decide) hne (al _ _ ha) (al _ _ hb)
  have hty := run_eql_iface_types (P := Tryd.prog) 94 131 (.agg #[sentV a, .int .i64 f]) (.pointer (some b)) Tryd.underlying61 (by decide) w
  go_enter Tryd.func45, Tryd.ntmps45
  go_wp2
  refine wp_loop_rounds 2 ?_
  rw [rounds_succ]
  go_wp2
  rw [rounds_succ]
  go_wp2
  go_ret
  exact ⟨rfl, (Below.refl _ _).alloc (Nat.le_refl _) _⟩
end Go.Proofs.YtlfnlhbkagjheaaDoor

/-
  The nine sentinels.
-/
namespace Go.Proofs.YtlfnlhbkagjheaaDoor
open Go.RowKit Go.Extern.Stop Go.Stop Go.Extern
set_option linter.unusedVariables false

/-- the nine sentinels lie at A 1 .. A 9 -/
structure Sents (w : World) (A : Nat → Addr) (B : Nat) : Prop where
  g1 : w.cell? ⟨7, 0, none⟩ = some (sentV (A 1))
  g2 : w.cell? ⟨8, 0, none⟩ = some (sentV (A 2))
  g3 : w.cell? ⟨2, 0, none⟩ = some (sentV (A 3))
  g4 : w.cell? ⟨3, 0, none⟩ = some (sentV (A 4))
  g5 : w.cell? ⟨4, 0, none⟩ = some (sentV (A 5))
  g6 : w.cell? ⟨5, 0, none⟩ = some (sentV (A 6))
  g7 : w.cell? ⟨0, 0, none⟩ = some (sentV (A 7))
  g8 : w.cell? ⟨1, 0, none⟩ = some (sentV (A 8))
  g9 : w.cell? ⟨6, 0, none⟩ = some (sentV (A 9))
  row : ∀ i, 1 ≤ i → i ≤ 9 → ∃ c t, w.heap[(A i).block]? = some (.cells c t (0, 0))
  ne : ∀ i j, 1 ≤ i → i ≤ 9 → 1 ≤ j → j ≤ 9 → i ≠ j → A i ≠ A j
  gl : 9 ≤ B
  lt : ∀ i, 1 ≤ i → i ≤ 9 → (A i).block < B
  le : B ≤ w.heap.size

theorem Sents.kept {w w' : World} {A : Nat → Addr} {B : Nat} (h : Sents w A B) (hb : Below B w w') : Sents w' A B := by
  have hg := h.gl
  have c : ∀ {k o : Nat} {v : Value}, k < B → w.cell? ⟨k, o, none⟩ = some v → w'.cell? ⟨k, o, none⟩ = some v := fun {k o v} hk hc => by rw [hb.cell (p := ⟨k, o, none⟩) hk]; exact hc
  refine ⟨c (by omega) h.g1, c (by omega) h.g2, c (by omega) h.g3, c (by omega) h.g4, c (by omega) h.g5, c (by omega) h.g6, c (by omega) h.g7, c (by omega) h.g8, c (by omega) h.g9, fun i h1 h6 => ?_, h.ne, hg, h.lt, Nat.le_trans h.le hb.size⟩
  obtain ⟨x, t, e⟩ := h.row i h1 h6
  exact ⟨x, t, (hb.block _ (h.lt i h1 h6)).trans e⟩
theorem Sents.below {w w' : World} {A : Nat → Addr} {B : Nat} (h : Sents w A B) (hb : Below w.heap.size w w') : Sents w' A B := h.kept (hb.mono h.le)

theorem is_at {w : World} {A : Nat → Addr} {B : Nat} (hs : Sents w A B) (i j : Nat) (f : Int) (h1 : 1 ≤ i) (h6 : i ≤ 9) (k1 : 1 ≤ j) (k6 : j ≤ 9) :
    Calls Tryd.prog 45 #[refV (A i) f, sentV (A j)] w fun e w' => e = .returned (.bool (decide (i = j))) ∧ Below w.heap.size w w' := by
  by_cases e : i = j
  · subst e
    simpa using is_same (A i) f w
  · obtain ⟨c, t, hc⟩ := hs.row i h1 h6
    obtain ⟨c', t', hc'⟩ := hs.row j k1 k6
    simpa [e] using is_other (A i) (A j) f c c' t t' w (hs.ne i j h1 h6 k1 k6 e) hc hc'
end Go.Proofs.YtlfnlhbkagjheaaDoor

/-
  impl.reader in memory; refuse, number.
-/
namespace Go.Proofs.YtlfnlhbkagjheaaDoor
open Go.RowKit
set_option linter.unusedVariables false

/-- a slice value whose length is within its capacity; it lies below D -/
def Fits (D : Nat) (v : Value) (l : List Int) : Prop := ∃ a n c, v = .slice a n c ∧ n ≤ c ∧ (0 < l.length → ∃ x, a = some x ∧ x.block < D)

/-- the reader that lies in block b, B ≤ b < D, has the state st; its bytes lie below D -/
def Rd (w : World) (b : Nat) (A : Nat → Addr) (B D : Nat) (st : RSt) : Prop :=
  B ≤ b ∧ b < D ∧ D ≤ w.heap.size ∧ (∀ i, w.frozen? ⟨b, i, none⟩ = false) ∧
  match st with
  | none => w.cell? ⟨b, 0, none⟩ = some (.slice none 0 0) ∧ w.cell? ⟨b, 1, none⟩ = some (refV (A 5) 0)
  | some l => (∃ v, w.cell? ⟨b, 0, none⟩ = some v ∧ Bs w v l ∧ Fits D v l) ∧ w.cell? ⟨b, 1, none⟩ = some .nilIface

def noByte : Value → Prop
  | .int .u8 _ => False
  | _ => True

/-- bytes stay where a cell that is no byte is written -/
theorem Bs.setCell {w : World} {v : Value} {l : List Int} (h : Bs w v l) {b i : Nat} {x : Value} (hx : w.cell? ⟨b, i, none⟩ = some x) (hn : noByte x) (y : Value) : Bs (w.setCell ⟨b, i, none⟩ y) v l := by
  obtain ⟨hl, h8, a, cap, rfl, hc⟩ := h
  refine ⟨hl, h8, a, cap, rfl, fun k hk => ?_⟩
  obtain ⟨b', off, rfl, hj⟩ := hc k hk
  refine ⟨b', off, rfl, fun j hj' => ?_⟩
  rw [World.cell?_setCell_other w _ _ _ ?_]
  · exact hj j hj'
  · intro e
    have hj2 := hj j hj'
    rw [← e, hx] at hj2
    injection hj2 with e'
    rw [e'] at hn
    exact hn

theorem Bs.drop {w : World} {a : Option Addr} {n c : Nat} {l : List Int} (h : Bs w (.slice a n c) l) (hc : n ≤ c) {D : Nat} (hD : 0 < l.length → ∃ x, a = some x ∧ x.block < D) (k : Nat) (hk : k ≤ l.length) :
    Bs w (sliced a k n c 1) (l.drop k) ∧ Fits D (sliced a k n c 1) (l.drop k) := by
  obtain ⟨hl, h8, a', cap, e, hcell⟩ := h
  injection e with e1 e2 e3
  subst e1 e2 e3
  refine ⟨⟨by simp; omega, fun x hx => h8 x (List.mem_of_mem_drop hx), _, c - k, by simp [sliced]; rfl, fun i hi => ?_⟩, ⟨_, _, _, rfl, by omega, fun hp => ?_⟩⟩
  rotate_left
  · rw [List.length_drop] at hp
    obtain ⟨x, rfl, hx⟩ := hD (by omega)
    rw [if_neg (by omega)]
    refine ⟨_, rfl, ?_⟩
    show (x.add (k * 1)).block < D
    unfold Addr.add
    split <;> exact hx
  rw [List.length_drop] at hi
  obtain ⟨b, off, rfl, hj⟩ := hcell 0 (by omega)
  refine ⟨b, off + k, ?_, fun j hj' => ?_⟩
  · rw [if_neg (by omega)]
    simp [cell_add]
  · rw [List.length_drop] at hj'
    have := hj (k + j) (by omega)
    rw [← Nat.add_assoc] at this
    rw [this, List.getElem?_drop]

theorem size5 : ∀ w, (Go.sizeOf 5).run Tryd.prog w = .ok 1 w := fun w => by kernel_rfl


theorem grown_below {w w' : World} {b B : Nat} (h : w.grownBy w' (some b)) (hb : B ≤ b) (hB : B ≤ w.heap.size) : Below B w w' :=
  (Below.refl _ _).grown h hB (fun k hk => by injection hk with hk; omega)

theorem Rd.below {w w' : World} {b : Nat} {A : Nat → Addr} {B D : Nat} {st : RSt} (h : Rd w b A B D st) (hb : Below D w w') : Rd w' b A B D st := by
  obtain ⟨hB, hbD, hDw, hf, h⟩ := h
  refine ⟨hB, hbD, Nat.le_trans hDw hb.size, fun i => by rw [hb.frozen (p := ⟨b, i, none⟩) hbD]; exact hf i, ?_⟩
  have c := fun (o : Nat) => hb.cell (p := ⟨b, o, none⟩) hbD
  cases st with
  | none => exact ⟨(c 0).trans h.1, (c 1).trans h.2⟩
  | some l =>
    obtain ⟨⟨v, h0, hbs, hfit⟩, h1⟩ := h
    refine ⟨⟨v, (c 0).trans h0, ?_, hfit⟩, (c 1).trans h1⟩
    obtain ⟨a, n, cc, rfl, _, hD⟩ := hfit
    obtain ⟨hl, h8, a', cap, e, hc⟩ := hbs
    injection e with e1 e2 e3
    subst e1 e2 e3
    refine ⟨hl, h8, _, _, rfl, fun i hi => ?_⟩
    obtain ⟨b', off, rfl, hj⟩ := hc i hi
    obtain ⟨x, ex, hx⟩ := hD (by omega)
    injection ex with ex
    subst ex
    exact ⟨b', off, rfl, fun j hj' => by rw [hb.cell (p := ⟨b', off + j, none⟩) hx]; exact hj j hj'⟩

theorem refuse_any (b : Nat) (w : World) (A : Nat → Addr) (B D : Nat) (st : RSt) (hs : Sents w A B) (h : Rd w b A B D st) :
    Calls Tryd.prog 67 #[.pointer (some ⟨b, 0, none⟩)] w fun e w' => (∃ v, e = .returned v) ∧ Rd w' b A B D none ∧ w.grownBy w' (some b) := by
  obtain ⟨hB, hbD, hDw, hf, h⟩ := h
  have hg := hs.g5
  have hn := hs.gl
  have hf0 := hf 0
  have hf1 := hf 1
  have hne : b ≠ 4 := by omega
  have h0 : ∃ v, w.cell? ⟨b, 0, none⟩ = some v := by
    cases st with
    | none => exact ⟨_, h.1⟩
    | some l => obtain ⟨⟨v, hv, _⟩, _⟩ := h; exact ⟨v, hv⟩
  obtain ⟨v0, h0⟩ := h0
  have o1 : ⟨b, 0, none⟩ ≠ (⟨b, 1, none⟩ : Addr) := by intro h; injection h with _ h2 _; cases h2
  have o5 : ⟨b, 0, none⟩ ≠ (⟨4, 0, none⟩ : Addr) := by intro h; injection h with h2 _ _; exact hne h2
  have e1 := fun y => World.cell?_setCell_other w ⟨b, 0, none⟩ ⟨b, 1, none⟩ y o1
  have e5 := fun y => World.cell?_setCell_other w ⟨b, 0, none⟩ ⟨4, 0, none⟩ y o5
  have e0 := fun y => World.cell?_setCell_same w ⟨b, 0, none⟩ y h0
  cases st with
  | none =>
    obtain ⟨_, h1⟩ := h
    go_enter Tryd.func67, Tryd.ntmps67
    go_wp2
    (try simp only [Exit.inBlock, Exit.then])
    refine bodyPost_end (results_none rfl _ _ _) rfl ?_
    refine ⟨⟨_, rfl⟩, ⟨hB, hbD, by simpa [World.setCell] using hDw, fun i => ?_, ?_, ?_⟩, Rd.frame _ _⟩
    · rw [World.frozen?_setCell]; exact hf i
    · exact e0 _
    · exact (e1 _).trans h1
  | some l =>
    obtain ⟨_, h1⟩ := h
    go_enter Tryd.func67, Tryd.ntmps67
    go_wp2
    (try simp only [Exit.inBlock, Exit.then])
    refine bodyPost_end (results_none rfl _ _ _) rfl ?_
    refine ⟨⟨_, rfl⟩, ⟨hB, hbD, by simpa [World.setCell] using hDw, fun i => ?_, ?_, ?_⟩, grownBy_trans (Rd.frame _ _) (Rd.frame _ _)⟩
    · rw [World.frozen?_setCell, World.frozen?_setCell]; exact hf i
    · rw [World.cell?_setCell_other _ _ _ _ (Ne.symm o1)]; exact e0 _
    · exact World.cell?_setCell_same _ _ _ ((e1 _).trans h1)

set_option maxHeartbeats 4000000 in
set_option maxRecDepth 100000 in
theorem number_any (b : Nat) (w : World) (A : Nat → Addr) (B D : Nat) (st : RSt) (hs : Sents w A B) (h : Rd w b A B D st) :
    Calls Tryd.prog 58 #[.pointer (some ⟨b, 0, none⟩)] w fun e w' => e = .returned (.int .i64 ((rdNum st).1 : Nat)) ∧ Rd w' b A B D (rdNum st).2 ∧ w.grownBy w' (some b) := by
  have HR : Hid (Rd w b A B D st) := h
  obtain ⟨hB, hbD, hDw, hf, h⟩ := h
  cases st with
  | none =>
    obtain ⟨h0, h1⟩ := h
    go_enter Tryd.func58, Tryd.ntmps58
    go_wp2
    refine wp_loop_rounds 1 ?_
    rw [rounds_succ]
    go_wp2_with (go_at_call 67; refine (refuse_any b w A B D none hs HR.out).mono ?_; rintro e w1 ⟨⟨v, rfl⟩, hr, hg⟩)
    go_ret
    exact ⟨rfl, hr, hg⟩
  | some l =>
    obtain ⟨⟨v, h0, hbs, hfit⟩, h1⟩ := h
    have HB : Hid (Bs w v l) := hbs
    obtain ⟨a, n, c, rfl, hnc, hD⟩ := hfit
    obtain ⟨hl, h8, a', cap, e, hc⟩ := hbs
    injection e with e1 e2 e3
    subst e1 e2 e3
    unfold maxLen at hl
    have hf0 := hf 0
    go_enter Tryd.func58, Tryd.ntmps58
    go_wp2
    go_loop [3, 4] (fun m i => ∃ k : Nat, k ≤ 5 ∧ i = .int .i64 k ∧ m = .int .i64 (valL l k : Nat) ∧ numR l = numAt l (5 - k) k) (fun _ i => 5 - (intOf i).toNat)
    case atStart => exact ⟨0, by omega, rfl, rfl, rfl⟩
    case round =>
      obtain ⟨k, hk, rfl, rfl, hnum⟩ := hrel
      by_cases hk5 : k < 5
      · by_cases hlt : k < l.length
        · obtain ⟨b', off, rfl, hcell⟩ := hc k hlt
          have hck := hcell k hlt
          have h8k := byte_at h8 k
          have hA := and_127 _ h8k.1 h8k.2
          have hx : (l[k]?.getD 0).toNat % 128 < 128 := Nat.mod_lt _ (by decide)
          have hO := or_step (valL l k) ((l[k]?.getD 0).toNat % 128) k (valL_lt l k) hx (by omega)
          have hS : Hid (valL l (k + 1) = valL l k + (l[k]?.getD 0).toNat % 128 * 128 ^ k) := rfl
          have hN : Hid (numAt l (5 - k) k = if 128 ≤ l[k]?.getD 0 then numAt l (5 - (k + 1)) (k + 1) else if l[k]?.getD 0 = 0 ∧ 0 < k then none else some (valL l (k + 1), k + 1)) := by
            have e : 5 - k = (5 - (k + 1)) + 1 := by omega
            rw [e]
            show numAt l _ k = _
            rw [numAt, if_pos hlt]
          have eg : l[k]?.getD 0 = l[k] := by simp [hlt]
          rw [eg] at hck h8k hA hx hO hS hN
          generalize hxx : l[k].toNat % 128 = x at hA hx hO hS
          generalize hcc : l[k] = cc at hck h8k hA hN
          generalize hvv : valL l k = V at hO hS
          obtain ⟨b0, b1⟩ := h8k
          clear hxx hcc hvv hcell hc eg h8
          by_cases h128 : 128 ≤ cc
          · rw [if_pos h128] at hN
            obtain rfl | rfl | rfl | rfl | rfl : k = 0 ∨ k = 1 ∨ k = 2 ∨ k = 3 ∨ k = 4 := by omega
            all_goals
              simp at hO
              (try rw [Nat.add_zero] at hck)
              go_wp2
              go_round
              case rel => first | exact ⟨1, by decide, rfl, by rw [hS.out]; simp, hnum.trans hN.out⟩ | exact ⟨2, by decide, rfl, by rw [hS.out]; simp, hnum.trans hN.out⟩ | exact ⟨3, by decide, rfl, by rw [hS.out]; simp, hnum.trans hN.out⟩ | exact ⟨4, by decide, rfl, by rw [hS.out]; simp, hnum.trans hN.out⟩ | exact ⟨5, by decide, rfl, by rw [hS.out]; simp, hnum.trans hN.out⟩
              case measure => simp [intOf]
          · rw [if_neg h128] at hN
            by_cases hz : cc = 0 ∧ 0 < k
            · rw [if_pos hz] at hN
              obtain ⟨rfl, hk0⟩ := hz
              have hnn : numR l = none := hnum.trans hN.out
              obtain rfl | rfl | rfl | rfl : k = 1 ∨ k = 2 ∨ k = 3 ∨ k = 4 := by omega
              all_goals
                simp at hO
                go_wp2_with (go_at_call 67; refine (refuse_any b w A B D (some l) hs HR.out).mono ?_; rintro e w1 ⟨⟨v, rfl⟩, hr, hg⟩)
                go_ret
                rw [rdNum, hnn]
                exact ⟨rfl, hr, hg⟩
            · rw [if_neg hz] at hN
              have hnn : numR l = some (valL l (k + 1), k + 1) := hnum.trans hN.out
              have HW : ∀ (y : Value) (l' : List Int), Bs w y l' → Fits D y l' → Rd (w.setCell ⟨b, 0, none⟩ y) b A B D (some l') := fun y l' hy hfy =>
                ⟨hB, hbD, by simpa [World.setCell] using hDw, fun i => by rw [World.frozen?_setCell]; exact hf i, ⟨y, World.cell?_setCell_same w _ _ h0, hy.setCell h0 trivial y, hfy⟩,
                  (World.cell?_setCell_other w _ _ _ (by intro h; injection h with _ h2 _; cases h2)).trans h1⟩
              have HD := HB.out.drop hnc hD (k + 1) (by omega)
              have HW2 : Hid (Rd (w.setCell ⟨b, 0, none⟩ (sliced (some ⟨b', off, none⟩) (k + 1) l.length c 1)) b A B D (some (l.drop (k + 1)))) := HW _ _ HD.1 HD.2
              clear HW HD
              have hzz : ¬ (cc = 0 ∧ (0 : Int) < k) := by omega
              obtain rfl | rfl | rfl | rfl | rfl : k = 0 ∨ k = 1 ∨ k = 2 ∨ k = 3 ∨ k = 4 := by omega
              all_goals
                simp at hO
                (try rw [Nat.add_zero] at hck)
                go_wp2
                all_goals go_ret
                all_goals rw [rdNum, hnn]
                all_goals exact ⟨by rw [hS.out]; simp, by have h2 := HW2.out; go_light; simp_all [sliced, cell_add], Rd.frame _ _⟩
        · have hnn : numR l = none := by
            rw [hnum]
            have e : 5 - k = (5 - (k + 1)) + 1 := by omega
            rw [e, numAt, if_neg hlt]
          go_wp2_with (go_at_call 67; refine (refuse_any b w A B D (some l) hs HR.out).mono ?_; rintro e w1 ⟨⟨v, rfl⟩, hr, hg⟩)
          go_ret
          rw [rdNum, hnn]
          exact ⟨rfl, hr, hg⟩
      · have e : k = 5 := by omega
        subst e
        go_wp2_with (go_at_call 67; refine (refuse_any b w A B D (some l) hs HR.out).mono ?_; rintro e w1 ⟨⟨v, rfl⟩, hr, hg⟩)
        go_ret
        rw [rdNum, hnum]
        exact ⟨rfl, hr, hg⟩
end Go.Proofs.YtlfnlhbkagjheaaDoor

/-
  impl.reader: text, end.
-/
namespace Go.Proofs.YtlfnlhbkagjheaaDoor
open Go.RowKit
set_option linter.unusedVariables false

theorem elem22 : Tryd.prog.elem 22 = 5 := by rw [Program.elem, Tryd.underlying22]
theorem under22 : Tryd.prog.underlying 22 = some (.slice (Tryd.prog.elem 22)) := by rw [elem22]; exact Tryd.underlying22

theorem slice_h (a : Option Addr) (len c n : Nat) (h : n ≤ c) (wx : World) : (Instr.slice 22 (.slice a len c) none (some (.int .i64 (n : Int))) none).run Tryd.prog wx = .ok (sliced a 0 n c 1) wx := by
  rw [run_slice_h wx 22 a len c under22 .i64 (n : Int) (by omega) (by omega), elem22, size5]
  rfl
theorem slice_l (a : Option Addr) (len c n : Nat) (h : n ≤ len) (wx : World) : (Instr.slice 22 (.slice a len c) (some (.int .i64 (n : Int))) none none).run Tryd.prog wx = .ok (sliced a n len c 1) wx := by
  rw [run_slice_l wx 22 a len c under22 .i64 (n : Int) (by omega) (by omega), elem22, size5]
  rfl

theorem conv_zero (a : Option Addr) (c : Nat) (w : World) : (convert 22 9 (.slice a 0 c)).run Tryd.prog w = .ok (.string (strOfNums [])) w := by
  cases a with
  | none =>
    rw [run_convert_bytes_nil w 22 5 Tryd.underlying22 Tryd.underlying5 0 c 9 Tryd.underlying9]
    rfl
  | some a =>
    have hl : (loadCells a 0).run Tryd.prog w = .ok (([] : List Int).map (Value.int .u8)).toArray w := by
      simpa using run_loadCells_list (P := Tryd.prog) w a [] (fun j v hj => by simp at hj)
    rw [run_convert_bytes_string w 22 9 5 (some a) 0 c Tryd.underlying22 Tryd.underlying5 Tryd.underlying9, run_bytesToString w a 0 c [] hl]
    rfl

set_option maxRecDepth 100000 in
theorem conv_take {w : World} {a : Option Addr} {len c : Nat} {l : List Int} (h : Bs w (.slice a len c) l) (hc : len ≤ c) (n : Nat) (hn : n ≤ l.length) :
    (convert 22 9 (sliced a 0 n c 1)).run Tryd.prog w = .ok (.string (strOfNums (l.take n))) w := by
  by_cases h0 : n = 0
  · subst h0
    rw [List.take_zero]
    exact conv_zero (if c = 0 then a else a.map (·.add (0 * 1))) (c - 0) w
  · obtain ⟨hl, h8, a', cap, e, hcell⟩ := h
    injection e with e1 e2 e3
    subst e1 e2 e3
    obtain ⟨b, off, rfl, hj⟩ := hcell 0 (by omega)
    have hne : ¬ c = 0 := by omega
    have hs : sliced (some ⟨b, off, none⟩) 0 n c 1 = .slice (some ⟨b, off, none⟩) n c := by simp [sliced, hne, cell_add]
    rw [hs]
    refine run_convert_bytes_arg w 22 5 Tryd.underlying22 Tryd.underlying5 b off n c (l.take n) (by simp; omega) (fun i hi => ?_) 9 Tryd.underlying9
    rw [hj i (by omega)]
    simp [List.getD, hi]

theorem rdNum_none {st : RSt} (h : (rdNum st).2 = none) : (rdNum st).1 = 0 := by
  unfold rdNum at h ⊢
  split
  · rfl
  · split
    · rfl
    · next h' => simp [h'] at h

set_option maxHeartbeats 4000000 in
set_option maxRecDepth 100000 in
theorem text_any (b : Nat) (w : World) (A : Nat → Addr) (B D : Nat) (st : RSt) (hs : Sents w A B) (h : Rd w b A B D st) :
    Calls Tryd.prog 70 #[.pointer (some ⟨b, 0, none⟩)] w fun e w' => e = .returned (.string (rdText st).1) ∧ Rd w' b A B D (rdText st).2 ∧ w.grownBy w' (some b) := by
  have HN : Hid (Calls Tryd.prog 58 #[.pointer (some ⟨b, 0, none⟩)] w fun e w' => e = .returned (.int .i64 ((rdNum st).1 : Nat)) ∧ Rd w' b A B D (rdNum st).2 ∧ w.grownBy w' (some b)) := number_any b w A B D st hs h
  have hB0 := h.1
  have hbD := h.2.1
  have hn := rdNum_lt st
  have h0 := @rdNum_none st
  unfold rdText
  generalize (rdNum st).1 = n at HN hn h0
  generalize (rdNum st).2 = t at HN h0
  cases t with
  | none =>
    obtain rfl := h0 rfl
    have c0 := fun w => conv_zero none 0 w
    have e0 : strOfNums [] = ByteArray.empty := rfl
    rw [e0] at c0
    go_enter Tryd.func70, Tryd.ntmps70
    go_wp2_with (go_at_call 58; refine HN.out.mono ?_; rintro e w1 ⟨rfl, hr, hg⟩; obtain ⟨_, _, hDw, hf, q0, q1⟩ := hr; have hf0 := hf 0)
    go_ret
    refine ⟨rfl, ⟨hB0, hbD, by simpa [World.setCell] using hDw, fun i => ?_, ?_, ?_⟩, grownBy_trans hg (Rd.frame _ _)⟩
    · rw [World.frozen?_setCell]; exact hf i
    · exact World.cell?_setCell_same _ _ _ q0
    · rw [World.cell?_setCell_other _ _ _ _ (by intro h; injection h with _ h2 _; cases h2)]; exact q1
  | some l =>
    clear h0
    by_cases hlong : 64 < n ∨ l.length < n
    · simp only [if_pos hlong]
      have hl64 : 64 < (n : Int) ∨ (l.length : Int) < n := by omega
      go_enter Tryd.func70, Tryd.ntmps70
      go_wp2_with (first
        | (go_at_call 58; refine HN.out.mono ?_; rintro e w1 ⟨rfl, hr, hg⟩; have HR : Hid (Rd w1 b A B D (some l)) := hr; obtain ⟨_, _, hDw, hf, ⟨v, q0, ⟨_, _, a, c, rfl, _⟩, _⟩, q1⟩ := hr; have hs1 := hs.kept (grown_below hg hB0 hs.le))
        | (go_at_call 67; refine (refuse_any b _ A B D (some l) hs1 HR.out).mono ?_; rintro e w2 ⟨⟨v, rfl⟩, hr2, hg2⟩))
      all_goals go_ret
      all_goals exact ⟨rfl, hr2, grownBy_trans hg hg2⟩
    · simp only [if_neg hlong]
      have hl64 : (n : Int) ≤ 64 ∧ (n : Int) ≤ l.length := by omega
      go_enter Tryd.func70, Tryd.ntmps70
      go_wp2_with (first
        | (go_at_call 58; refine HN.out.mono ?_; rintro e w1 ⟨rfl, hr, hg⟩; obtain ⟨_, _, hDw, hf, ⟨v, q0, hbs, ⟨a, len, c, rfl, hlc, hD⟩⟩, q1⟩ := hr; have hf0 := hf 0; have HB : Hid (Bs w1 (.slice a len c) l) := hbs; have el : len = l.length := (by obtain ⟨_, _, _, _, e, _⟩ := hbs; injection e); subst el; clear hbs; have t1 := slice_h a l.length c n (by omega); have t2 := slice_l a l.length c n (by omega); have cv := conv_take HB.out hlc n (by omega); have dr := HB.out.drop hlc hD n (by omega); obtain ⟨a2, n2, c2, e2, _, _⟩ := dr.2; rw [e2] at t2 dr; have DR : Hid (Bs w1 (.slice a2 n2 c2) (l.drop n) ∧ Fits D (.slice a2 n2 c2) (l.drop n)) := dr; generalize sliced a 0 n c 1 = S1 at t1 cv; clear dr e2))
      go_ret
      refine ⟨rfl, ⟨hB0, hbD, by simpa [World.setCell] using hDw, fun i => ?_, ⟨_, ?_, DR.out.1.setCell q0 trivial _, DR.out.2⟩, ?_⟩, grownBy_trans hg (Rd.frame _ _)⟩
      · rw [World.frozen?_setCell]; exact hf i
      · exact World.cell?_setCell_same _ _ _ q0
      · rw [World.cell?_setCell_other _ _ _ _ (by intro h; injection h with _ h2 _; cases h2)]; exact q1

theorem grown_cell {w w' : World} {b q : Nat} (h : w.grownBy w' (some b)) (hq : q < w.heap.size) (hne : q ≠ b) : (∀ o, w'.cell? ⟨q, o, none⟩ = w.cell? ⟨q, o, none⟩) ∧ (∀ o, w'.frozen? ⟨q, o, none⟩ = w.frozen? ⟨q, o, none⟩) := by
  have hb := h.block q hq (by intro e; injection e with e; exact hne e)
  exact ⟨fun o => World.cell?_of_block (w := w) hb, fun o => by simp only [World.frozen?, hb]⟩

/-- number, with what stays -/
theorem number_s (b : Nat) (w : World) (A : Nat → Addr) (B D : Nat) (st : RSt) (hs : Sents w A B) (h : Rd w b A B D st) :
    Calls Tryd.prog 58 #[.pointer (some ⟨b, 0, none⟩)] w fun e w' => e = .returned (.int .i64 ((rdNum st).1 : Nat)) ∧ Sents w' A B ∧ Rd w' b A B D (rdNum st).2 ∧ w.grownBy w' (some b) :=
  (number_any b w A B D st hs h).mono fun e w' ⟨h1, h2, h3⟩ => ⟨h1, hs.kept (grown_below h3 h.1 hs.le), h2, h3⟩
theorem text_s (b : Nat) (w : World) (A : Nat → Addr) (B D : Nat) (st : RSt) (hs : Sents w A B) (h : Rd w b A B D st) :
    Calls Tryd.prog 70 #[.pointer (some ⟨b, 0, none⟩)] w fun e w' => e = .returned (.string (rdText st).1) ∧ Sents w' A B ∧ Rd w' b A B D (rdText st).2 ∧ w.grownBy w' (some b) :=
  (text_any b w A B D st hs h).mono fun e w' ⟨h1, h2, h3⟩ => ⟨h1, hs.kept (grown_below h3 h.1 hs.le), h2, h3⟩
theorem grown_alloc {w w' : World} {row : Option Nat} (h : w.grownBy w' row) (o : Obj) : w.grownBy (w'.alloc o) row := grownBy_trans h (World.grownBy_alloc _ _ _)
theorem grown_setNew {w w' : World} {row : Option Nat} (h : w.grownBy w' row) (q i : Nat) (v : Value) (hq : w.heap.size ≤ q) : w.grownBy (w'.setCell ⟨q, i, none⟩ v) row :=
  ⟨h.os, h.tape, h.output, by simpa [World.setCell] using h.size, fun k hk hne => (Below.heap_setCell _ _ _ _ (by show k ≠ q; omega)).trans (h.block k hk hne)⟩

/-- what end answers -/
def endV (A : Nat → Addr) (st : RSt) : Value := if st = some [] then .nilIface else refV (A 5) 0

set_option maxHeartbeats 1000000 in
theorem end_any (b : Nat) (w : World) (A : Nat → Addr) (B D : Nat) (st : RSt) (hs : Sents w A B) (h : Rd w b A B D st) :
    Calls Tryd.prog 60 #[.pointer (some ⟨b, 0, none⟩)] w fun e w' => e = .returned (endV A st) ∧ w.grownBy w' (some b) := by
  have HR : Hid (Rd w b A B D st) := h
  obtain ⟨hB, hbD, hDw, hf, h⟩ := h
  cases st with
  | none =>
    obtain ⟨h0, h1⟩ := h
    go_enter Tryd.func60, Tryd.ntmps60
    go_wp2
    go_ret
    exact ⟨rfl, grownBy_refl _ _⟩
  | some l =>
    obtain ⟨⟨v, h0, ⟨hl, _, a, c, rfl, _⟩, _⟩, h1⟩ := h
    unfold maxLen at hl
    cases l with
    | nil =>
      go_enter Tryd.func60, Tryd.ntmps60
      go_wp2
      go_ret
      exact ⟨rfl, grownBy_refl _ _⟩
    | cons x l =>
      have hp : (0 : Int) < (x :: l).length := by simp
      generalize hL : x :: l = L at *
      have hv : endV A (some L) = refV (A 5) 0 := by subst hL; rfl
      rw [hv]
      go_enter Tryd.func60, Tryd.ntmps60
      go_wp2_with (go_at_call 67; refine (refuse_any b w A B D (some L) hs HR.out).mono ?_; rintro e w1 ⟨⟨v, rfl⟩, hr, hg⟩; obtain ⟨_, _, _, _, q0, q1⟩ := hr)
      go_ret
      exact ⟨rfl, hg⟩
end Go.Proofs.YtlfnlhbkagjheaaDoor

/-
  The check sum: the program's and the specification's, over one plain function of lists.
-/
namespace Go.Proofs.YtlfnlhbkagjheaaDoor
open Go.RowKit
set_option linter.unusedVariables false

def stepN (r : Nat) : Nat := if r % 2 = 1 then (r / 2) ^^^ 3988292384 else r / 2
def stepsN : Nat → Nat → Nat
  | 0, r => r
  | n + 1, r => stepN (stepsN n r)
/-- the register behind the first k bytes -/
def crcSt (l : List Int) : Nat → Nat
  | 0 => 4294967295
  | k + 1 => stepsN 8 (crcSt l k ^^^ (l[k]?.getD 0).toNat)

theorem stepN_lt (q : Nat) (h : q < 4294967296) : stepN q < 4294967296 := by
  unfold stepN
  split
  · exact Nat.xor_lt_two_pow (n := 32) (by omega) (by decide)
  · omega
theorem stepsN_lt (n q : Nat) (h : q < 4294967296) : stepsN n q < 4294967296 := by
  induction n with
  | zero => exact h
  | succ n ih => exact stepN_lt _ ih
theorem xor_lt (a b : Nat) (ha : a < 4294967296) (hb : b < 4294967296) : a ^^^ b < 4294967296 := Nat.xor_lt_two_pow (n := 32) ha hb
theorem crcSt_lt (l : List Int) (h8 : ∀ x ∈ l, 0 ≤ x ∧ x ≤ 255) (k : Nat) : crcSt l k < 4294967296 := by
  induction k with
  | zero => exact (by decide : (4294967295 : Nat) < 4294967296)
  | succ k ih =>
    have := byte_at h8 k
    exact stepsN_lt _ _ (xor_lt _ _ ih (by omega))

theorem bit0 (q : Nat) (hq : q < 4294967296) : bits .and .u32 (q : Int) 1 = ((q % 2 : Nat) : Int) := by
  have := u32_and_nat q 1 hq (by decide)
  rw [Nat.and_one_is_mod] at this
  exact this
theorem i1 (q : Nat) (hq : q < 4294967296) (h : (bits .and .u32 (q : Int) 1 == 1) = true) : bits .xor .u32 ((q : Int) / 2) 3988292384 = ((stepN q : Nat) : Int) := by
  rw [bit0 q hq] at h
  have h' : q % 2 = 1 := by simp at h; omega
  have := u32_xor_nat (q / 2) 3988292384 (by omega) (by decide)
  rw [stepN, if_pos h']
  rw [← this]
  congr 1
theorem i0 (q : Nat) (hq : q < 4294967296) (h : (bits .and .u32 (q : Int) 1 == 1) = false) : (q : Int) / 2 = ((stepN q : Nat) : Int) := by
  rw [bit0 q hq] at h
  have h' : ¬ q % 2 = 1 := by simp at h; omega
  rw [stepN, if_neg h']
  rfl
theorem x0 (r : Nat) (c : Int) (hr : r < 4294967296) (h0 : 0 ≤ c) (h1 : c ≤ 255) : bits .xor .u32 (r : Int) c = ((r ^^^ c.toNat : Nat) : Int) := by
  have e : c = (c.toNat : Int) := by omega
  have := u32_xor_nat r c.toNat hr (by omega)
  rw [← e] at this
  exact this

theorem xor_max (r : Nat) (hr : r < 4294967296) : bits .xor .u32 (r : Int) 4294967295 = ((r ^^^ 4294967295 : Nat) : Int) := u32_xor_nat r 4294967295 hr (by decide)
theorem max_xor (r : Nat) (hr : r < 4294967296) : bits .xor .u32 IntKind.u32.max (r : Int) = ((r ^^^ 4294967295 : Nat) : Int) := by
  rw [Nat.xor_comm]
  exact u32_xor_nat 4294967295 r (by decide) hr

/-! the specification's step: its register is the program's, with the rest of the byte taken out again -/
theorem low_eq (S d r : Nat) (hr : r = S ^^^ d) (hr' : r < 4294967296) (hd : d < 4294967296) :
    bits .and .u32 (bits .xor .u32 (r : Int) (bits .and .u32 (d : Int) 1)) 1 = ((S % 2 : Nat) : Int) := by
  rw [bit0 d hd, u32_xor_nat r (d % 2) hr' (by omega), bit0 _ (xor_lt _ _ hr' (by omega))]
  congr 1
  subst hr
  have m2 : ∀ a b : Nat, (a ^^^ b) % 2 = (a % 2) ^^^ (b % 2) := fun a b => Nat.xor_mod_two_pow (n := 1)
  rw [m2, m2, Nat.mod_mod, Nat.xor_assoc, Nat.xor_self, Nat.xor_zero]
theorem half_xor (S d : Nat) : (S ^^^ d) / 2 = (S / 2) ^^^ (d / 2) := by
  have := Nat.shiftRight_xor_distrib (a := S) (b := d) (i := 1)
  simpa [Nat.shiftRight_eq_div_pow] using this
theorem half_pow (c j : Nat) : c / 2 ^ j / 2 = c / 2 ^ (j + 1) := by rw [Nat.div_div_eq_div_mul, Nat.pow_succ]
theorem byte_shift (c : Int) (j : Nat) (h0 : 0 ≤ c) (h1 : c ≤ 255) : c / 2 ^ j % 4294967296 = ((c.toNat / 2 ^ j : Nat) : Int) := by
  obtain ⟨n, rfl⟩ := Int.eq_ofNat_of_zero_le h0
  have h : n / 2 ^ j ≤ n := Nat.div_le_self _ _
  have e : ((n : Int) / 2 ^ j) = ((n / 2 ^ j : Nat) : Int) := by simp
  rw [e]
  simp only [Int.toNat_natCast]
  generalize n / 2 ^ j = d at h
  omega
theorem s1 (S c : Nat) (j : Nat) (lk : Int) (h0 : 0 ≤ lk) (h1 : lk ≤ 255) (hc : c = lk.toNat) (hS : S < 4294967296)
    (h : (bits .and .u32 (bits .xor .u32 ((S ^^^ c / 2 ^ j : Nat) : Int) (bits .and .u32 (lk / 2 ^ j % 4294967296) 1)) 1 == 1) = true) :
    bits .xor .u32 (((S ^^^ c / 2 ^ j : Nat) : Int) / 2) 3988292384 = ((stepN S ^^^ c / 2 ^ (j + 1) : Nat) : Int) := by
  have hd : c / 2 ^ j ≤ c := Nat.div_le_self _ _
  have hlt := xor_lt S (c / 2 ^ j) hS (by omega)
  rw [byte_shift lk j h0 h1, ← hc, low_eq S (c / 2 ^ j) _ rfl hlt (by omega)] at h
  have h' : S % 2 = 1 := by simp at h; omega
  rw [stepN, if_pos h', ← half_pow]
  have := u32_xor_nat ((S ^^^ c / 2 ^ j) / 2) 3988292384 (by omega) (by decide)
  rw [half_xor] at this
  have e : ((S ^^^ c / 2 ^ j : Nat) : Int) / 2 = (((S / 2) ^^^ (c / 2 ^ j / 2) : Nat) : Int) := by rw [← half_xor]; rfl
  rw [e]
  refine this.trans ?_
  congr 1
  rw [Nat.xor_assoc, Nat.xor_comm (c / 2 ^ j / 2), ← Nat.xor_assoc]
theorem s0 (S c : Nat) (j : Nat) (lk : Int) (h0 : 0 ≤ lk) (h1 : lk ≤ 255) (hc : c = lk.toNat) (hS : S < 4294967296)
    (h : (bits .and .u32 (bits .xor .u32 ((S ^^^ c / 2 ^ j : Nat) : Int) (bits .and .u32 (lk / 2 ^ j % 4294967296) 1)) 1 == 1) = false) :
    ((S ^^^ c / 2 ^ j : Nat) : Int) / 2 = ((stepN S ^^^ c / 2 ^ (j + 1) : Nat) : Int) := by
  have hd : c / 2 ^ j ≤ c := Nat.div_le_self _ _
  have hlt := xor_lt S (c / 2 ^ j) hS (by omega)
  rw [byte_shift lk j h0 h1, ← hc, low_eq S (c / 2 ^ j) _ rfl hlt (by omega)] at h
  have h' : ¬ S % 2 = 1 := by simp at h; omega
  rw [stepN, if_neg h', ← half_pow, ← half_xor]
  rfl
end Go.Proofs.YtlfnlhbkagjheaaDoor

/-
  The walks of both Crc32 and of the law FnExactCrc32.
-/
namespace Go.Proofs.YtlfnlhbkagjheaaDoor
open Go.RowKit
set_option linter.unusedVariables false

/-- the check sum -/
def crcOf (l : List Int) : Nat := crcSt l l.length ^^^ 4294967295

set_option maxHeartbeats 1000000 in
theorem implCrc_any (v : Value) (l : List Int) (w : World) (hv : Bs w v l) :
    Calls Tryd.prog 57 #[v] w fun e w' => e = .returned (.int .u32 (crcOf l : Nat)) ∧ w' = w := by
  obtain ⟨hl, h8, a, cap, rfl, hc⟩ := hv
  unfold maxLen at hl
  go_enter Tryd.func57, Tryd.ntmps57
  go_wp2
  go_loop [3, 9] (fun s i => ∃ k : Nat, k ≤ l.length ∧ i = .int .i64 k ∧ s = .int .u32 (crcSt l k : Nat)) (fun _ i => l.length - (intOf i).toNat)
  case atStart => exact ⟨0, Nat.zero_le _, rfl, rfl⟩
  case round =>
    obtain ⟨k, hk, rfl, rfl⟩ := hrel
    have hr := crcSt_lt l h8 k
    by_cases hlt : k < l.length
    · obtain ⟨b, off, rfl, hcell⟩ := hc k hlt
      have hck := hcell k hlt
      have h8k := byte_at h8 k
      have hx := x0 (crcSt l k) _ hr h8k.1 h8k.2
      have hS : Hid (crcSt l (k + 1) = stepsN 8 (crcSt l k ^^^ (l[k]?.getD 0).toNat)) := rfl
      have hs0 := xor_lt (crcSt l k) (l[k]?.getD 0).toNat hr (by omega)
      generalize hg : crcSt l k ^^^ (l[k]?.getD 0).toNat = s0 at hx hS hs0
      have eg : l[k]?.getD 0 = l[k] := by simp [hlt]
      rw [eg] at hx h8k hck
      clear hcell hc hg eg
      go_wp2
      go_loop [3, 17] (fun s i => ∃ j : Nat, j ≤ 8 ∧ i = .int .i64 j ∧ s = .int .u32 (stepsN j s0 : Nat)) (fun _ i => 8 - (intOf i).toNat)
      case atStart => exact ⟨0, by omega, rfl, by simp [stepsN]⟩
      case round =>
        obtain ⟨j, hj, rfl, rfl⟩ := hrel
        have hq := stepsN_lt j s0 hs0
        by_cases hlt' : j < 8
        · have H1 := i1 (stepsN j s0) hq
          have H0 := i0 (stepsN j s0) hq
          have HS : Hid (stepsN (j + 1) s0 = stepN (stepsN j s0)) := rfl
          generalize stepsN j s0 = q at HS hq H1 H0
          have K1 : Hid ((bits .and .u32 (q : Int) 1 == 1) = true → bits .xor .u32 ((q : Int) / 2) 3988292384 = ((stepN q : Nat) : Int)) := H1
          have K0 : Hid ((bits .and .u32 (q : Int) 1 == 1) = false → (q : Int) / 2 = ((stepN q : Nat) : Int)) := H0
          clear H1 H0
          go_wp2
          · go_round
            case rel => exact ⟨j + 1, by omega, by go_num, by rw [HS.out, ← K1.out (by assumption)]⟩
            case measure => simp [intOf]; omega
          · go_round
            case rel => exact ⟨j + 1, by omega, by go_num, by rw [HS.out, ← K0.out (by assumption)]⟩
            case measure => simp [intOf]; omega
        · have e8 : j = 8 := by omega
          subst e8
          go_wp2
          go_round
          case rel => exact ⟨k + 1, by omega, by go_num, by rw [hS.out]⟩
          case measure => simp [intOf]; omega
    · have e : k = l.length := by omega
      subst e
      have hm := max_xor _ hr
      go_wp2
      go_ret
      exact ⟨by simp [crcOf], rfl⟩

set_option maxHeartbeats 1000000 in
theorem specCrc_any (v : Value) (l : List Int) (w : World) (hv : Bs w v l) :
    Calls Tryd.prog 53 #[v] w fun e w' => e = .returned (.int .u32 (crcOf l : Nat)) ∧ w' = w := by
  obtain ⟨hl, h8, a, cap, rfl, hc⟩ := hv
  unfold maxLen at hl
  go_enter Tryd.func53, Tryd.ntmps53
  go_wp2
  go_loop [3, 4] (fun s i => ∃ k : Nat, k ≤ l.length ∧ i = .int .i64 k ∧ s = .int .u32 (crcSt l k : Nat)) (fun _ i => l.length - (intOf i).toNat)
  case atStart => exact ⟨0, Nat.zero_le _, rfl, rfl⟩
  case round =>
    obtain ⟨k, hk, rfl, rfl⟩ := hrel
    have hr := crcSt_lt l h8 k
    by_cases hlt : k < l.length
    · obtain ⟨b, off, rfl, hcell⟩ := hc k hlt
      have hck := hcell k hlt
      have h8k := byte_at h8 k
      have hS : Hid (crcSt l (k + 1) = stepsN 8 (crcSt l k ^^^ (l[k]?.getD 0).toNat)) := rfl
      have eg : l[k]?.getD 0 = l[k] := by simp [hlt]
      rw [eg] at h8k hck hS
      generalize hlk : l[k] = lk at h8k hck hS
      obtain ⟨b0, b1⟩ := h8k
      clear hcell hc eg
      go_wp2
      go_loop [3, 5] (fun s i => ∃ j : Nat, j ≤ 8 ∧ i = .int .i64 j ∧ s = .int .u32 ((stepsN j (crcSt l k ^^^ lk.toNat) ^^^ lk.toNat / 2 ^ j : Nat))) (fun _ i => 8 - (intOf i).toNat)
      case atStart => exact ⟨0, by omega, rfl, by simp [stepsN, Nat.xor_assoc]⟩
      case round =>
        obtain ⟨j, hj, rfl, rfl⟩ := hrel
        have hq := stepsN_lt j (crcSt l k ^^^ lk.toNat) (xor_lt _ _ hr (by omega))
        by_cases hlt' : j < 8
        · have HS : Hid (stepsN (j + 1) (crcSt l k ^^^ lk.toNat) = stepN (stepsN j (crcSt l k ^^^ lk.toNat))) := rfl
          generalize stepsN j (crcSt l k ^^^ lk.toNat) = S at HS hq
          have K1 : Hid _ := s1 S lk.toNat j lk b0 b1 rfl hq
          have K0 : Hid _ := s0 S lk.toNat j lk b0 b1 rfl hq
          have hXlt := xor_lt S (lk.toNat / 2 ^ j) hq (by have := Nat.div_le_self lk.toNat (2 ^ j); omega)
          generalize S ^^^ lk.toNat / 2 ^ j = X at K1 K0 hXlt
          go_wp2
          · go_round
            case rel => exact ⟨j + 1, by omega, by go_num, by rw [HS.out, ← K1.out (by assumption)]⟩
            case measure => simp [intOf]; omega
          · go_round
            case rel => exact ⟨j + 1, by omega, by go_num, by rw [HS.out, ← K0.out (by assumption)]⟩
            case measure => simp [intOf]; omega
        · have e8 : j = 8 := by omega
          subst e8
          have hz : lk.toNat / 2 ^ 8 = 0 := by omega
          rw [hz, Nat.xor_zero]
          go_wp2
          go_round
          case rel => exact ⟨k + 1, by omega, by go_num, by rw [hS.out]⟩
          case measure => simp [intOf]; omega
    · have e : k = l.length := by omega
      subst e
      have hm := xor_max _ hr
      go_wp2
      go_ret
      exact ⟨by simp [crcOf], rfl⟩
end Go.Proofs.YtlfnlhbkagjheaaDoor

/-
  impl.within.
-/
namespace Go.Proofs.YtlfnlhbkagjheaaDoor
open Go.RowKit
set_option linter.unusedVariables false

/-- in a range, as a Bool that the walk leaves whole -/
def inB (n lo hi : Int) : Bool := decide (lo ≤ n) && decide (n ≤ hi)
theorem inB_iff (n lo hi : Int) : inB n lo hi = true ↔ lo ≤ n ∧ n ≤ hi := by simp [inB]
theorem inB_not (n lo hi : Int) : inB n lo hi = false ↔ (n < lo ∨ hi < n) := by
  by_cases h1 : lo ≤ n <;> by_cases h2 : n ≤ hi <;> simp [inB, h1, h2] <;> omega

set_option maxHeartbeats 400000 in
theorem within_any (n lo hi : Int) (w : World) :
    Calls Tryd.prog 49 #[.int .i64 n, .int .i64 lo, .int .i64 hi] w fun e w' => e = .returned (.bool (inB n lo hi)) ∧ w' = w := by
  by_cases h1 : lo ≤ n
  · by_cases h2 : n ≤ hi
    · have hb : inB n lo hi = true := by simp [inB, h1, h2]
      rw [hb]
      go_enter Tryd.func49, Tryd.ntmps49
      go_wp2
      go_ret
      exact ⟨rfl, rfl⟩
    · have hb : inB n lo hi = false := by simp [inB, h1]; omega
      rw [hb]
      go_enter Tryd.func49, Tryd.ntmps49
      go_wp2
      go_ret
      exact ⟨by simp, rfl⟩
  · have hb : inB n lo hi = false := by simp [inB]; omega
    rw [hb]
    go_enter Tryd.func49, Tryd.ntmps49
    go_wp2
    go_ret
    exact ⟨rfl, rfl⟩

end Go.Proofs.YtlfnlhbkagjheaaDoor
