import Derived.Test.YtjoflnnomebkpaaDoorRows
import Derived.WalkKit
import Derived.WalkSpells
import Derived.RowKit3
import Derived.Below
import Derived.Deep.Light
import Derived.Deep.QuietTactic
import Derived.BigQuiet
import Derived.Laws.OwnMore
import Derived.Laws.BitsAllLaws
import Derived.OwnWalk
import Derived.Lib.AppendStr
import Derived.Maps.AppendAt
import Derived.LaidEql
import Derived.Stop.Asserts
import Derived.RowKitTokens
import Derived.Deep.MidRow
import Derived.Deep.WholeRow
import Derived.Laws.StructEq
import Derived.Deep.DeepCutAuto
import Derived.Deep.RegionHeld3
import Derived.Deep.AppendLies
import Derived.Laws.BytesArg
/-
  Small things that every walk wants.
-/
namespace Go.Proofs.YtjoflnnomebkpaaDoor
open Go.RowKit
set_option linter.unusedVariables false

theorem bcell {W w1 : World} (hb : Below W.heap.size W w1) : (∀ b o, b < W.heap.size → w1.cell? ⟨b, o, none⟩ = W.cell? ⟨b, o, none⟩) ∧ (∀ b o, b < W.heap.size → w1.frozen? ⟨b, o, none⟩ = W.frozen? ⟨b, o, none⟩) :=
  ⟨fun b o h => hb.cell (p := ⟨b, o, none⟩) h, fun b o h => hb.frozen (p := ⟨b, o, none⟩) h⟩

theorem ret_int {k : IntKind} {a b : Int} (h : a = b) : Ending.returned (.int k a) = .returned (.int k b) := by rw [h]

theorem ifc {α : Type} {p q : Prop} [Decidable p] [Decidable q] {a b c d : α} (h : p ↔ q) (h1 : a = c) (h2 : b = d) : (if p then a else b) = if q then c else d := by
  subst h1 h2
  by_cases hp : p
  · rw [if_pos hp, if_pos (h.1 hp)]
  · rw [if_neg hp, if_neg (fun hq => hp (h.2 hq))]
end Go.Proofs.YtjoflnnomebkpaaDoor

/-
  Byte slices: what a slice value holds; laws.toByteS, laws.eqByteS.
-/
namespace Go.Proofs.YtjoflnnomebkpaaDoor
open Go.RowKit
set_option linter.unusedVariables false

/-- the slice value v holds, in the world w, the bytes l -/
def Bs (w : World) (v : Value) (l : List Int) : Prop :=
  l.length ≤ maxLen ∧ (∀ x ∈ l, 0 ≤ x ∧ x ≤ 255) ∧
  ∃ a cap, v = .slice a l.length cap ∧ ∀ i, i < l.length → ∃ b off, a = some ⟨b, off, none⟩ ∧ ∀ j, j < l.length → w.cell? ⟨b, off + j, none⟩ = some (.int .u8 (l[j]?.getD 0))

theorem byte_at {l : List Int} (h : ∀ x ∈ l, 0 ≤ x ∧ x ≤ 255) (k : Nat) : 0 ≤ l[k]?.getD 0 ∧ l[k]?.getD 0 ≤ 255 := by
  rcases Nat.lt_or_ge k l.length with hk | hk
  · rw [List.getElem?_eq_getElem hk]; exact h _ (List.getElem_mem hk)
  · rw [List.getElem?_eq_none hk]; simp

theorem cell_lt {w : World} {b o : Nat} {v : Value} (h : w.cell? ⟨b, o, none⟩ = some v) : b < w.heap.size := by
  rcases Nat.lt_or_ge b w.heap.size with h' | h'
  · exact h'
  · rw [World.cell?, Array.getElem?_eq_none h'] at h; simp at h

theorem Bs.below {w w' : World} {v : Value} {l : List Int} (h : Bs w v l) (hb : Below w.heap.size w w') : Bs w' v l := by
  obtain ⟨hl, h8, a, cap, rfl, hc⟩ := h
  refine ⟨hl, h8, a, cap, rfl, fun i hi => ?_⟩
  obtain ⟨b, off, rfl, hj⟩ := hc i hi
  exact ⟨b, off, rfl, fun j hj' => by rw [hb.cell (cell_lt (hj j hj'))]; exact hj j hj'⟩


set_option maxHeartbeats 1000000 in
/-- two slices of the same bytes -/
theorem eqByteS_same (v u : Value) (l : List Int) (w : World) (hv : Bs w v l) (hu : Bs w u l) :
    Calls Tryd.prog 25 #[v, u] w fun e w' => e = .returned (.bool true) ∧ Below w.heap.size w w' := by
  obtain ⟨hl, h8, a, cap, rfl, hc⟩ := hv
  obtain ⟨_, _, a', cap', rfl, hc'⟩ := hu
  unfold maxLen at hl
  go_enter Tryd.func25, Tryd.ntmps25
  go_wp2
  go_loopw [5] (fun i wr => ∃ k : Nat, k ≤ l.length ∧ i = .int .i64 k ∧ ∃ n, wr = w.drewN n) (fun i _ => l.length - (intOf i).toNat)
  case atStart => exact ⟨0, Nat.zero_le _, rfl, 0, rfl⟩
  case round =>
    obtain ⟨k, hk, rfl, n, rfl⟩ := hrel
    by_cases hlt : k < l.length
    · obtain ⟨b, off, rfl, hcell⟩ := hc k hlt
      obtain ⟨b', off', rfl, hcell'⟩ := hc' k hlt
      have hck := hcell k hlt
      have hck' := hcell' k hlt
      clear hcell hcell' hc hc'
      go_wp2
      go_quiet (fail)
      go_wp2
      go_roundw
      case rel => exact ⟨k + 1, by omega, by go_num, _, rfl⟩
      case measure => simp [intOf]; omega
    · have e : k = l.length := by omega
      subst e
      go_wp2
      go_ret
      exact ⟨rfl, rfl, rfl, rfl, Nat.le_refl _, fun _ _ => rfl⟩
end Go.Proofs.YtjoflnnomebkpaaDoor

/-
  Byte slices that the call itself owns; append to them.
-/
namespace Go.Proofs.YtjoflnnomebkpaaDoor
open Go.RowKit
set_option linter.unusedVariables false

theorem infoU8 : (Tryd.prog.info? 5).map (fun i => (i.zero, i.size, i.bytes)) = some (some (.int .u8 0), 1, 1) := by kernel_rfl

/-- the slice value v, in memory from block B on that is the call's own, holds the bytes l -/
def Own (w : World) (B : Nat) (v : Value) (l : List Int) : Prop :=
  (∀ x ∈ l, 0 ≤ x ∧ x ≤ 255) ∧ w.ownsRow B 5 1 v l.length (l.map (Value.int .u8))

theorem Own.nil (w : World) (B : Nat) : Own w B (.slice none 0 0) [] := ⟨by simp, by simpa using World.ownsRow_nil w B 5 1⟩

theorem Own.shape {w : World} {B : Nat} {v : Value} {l : List Int} (h : Own w B v l) : ∃ a cap, v = .slice a l.length cap := by
  rcases h.2.2 with ⟨rfl, h0⟩ | ⟨g, cap, cur, rfl, _⟩
  · exact ⟨none, 0, by rw [h0]⟩
  · exact ⟨_, _, rfl⟩

theorem Own.shape' {w : World} {B : Nat} {v : Value} {l : List Int} (h : Own w B v l) (hl : 0 < l.length) : ∃ g cap, v = .slice (some ⟨g, 0, none⟩) l.length cap := by
  rcases h.2.2 with ⟨rfl, h0⟩ | ⟨g, cap, cur, rfl, _⟩
  · omega
  · exact ⟨_, _, rfl⟩

theorem Own.le {w : World} {B B' : Nat} {v : Value} {l : List Int} (h : Own w B v l) (hb : B' ≤ B) : Own w B' v l := by
  refine ⟨h.1, h.2.1, ?_⟩
  rcases h.2.2 with h | ⟨g, cap, cur, hv, hg, r⟩
  · exact .inl h
  · exact .inr ⟨g, cap, cur, hv, Nat.le_trans hb hg, r⟩

theorem heap_lt {w : World} {g : Nat} {o : Obj} (h : w.heap[g]? = some o) : g < w.heap.size := by
  rcases Nat.lt_or_ge g w.heap.size with h' | h'
  · exact h'
  · rw [Array.getElem?_eq_none h'] at h; cases h

theorem Own.below {w w' : World} {B : Nat} {v : Value} {l : List Int} (h : Own w B v l) (hb : Below w.heap.size w w') : Own w' B v l := by
  refine ⟨h.1, h.2.1, ?_⟩
  rcases h.2.2 with h | ⟨g, cap, cur, hv, hg, hh, r⟩
  · exact .inl h
  · exact .inr ⟨g, cap, cur, hv, hg, (hb.block g (heap_lt hh)).trans hh, r⟩

theorem Own.block {w w' : World} {B : Nat} {v : Value} {l : List Int} (h : Own w B v l) (hb : ∀ k, v.ownBlock = some k → w'.heap[k]? = w.heap[k]?) : Own w' B v l := by
  refine ⟨h.1, h.2.1, ?_⟩
  rcases h.2.2 with h | ⟨g, cap, cur, hv, hg, hh, r⟩
  · exact .inl h
  · subst hv
    exact .inr ⟨g, cap, cur, rfl, hg, (hb g rfl).trans hh, r⟩

theorem cell_add (b o j : Nat) : (⟨b, o, none⟩ : Addr).add j = ⟨b, o + j, none⟩ := by
  unfold Addr.add
  split
  · next h => subst h; rfl
  · rfl

theorem Own.bs {w : World} {B : Nat} {v : Value} {l : List Int} (h : Own w B v l) (hl : l.length ≤ maxLen) : Bs w v l := by
  obtain ⟨a, cap, rfl⟩ := h.shape
  refine ⟨hl, h.1, a, cap, rfl, fun i hi => ?_⟩
  obtain ⟨g, cap', e⟩ := h.shape' (by omega)
  simp only [Value.slice.injEq] at e
  obtain ⟨rfl, _, rfl⟩ := e
  refine ⟨g, 0, rfl, fun j hj => ?_⟩
  have := h.2.cellAt j (by omega)
  rw [Nat.zero_add, this]
  simp [hj]

theorem Own.lit (w : World) (l : List Int) (cs : Array Value) (hc : cs.toList = l.map (Value.int .u8)) (h8 : ∀ x ∈ l, 0 ≤ x ∧ x ≤ 255) (hl : l.length ≤ maxLen) :
    Own (w.alloc (.cells cs 5)) w.heap.size (.slice (some ⟨w.heap.size, 0, none⟩) l.length l.length) l := by
  have hs : cs.size = l.length := by rw [← Array.length_toList, hc, List.length_map]
  refine ⟨h8, by simp, .inr ⟨w.heap.size, l.length, cs, rfl, Nat.le_refl _, ?_, Nat.le_refl _, hl, by omega, ?_⟩⟩
  · show (w.heap.push _)[_]? = _
    simp
  · rw [hc, List.take_of_length_le (by simp)]

/-- w' is w but for v's own row and new blocks; the new value v' lies in v's row or in a new block -/
structure Grew (w : World) (v : Value) (w' : World) (v' : Value) : Prop where
  g : w.grownBy w' v.ownBlock
  at' : v'.ownBlock = v.ownBlock ∨ ∃ k, v'.ownBlock = some k ∧ w.heap.size ≤ k

theorem Grew.refl (w : World) (v : Value) : Grew w v w v := ⟨⟨rfl, rfl, rfl, Nat.le_refl _, fun _ _ _ => rfl⟩, .inl rfl⟩
theorem Grew.trans {w w1 w2 : World} {v v1 v2 : Value} (h : Grew w v w1 v1) (k : Grew w1 v1 w2 v2) : Grew w v w2 v2 := by
  have hs := h.g.size
  refine ⟨⟨k.g.os.trans h.g.os, k.g.tape.trans h.g.tape, k.g.output.trans h.g.output, Nat.le_trans h.g.size k.g.size, fun i hi hne => ?_⟩, ?_⟩
  · refine (k.g.block i (by omega) ?_).trans (h.g.block i hi hne)
    rcases h.at' with e | ⟨j, e, hj⟩
    · rw [e]; exact hne
    · rw [e]; intro he; injection he with he; omega
  · rcases k.at' with e | ⟨j, e, hj⟩
    · rw [e]; exact h.at'
    · exact .inr ⟨j, e, by omega⟩
theorem Grew.alloc {w w' : World} {v v' : Value} (h : Grew w v w' v') (o : Obj) : Grew w v (w'.alloc o) v' :=
  h.trans ⟨World.grownBy_alloc _ _ _, .inl rfl⟩
theorem Grew.below {B : Nat} {w w' : World} {v v' : Value} {l : List Int} (h : Grew w v w' v') (hown : Own w B v l) (hB : B ≤ w.heap.size) : Below B w w' :=
  (Below.refl _ _).grown h.g hB (fun k hk => (hown.2.lt k hk).1)
/-- a block that is not v's own stays -/
theorem Grew.block {w w' : World} {v v' : Value} (h : Grew w v w' v') {k : Nat} (hk : k < w.heap.size) (hne : v.ownBlock ≠ some k) : w'.heap[k]? = w.heap[k]? := h.g.block k hk (fun e => hne e.symm)
theorem Grew.far {w w' : World} {v v' : Value} (h : Grew w v w' v') {k : Nat} (hk : k < w.heap.size) (hne : v.ownBlock ≠ some k) : v'.ownBlock ≠ some k := by
  rcases h.at' with e | ⟨j, e, hj⟩
  · rw [e]; exact hne
  · rw [e]; intro he; injection he with he; omega
theorem Grew.cell {w w' : World} {v v' : Value} (h : Grew w v w' v') {k o : Nat} (hk : k < w.heap.size) (hne : v.ownBlock ≠ some k) : w'.cell? ⟨k, o, none⟩ = w.cell? ⟨k, o, none⟩ := World.cell?_of_block (w := w) (h.block hk hne)
theorem Grew.of_below {w w' : World} {v : Value} (h : Below w.heap.size w w') : Grew w v w' v := ⟨⟨h.os, h.tape, h.output, h.size, fun k hk _ => h.block k hk⟩, .inl rfl⟩

set_option maxRecDepth 100000 in
theorem wpl_append {w : World} {ops : Array Oper} {rest : List Oper} {o : Oper} {a : Act} {Q : Exit → Act → World → Prop} (hgd : o.guard = none) (s x : Operand)
    (ho : o.op = .call { callee := .builtin .append, args := #[s, x], argTypes := #[22, 22] })
    {B : Nat} {v u : Value} {l l2 : List Int} (hown : Own w B v l) (hs : a.eval s = v) (hu : Bs w u l2) (hx : a.eval x = u) (hne : 0 < l2.length) (hlen : l.length + l2.length ≤ 1073741824) (hB : B ≤ w.heap.size)
    (h : ∀ v' w', Own w' B v' (l ++ l2) → Grew w v w' v' → wpList Tryd.prog ops Q rest (a.put o.dst v') w') : wpList Tryd.prog ops Q (o :: rest) a w := by
  obtain ⟨i0, hi, hz0, hz1, hz2⟩ := info_parts infoU8
  obtain ⟨_, h8, au, cu, rfl, hc⟩ := hu
  obtain ⟨b, off, rfl, hcell⟩ := hc 0 hne
  refine wpList_append_own_at w hgd s x 22 ho B 5 i0 (.int .u8 0) 1 1 Tryd.underlying22 hi hz0 hz1 hz2 rfl (by decide) v l.length _ hs hown.2 ⟨b, off, none⟩ l2.length cu (l2.map (Value.int .u8)) hx (by simp) ?_ ?_ (by unfold maxLen; omega) (by omega) hB ?_
  · intro j u hj
    rw [cell_add]
    rw [List.getElem?_map] at hj
    cases hk : l2[j]? with
    | none => rw [hk] at hj; cases hj
    | some y =>
      rw [hk] at hj
      have hjl : j < l2.length := by
        rcases Nat.lt_or_ge j l2.length with h' | h'
        · exact h'
        · rw [List.getElem?_eq_none h'] at hk; cases hk
      rw [hcell j hjl, hk]
      exact hj
  · intro u hu
    simp only [List.mem_map] at hu
    obtain ⟨y, _, rfl⟩ := hu
    rfl
  · intro v' w' h2 h3 _ h5
    refine h v' w' ⟨fun y hy => ?_, by simpa using h2⟩ ⟨h3, h5.imp id fun e => ⟨_, e, Nat.le_refl _⟩⟩
    rcases List.mem_append.1 hy with hy | hy
    · exact hown.1 y hy
    · exact h8 y hy

/-- the bytes of a string -/
def strL (s : ByteArray) : List Int := s.data.toList.map fun c => (c.toNat : Int)
theorem strL_len (s : ByteArray) : (strL s).length = s.size := by simp [strL]
theorem strL_byte (s : ByteArray) : ∀ x ∈ strL s, 0 ≤ x ∧ x ≤ 255 := by
  intro x hx
  simp only [strL, List.mem_map] at hx
  obtain ⟨c, _, rfl⟩ := hx
  have := c.toNat_lt
  omega

set_option maxRecDepth 100000 in
theorem wpl_append_str {w : World} {ops : Array Oper} {rest : List Oper} {o : Oper} {a : Act} {Q : Exit → Act → World → Prop} (hgd : o.guard = none) (sl x : Operand)
    (ho : o.op = .call { callee := .builtin .append, args := #[sl, x], argTypes := #[22, 9] })
    {B : Nat} {v : Value} {l : List Int} {t : ByteArray} (hown : Own w B v l) (hpos : 0 < l.length) (hs : a.eval sl = v) (hx : a.eval x = .string t) (hlen : l.length + t.size ≤ 1073741824) (hB : B ≤ w.heap.size)
    (h : ∀ v' w', Own w' B v' (l ++ strL t) → Grew w v w' v' → wpList Tryd.prog ops Q rest (a.put o.dst v') w') : wpList Tryd.prog ops Q (o :: rest) a w := by
  obtain ⟨i0, hi, hz0, hz1, hz2⟩ := info_parts infoU8
  refine wpList_plain hgd fun K hK => ?_
  obtain ⟨v', w', hr, h2, h3, h4⟩ := Lib.run_append_own_string (P := Tryd.prog) w B 22 9 o.type 5 i0 Tryd.underlying22 Tryd.underlying9 hi hz0 hz1 hz2 v l.length _ hown.2 t (by unfold maxLen; omega) (by omega) hB
  have hat : v'.ownBlock = v.ownBlock ∨ ∃ k, v'.ownBlock = some k ∧ w.heap.size ≤ k := by
    rcases hown.2.2 with ⟨_, h0⟩ | ⟨g, cap, cur, rfl, hbg, hg, hnc, hcm, hcs, htake⟩
    · omega
    · have hcs' : cur.size = cap := by simpa using hcs
      by_cases hroom : l.length + t.size ≤ cap
      · have hr2 := Lib.run_append_room_string (P := Tryd.prog) w 22 9 o.type 5 i0 Tryd.underlying22 Tryd.underlying9 hi hz1 g l.length cap cur hg t hroom (by omega)
        rw [hr2] at hr
        injection hr with e1 e2
        rw [← e1]
        exact .inl rfl
      · have holds := hown.2.cells (g := g) rfl
        have hr2 := Lib.run_append_grow_string (P := Tryd.prog) w 22 9 o.type 5 i0 (.int .u8 0) Tryd.underlying22 Tryd.underlying9 hi hz0 ⟨g, 0, none⟩ l.length cap (l.map (Value.int .u8)) (by rw [hz1]; simp) holds t (by omega) (by omega) (by rw [hz2]; exact growslice_fits (by omega) (by omega))
        rw [hr2] at hr
        injection hr with e1 e2
        rw [← e1]
        exact .inr ⟨_, rfl, Nat.le_refl _⟩
  unfold Oper.wp execOp
  simp only [ho, resolve, invoke, builtin, Sem.run_bind, Sem.run_pure, Result.andThen_ok, List.map_toArray, List.map_cons, List.map_nil, hs, hx, hr]
  refine hK _ _ (h v' w' ⟨fun y hy => ?_, ?_⟩ ⟨h3, hat⟩)
  · rcases List.mem_append.1 hy with hy | hy
    · exact hown.1 y hy
    · exact strL_byte t y hy
  · have e : (l ++ strL t).map (Value.int .u8) = l.map (Value.int .u8) ++ Lib.strCells t := by
      rw [List.map_append]
      congr 1
      simp [strL, Lib.strCells]
    rw [e, List.length_append, strL_len]
    exact h2
end Go.Proofs.YtjoflnnomebkpaaDoor

/-
  Reading a body from left to right: on lists.
-/
namespace Go.Proofs.YtjoflnnomebkpaaDoor
open Go.RowKit
set_option linter.unusedVariables false

/-- what the first k bytes of a number's form add up to -/
def valL (l : List Int) : Nat → Nat
  | 0 => 0
  | k + 1 => valL l k + (l[k]?.getD 0).toNat % 128 * 128 ^ k
theorem valL_lt (l : List Int) (k : Nat) : valL l k < 128 ^ k := by
  induction k with
  | zero => simp [valL]
  | succ k ih =>
    have h : (l[k]?.getD 0).toNat % 128 ≤ 127 := by omega
    have := Nat.mul_le_mul_right (128 ^ k) h
    rw [valL, Nat.pow_succ]
    omega

/-- the number whose form begins at place k, in at most f bytes: its value and how many bytes there are in all -/
def numAt (l : List Int) : Nat → Nat → Option (Nat × Nat)
  | 0, _ => none
  | f + 1, k =>
    if k < l.length then
      (if 128 ≤ l[k]?.getD 0 then numAt l f (k + 1)
       else if l[k]?.getD 0 = 0 ∧ 0 < k then none
       else some (valL l (k + 1), k + 1))
    else none
def numR (l : List Int) : Option (Nat × Nat) := numAt l 5 0

theorem numAt_bounds (l : List Int) (f : Nat) : ∀ k v n, f + k ≤ 5 → numAt l f k = some (v, n) → n ≤ l.length ∧ k < n ∧ v < 34359738368 := by
  induction f with
  | zero => intro k v n _ h; cases h
  | succ f ih =>
    intro k v n hk h
    unfold numAt at h
    split at h
    · next hl =>
      split at h
      · have := ih (k + 1) v n (by omega) h
        omega
      · split at h
        · cases h
        · injection h with h
          injection h with h1 h2
          have hv := valL_lt l (k + 1)
          have hp : 128 ^ (k + 1) ≤ 128 ^ 5 := Nat.pow_le_pow_right (by decide) (by omega)
          have : (128 : Nat) ^ 5 = 34359738368 := by decide
          omega
    · cases h
theorem numR_bounds {l : List Int} {v n : Nat} (h : numR l = some (v, n)) : n ≤ l.length ∧ 0 < n ∧ v < 34359738368 := numAt_bounds l 5 0 v n (by decide) h

/-- a reader's state: what is left, none behind a refusal -/
abbrev RSt := Option (List Int)

def rdNum : RSt → Nat × RSt
  | none => (0, none)
  | some l => match numR l with
    | none => (0, none)
    | some (v, n) => (v, some (l.drop n))
theorem rdNum_lt (st : RSt) : (rdNum st).1 < 34359738368 := by
  unfold rdNum
  split
  · simp
  · split
    · simp
    · next h => exact (numR_bounds h).2.2
def stLen : RSt → Nat
  | none => 0
  | some l => l.length
theorem rdNum_len (st : RSt) : stLen (rdNum st).2 ≤ stLen st := by
  unfold rdNum
  split
  · simp
  · split
    · simp [stLen]
    · next h => simp [stLen]

/-- the text of bytes -/
def textOf (l : List Int) : ByteArray := strOfNums l

def rdText (st : RSt) : ByteArray × RSt :=
  match (rdNum st).2 with
  | none => (ByteArray.empty, none)
  | some l => if 64 < (rdNum st).1 ∨ l.length < (rdNum st).1 then (ByteArray.empty, none) else (strOfNums (l.take (rdNum st).1), some (l.drop (rdNum st).1))

theorem rdText_size (st : RSt) : (rdText st).1.size ≤ 64 := by
  unfold rdText
  split
  · decide
  · split
    · decide
    · next h =>
      rw [strOfNums_size, List.length_take]
      omega
theorem rdText_len (st : RSt) : stLen (rdText st).2 ≤ stLen st := by
  have h := rdNum_len st
  unfold rdText
  split
  · simp [stLen]
  · next l e =>
    rw [e] at h
    split
    · simp [stLen]
    · simp only [stLen, List.length_drop] at h ⊢
      omega

theorem i64_or_nat (a b : Nat) (ha : a < 9223372036854775808) (hb : b < 9223372036854775808) : bits .or .i64 (a : Int) (b : Int) = ((a ||| b : Nat) : Int) := by
  have hx : a ||| b < 2 ^ 63 := Nat.or_lt_two_pow (by omega) (by omega)
  show IntKind.i64.wrap ((BitVec.ofInt 64 (a : Int) ||| BitVec.ofInt 64 (b : Int)).toNat : Int) = _
  rw [BitVec.toNat_or, ofInt_u64 a (by omega), ofInt_u64 b (by omega)]
  rw [IntKind.wrap_i64]
  omega
theorem or_step (a x k : Nat) (ha : a < 128 ^ k) (hx : x < 128) (hk : k ≤ 4) : bits .or .i64 (a : Int) ((x : Int) * 128 ^ k) = ((a + x * 128 ^ k : Nat) : Int) := by
  have h2 : (128 : Nat) ^ k = 2 ^ (7 * k) := by rw [Nat.pow_mul]
  have hp : 128 ^ k ≤ 128 ^ 4 := Nat.pow_le_pow_right (by decide) hk
  have h5 : (128 : Nat) ^ 4 = 268435456 := by decide
  have hm : x * 128 ^ k ≤ 127 * 128 ^ k := Nat.mul_le_mul_right _ (by omega)
  have e : (x : Int) * 128 ^ k = ((x * 128 ^ k : Nat) : Int) := by simp
  rw [e, i64_or_nat a (x * 128 ^ k) (by omega) (by omega)]
  congr 1
  rw [Nat.or_comm, nat_join (7 * k) (x * 128 ^ k) a (by rw [h2]; exact Nat.mul_mod_left _ _) (by rw [← h2]; exact ha), Nat.add_comm]
theorem and_127 (c : Int) (h0 : 0 ≤ c) (h1 : c ≤ 255) : bits .and .u8 c 127 = ((c.toNat % 128 : Nat) : Int) := by
  rw [u8_and c 127 h0 (by omega) (by decide) (by decide)]
  congr 1
  exact Nat.and_two_pow_sub_one_eq_mod _ 7
end Go.Proofs.YtjoflnnomebkpaaDoor

/-
  Over a store into a row.
-/
namespace Go.Proofs.YtjoflnnomebkpaaDoor
open Go.RowKit
set_option linter.unusedVariables false

theorem Rd.frame {w : World} {b : Nat} (x : Nat) (v : Value) : w.grownBy (w.setCell ⟨b, x, none⟩ v) (some b) :=
  ⟨rfl, rfl, rfl, by simp [World.setCell], fun k _ hk => Below.heap_setCell _ _ _ _ (fun e => hk (by rw [e]))⟩

theorem grownBy_trans {w w1 w2 : World} {row : Option Nat} (h : w.grownBy w1 row) (k : w1.grownBy w2 row) : w.grownBy w2 row :=
  ⟨k.os.trans h.os, k.tape.trans h.tape, k.output.trans h.output, Nat.le_trans h.size k.size, fun i hi hne => (k.block i (Nat.lt_of_lt_of_le hi h.size) hne).trans (h.block i hi hne)⟩
theorem grownBy_refl (w : World) (row : Option Nat) : w.grownBy w row := ⟨rfl, rfl, rfl, Nat.le_refl _, fun _ _ _ => rfl⟩
end Go.Proofs.YtjoflnnomebkpaaDoor

/-
  errors.Is and errors.As at the errors of the wire: nil, and a refusal that wraps a sentinel.
-/
namespace Go.Proofs.YtjoflnnomebkpaaDoor
open Go.RowKit Go.Extern.Stop Go.Stop Go.Extern
set_option linter.unusedVariables false

/-- the value of a sentinel -/
abbrev sentV (a : Addr) : Value := .iface 203 (.pointer (some a))
/-- an error that wraps the sentinel at a, with a fault -/
abbrev refV (a : Addr) (f : Int) : Value := .iface 124 (.agg #[sentV a, .int .i64 f])

theorem isTypeOf (v : Value) (w : World) : (Extern.ReflectliteType.typeOf #[.iface 203 v]).run Tryd.prog w = .ok (.iface 178 (.agg #[.pointer (some ⟨11, 203, none⟩)])) w := by kernel_rfl
def cmpM : Array Value → Sem Value := Extern.ReflectliteType.method fun t => do Rtype.noPackHeld "Comparable" t; pure (.bool (← typeInfo t).comparable)
theorem isComparable (w : World) : (cmpM #[.agg #[.pointer (some ⟨11, 203, none⟩)]]).run Tryd.prog w = .ok (.bool true) w := by kernel_rfl
theorem isMethodComparable (v : Value) (w : World) : (Go.method 344 178 v "Comparable").run Tryd.prog w = .ok (177, v) w := by kernel_rfl
theorem isComp : (Tryd.prog.info? 203).map (·.comparable) = some true := by kernel_rfl
theorem isSize : (Tryd.prog.info? 232).map (·.size) = some 1 := by kernel_rfl
theorem noIsE (v : Value) (xT : TypeId) (w : World) : (Instr.typeAssert (.iface 203 v) xT 180 true).run Tryd.prog w = .ok (.tuple #[.nilIface, .bool false]) w := run_typeAssert_lacksB Tryd.underlying180 (by kernel_rfl) (by kernel_rfl) v xT w
theorem noUnwrapE (v : Value) (xT : TypeId) (w : World) : (Instr.typeAssert (.iface 203 v) xT 183 true).run Tryd.prog w = .ok (.tuple #[.nilIface, .bool false]) w := run_typeAssert_lacksB Tryd.underlying183 (by kernel_rfl) (by kernel_rfl) v xT w
theorem noUnwrapsE (v : Value) (xT : TypeId) (w : World) : (Instr.typeAssert (.iface 203 v) xT 185 true).run Tryd.prog w = .ok (.tuple #[.nilIface, .bool false]) w := run_typeAssert_lacksB Tryd.underlying185 (by kernel_rfl) (by kernel_rfl) v xT w
theorem noIsW (v : Value) (xT : TypeId) (w : World) : (Instr.typeAssert (.iface 124 v) xT 180 true).run Tryd.prog w = .ok (.tuple #[.nilIface, .bool false]) w := run_typeAssert_lacksB Tryd.underlying180 (by kernel_rfl) (by kernel_rfl) v xT w
theorem hasUnwrapW (v : Value) (xT : TypeId) (w : World) : (Instr.typeAssert (.iface 124 v) xT 183 true).run Tryd.prog w = .ok (.tuple #[.iface 124 v, .bool true]) w := run_typeAssert_hasB Tryd.underlying183 (by kernel_rfl) v xT w
theorem methodUnwrap (v : Value) (w : World) : (Go.method 344 124 v "Unwrap").run Tryd.prog w = .ok (162, v) w := by kernel_rfl

theorem refusal_unwrap (a : Addr) (f : Int) (w : World) :
    Calls Tryd.prog 162 #[.agg #[sentV a, .int .i64 f]] w fun e w' => e = .returned (sentV a) ∧ w' = w.alloc (.cells #[sentV a, .int .i64 f] 124) := by
  go_enter Tryd.func162, Tryd.ntmps162
  go_wp2
  go_ret
  exact ⟨rfl, rfl⟩

/-- errors.Is(nil, x). -/
theorem is_nil (b : Addr) (w : World) :
    Calls Tryd.prog 86 #[.nilIface, sentV b] w fun e w' => e = .returned (.bool false) ∧ w' = w := by
  have hn := run_eql_iface_nil_left (P := Tryd.prog) w 203 (.pointer (some b)) Tryd.underlying79
  go_enter Tryd.func86, Tryd.ntmps86
  go_wp2
  go_ret
  exact ⟨rfl, rfl⟩

/-- errors.Is(e, x), e a refusal that wraps x itself: one Unwrap, then equal. -/
theorem is_same (b : Addr) (f : Int) (w : World) :
    Calls Tryd.prog 86 #[refV b f, sentV b] w fun e w' => e = .returned (.bool true) ∧ Below w.heap.size w w' := by
  obtain ⟨i, hi, hcmp⟩ := Option.map_eq_some_iff.1 isComp
  obtain ⟨j, hj, hjs⟩ := Option.map_eq_some_iff.1 isSize
  have h8 := @run_callFunc_extern Tryd.prog 111 _ Extern.ReflectliteType.typeOf Tryd.func111 (by kernel_rfl) (by kernel_rfl) (by kernel_rfl) (by kernel_rfl)
  have h32 := @run_callFunc_extern Tryd.prog 177 _ cmpM Tryd.func177 (by kernel_rfl) (by kernel_rfl) (by kernel_rfl) (by kernel_rfl)
  have tT := isTypeOf
  have cT := isComparable
  have mR := isMethodComparable
  have nW := noIsW
  have uW := hasUnwrapW
  have mU := methodUnwrap
  have heq := run_eql_iface_ptr_same (P := Tryd.prog) (w.alloc (.cells #[sentV b, .int .i64 f] 124)) b Tryd.underlying79 Tryd.underlying203 hi hcmp hj
  have hty := run_eql_iface_types (P := Tryd.prog) 124 203 (.agg #[sentV b, .int .i64 f]) (.pointer (some b)) Tryd.underlying79 (by decide) w
  go_enter Tryd.func86, Tryd.ntmps86
  go_wp2
  refine wp_loop_rounds 2 ?_
  rw [rounds_succ]
  go_wp2
  rw [rounds_succ]
  go_wp2
  go_ret
  exact ⟨rfl, (Below.refl _ _).alloc (Nat.le_refl _) _⟩

/-- errors.Is(e, x), e a refusal that wraps another sentinel. -/
theorem is_other (a b : Addr) (f : Int) (ca cb : Array Value) (ta tb : TypeId) (w : World) (hne : a ≠ b) (ha : w.heap[a.block]? = some (.cells ca ta (0, 0))) (hb : w.heap[b.block]? = some (.cells cb tb (0, 0))) :
    Calls Tryd.prog 86 #[refV a f, sentV b] w fun e w' => e = .returned (.bool false) ∧ Below w.heap.size w w' := by
  obtain ⟨i, hi, hcmp⟩ := Option.map_eq_some_iff.1 isComp
  obtain ⟨j, hj, hjs⟩ := Option.map_eq_some_iff.1 isSize
  have h8 := @run_callFunc_extern Tryd.prog 111 _ Extern.ReflectliteType.typeOf Tryd.func111 (by kernel_rfl) (by kernel_rfl) (by kernel_rfl) (by kernel_rfl)
  have h32 := @run_callFunc_extern Tryd.prog 177 _ cmpM Tryd.func177 (by kernel_rfl) (by kernel_rfl) (by kernel_rfl) (by kernel_rfl)
  have tT := isTypeOf
  have cT := isComparable
  have mR := isMethodComparable
  have nE := noIsE
  have uE := noUnwrapE
  have vE := noUnwrapsE
  have nW := noIsW
  have uW := hasUnwrapW
  have mU := methodUnwrap
  have al : ∀ (k : Nat) (o : Obj), w.heap[k]? = some o → (w.alloc (.cells #[sentV a, .int .i64 f] 124)).heap[k]? = some o := fun k o h => by
    have hlt : k < w.heap.size := by
      rcases Nat.lt_or_ge k w.heap.size with h' | h'
      · exact h'
      · rw [Array.getElem?_eq_none h'] at h; cases h
    show (w.heap.push _)[k]? = _
    rw [Array.getElem?_push, if_neg (Nat.ne_of_lt hlt)]
    exact h
  have heq := run_eql_iface_ptr_other (P := Tryd.prog) (w.alloc (.cells #[sentV a, .int .i64 f] 124)) Tryd.underlying79 Tryd.underlying203 hi hcmp hj (by rw [hjs]; decide) hne (al _ _ ha) (al _ _ hb)
  have hty := run_eql_iface_types (P := Tryd.prog) 124 203 (.agg #[sentV a, .int .i64 f]) (.pointer (some b)) Tryd.underlying79 (by decide) w
  go_enter Tryd.func86, Tryd.ntmps86
  go_wp2
  refine wp_loop_rounds 2 ?_
  rw [rounds_succ]
  go_wp2
  rw [rounds_succ]
  go_wp2
  go_ret
  exact ⟨rfl, (Below.refl _ _).alloc (Nat.le_refl _) _⟩
end Go.Proofs.YtjoflnnomebkpaaDoor

/-
  The nine sentinels.
-/
namespace Go.Proofs.YtjoflnnomebkpaaDoor
open Go.RowKit Go.Extern.Stop Go.Stop Go.Extern
set_option linter.unusedVariables false

/-- the nine sentinels lie at A 1 .. A 9 -/
structure Sents (w : World) (A : Nat → Addr) (B : Nat) : Prop where
  g1 : w.cell? ⟨9, 0, none⟩ = some (sentV (A 1))
  g2 : w.cell? ⟨10, 0, none⟩ = some (sentV (A 2))
  g3 : w.cell? ⟨4, 0, none⟩ = some (sentV (A 3))
  g4 : w.cell? ⟨5, 0, none⟩ = some (sentV (A 4))
  g5 : w.cell? ⟨6, 0, none⟩ = some (sentV (A 5))
  g6 : w.cell? ⟨7, 0, none⟩ = some (sentV (A 6))
  g7 : w.cell? ⟨2, 0, none⟩ = some (sentV (A 7))
  g8 : w.cell? ⟨3, 0, none⟩ = some (sentV (A 8))
  g9 : w.cell? ⟨8, 0, none⟩ = some (sentV (A 9))
  row : ∀ i, 1 ≤ i → i ≤ 9 → ∃ c t, w.heap[(A i).block]? = some (.cells c t (0, 0))
  ne : ∀ i j, 1 ≤ i → i ≤ 9 → 1 ≤ j → j ≤ 9 → i ≠ j → A i ≠ A j
  gl : 11 ≤ B
  lt : ∀ i, 1 ≤ i → i ≤ 9 → (A i).block < B
  le : B ≤ w.heap.size

theorem Sents.kept {w w' : World} {A : Nat → Addr} {B : Nat} (h : Sents w A B) (hb : Below B w w') : Sents w' A B := by
  have hg := h.gl
  have c : ∀ {k o : Nat} {v : Value}, k < B → w.cell? ⟨k, o, none⟩ = some v → w'.cell? ⟨k, o, none⟩ = some v := fun {k o v} hk hc => by rw [hb.cell (p := ⟨k, o, none⟩) hk]; exact hc
  refine ⟨c (by omega) h.g1, c (by omega) h.g2, c (by omega) h.g3, c (by omega) h.g4, c (by omega) h.g5, c (by omega) h.g6, c (by omega) h.g7, c (by omega) h.g8, c (by omega) h.g9, fun i h1 h6 => ?_, h.ne, hg, h.lt, Nat.le_trans h.le hb.size⟩
  obtain ⟨x, t, e⟩ := h.row i h1 h6
  exact ⟨x, t, (hb.block _ (h.lt i h1 h6)).trans e⟩
theorem Sents.below {w w' : World} {A : Nat → Addr} {B : Nat} (h : Sents w A B) (hb : Below w.heap.size w w') : Sents w' A B := h.kept (hb.mono h.le)

theorem is_at {w : World} {A : Nat → Addr} {B : Nat} (hs : Sents w A B) (i j : Nat) (f : Int) (h1 : 1 ≤ i) (h6 : i ≤ 9) (k1 : 1 ≤ j) (k6 : j ≤ 9) :
    Calls Tryd.prog 86 #[refV (A i) f, sentV (A j)] w fun e w' => e = .returned (.bool (decide (i = j))) ∧ Below w.heap.size w w' := by
  by_cases e : i = j
  · subst e
    simpa using is_same (A i) f w
  · obtain ⟨c, t, hc⟩ := hs.row i h1 h6
    obtain ⟨c', t', hc'⟩ := hs.row j k1 k6
    simpa [e] using is_other (A i) (A j) f c c' t t' w (hs.ne i j h1 h6 k1 k6 e) hc hc'
end Go.Proofs.YtjoflnnomebkpaaDoor

/-
  impl.reader in memory; refuse, number.
-/
namespace Go.Proofs.YtjoflnnomebkpaaDoor
open Go.RowKit
set_option linter.unusedVariables false

/-- a slice value whose length is within its capacity; it lies below D -/
def Fits (D : Nat) (v : Value) (l : List Int) : Prop := ∃ a n c, v = .slice a n c ∧ n ≤ c ∧ (0 < l.length → ∃ x, a = some x ∧ x.block < D)

/-- the reader that lies in block b, B ≤ b < D, has the state st; its bytes lie below D -/
def Rd (w : World) (b : Nat) (A : Nat → Addr) (B D : Nat) (st : RSt) : Prop :=
  B ≤ b ∧ b < D ∧ D ≤ w.heap.size ∧ (∀ i, w.frozen? ⟨b, i, none⟩ = false) ∧
  match st with
  | none => w.cell? ⟨b, 0, none⟩ = some (.slice none 0 0) ∧ w.cell? ⟨b, 1, none⟩ = some (refV (A 5) 0)
  | some l => (∃ v, w.cell? ⟨b, 0, none⟩ = some v ∧ Bs w v l ∧ Fits D v l) ∧ w.cell? ⟨b, 1, none⟩ = some .nilIface

def noByte : Value → Prop
  | .int .u8 _ => False
  | _ => True

/-- bytes stay where a cell that is no byte is written -/
theorem Bs.setCell {w : World} {v : Value} {l : List Int} (h : Bs w v l) {b i : Nat} {x : Value} (hx : w.cell? ⟨b, i, none⟩ = some x) (hn : noByte x) (y : Value) : Bs (w.setCell ⟨b, i, none⟩ y) v l := by
  obtain ⟨hl, h8, a, cap, rfl, hc⟩ := h
  refine ⟨hl, h8, a, cap, rfl, fun k hk => ?_⟩
  obtain ⟨b', off, rfl, hj⟩ := hc k hk
  refine ⟨b', off, rfl, fun j hj' => ?_⟩
  rw [World.cell?_setCell_other w _ _ _ ?_]
  · exact hj j hj'
  · intro e
    have hj2 := hj j hj'
    rw [← e, hx] at hj2
    injection hj2 with e'
    rw [e'] at hn
    exact hn

theorem Bs.drop {w : World} {a : Option Addr} {n c : Nat} {l : List Int} (h : Bs w (.slice a n c) l) (hc : n ≤ c) {D : Nat} (hD : 0 < l.length → ∃ x, a = some x ∧ x.block < D) (k : Nat) (hk : k ≤ l.length) :
    Bs w (sliced a k n c 1) (l.drop k) ∧ Fits D (sliced a k n c 1) (l.drop k) := by
  obtain ⟨hl, h8, a', cap, e, hcell⟩ := h
  injection e with e1 e2 e3
  subst e1 e2 e3
  refine ⟨⟨by simp; omega, fun x hx => h8 x (List.mem_of_mem_drop hx), _, c - k, by simp [sliced]; rfl, fun i hi => ?_⟩, ⟨_, _, _, rfl, by omega, fun hp => ?_⟩⟩
  rotate_left
  · rw [List.length_drop] at hp
    obtain ⟨x, rfl, hx⟩ := hD (by omega)
    rw [if_neg (by omega)]
    refine ⟨_, rfl, ?_⟩
    show (x.add (k * 1)).block < D
    unfold Addr.add
    split <;> exact hx
  rw [List.length_drop] at hi
  obtain ⟨b, off, rfl, hj⟩ := hcell 0 (by omega)
  refine ⟨b, off + k, ?_, fun j hj' => ?_⟩
  · rw [if_neg (by omega)]
    simp [cell_add]
  · rw [List.length_drop] at hj'
    have := hj (k + j) (by omega)
    rw [← Nat.add_assoc] at this
    rw [this, List.getElem?_drop]

theorem size5 : ∀ w, (Go.sizeOf 5).run Tryd.prog w = .ok 1 w := fun w => by kernel_rfl


theorem grown_below {w w' : World} {b B : Nat} (h : w.grownBy w' (some b)) (hb : B ≤ b) (hB : B ≤ w.heap.size) : Below B w w' :=
  (Below.refl _ _).grown h hB (fun k hk => by injection hk with hk; omega)

theorem Rd.below {w w' : World} {b : Nat} {A : Nat → Addr} {B D : Nat} {st : RSt} (h : Rd w b A B D st) (hb : Below D w w') : Rd w' b A B D st := by
  obtain ⟨hB, hbD, hDw, hf, h⟩ := h
  refine ⟨hB, hbD, Nat.le_trans hDw hb.size, fun i => by rw [hb.frozen (p := ⟨b, i, none⟩) hbD]; exact hf i, ?_⟩
  have c := fun (o : Nat) => hb.cell (p := ⟨b, o, none⟩) hbD
  cases st with
  | none => exact ⟨(c 0).trans h.1, (c 1).trans h.2⟩
  | some l =>
    obtain ⟨⟨v, h0, hbs, hfit⟩, h1⟩ := h
    refine ⟨⟨v, (c 0).trans h0, ?_, hfit⟩, (c 1).trans h1⟩
    obtain ⟨a, n, cc, rfl, _, hD⟩ := hfit
    obtain ⟨hl, h8, a', cap, e, hc⟩ := hbs
    injection e with e1 e2 e3
    subst e1 e2 e3
    refine ⟨hl, h8, _, _, rfl, fun i hi => ?_⟩
    obtain ⟨b', off, rfl, hj⟩ := hc i hi
    obtain ⟨x, ex, hx⟩ := hD (by omega)
    injection ex with ex
    subst ex
    exact ⟨b', off, rfl, fun j hj' => by rw [hb.cell (p := ⟨b', off + j, none⟩) hx]; exact hj j hj'⟩

theorem refuse_any (b : Nat) (w : World) (A : Nat → Addr) (B D : Nat) (st : RSt) (hs : Sents w A B) (h : Rd w b A B D st) :
    Calls Tryd.prog 138 #[.pointer (some ⟨b, 0, none⟩)] w fun e w' => (∃ v, e = .returned v) ∧ Rd w' b A B D none ∧ w.grownBy w' (some b) := by
  obtain ⟨hB, hbD, hDw, hf, h⟩ := h
  have hg := hs.g5
  have hn := hs.gl
  have hf0 := hf 0
  have hf1 := hf 1
  have hne : b ≠ 6 := by omega
  have h0 : ∃ v, w.cell? ⟨b, 0, none⟩ = some v := by
    cases st with
    | none => exact ⟨_, h.1⟩
    | some l => obtain ⟨⟨v, hv, _⟩, _⟩ := h; exact ⟨v, hv⟩
  obtain ⟨v0, h0⟩ := h0
  have o1 : ⟨b, 0, none⟩ ≠ (⟨b, 1, none⟩ : Addr) := by intro h; injection h with _ h2 _; cases h2
  have o5 : ⟨b, 0, none⟩ ≠ (⟨6, 0, none⟩ : Addr) := by intro h; injection h with h2 _ _; exact hne h2
  have e1 := fun y => World.cell?_setCell_other w ⟨b, 0, none⟩ ⟨b, 1, none⟩ y o1
  have e5 := fun y => World.cell?_setCell_other w ⟨b, 0, none⟩ ⟨6, 0, none⟩ y o5
  have e0 := fun y => World.cell?_setCell_same w ⟨b, 0, none⟩ y h0
  cases st with
  | none =>
    obtain ⟨_, h1⟩ := h
    go_enter Tryd.func138, Tryd.ntmps138
    go_wp2
    (try simp only [Exit.inBlock, Exit.then])
    refine bodyPost_end (results_none rfl _ _ _) rfl ?_
    refine ⟨⟨_, rfl⟩, ⟨hB, hbD, by simpa [World.setCell] using hDw, fun i => ?_, ?_, ?_⟩, Rd.frame _ _⟩
    · rw [World.frozen?_setCell]; exact hf i
    · exact e0 _
    · exact (e1 _).trans h1
  | some l =>
    obtain ⟨_, h1⟩ := h
    go_enter Tryd.func138, Tryd.ntmps138
    go_wp2
    (try simp only [Exit.inBlock, Exit.then])
    refine bodyPost_end (results_none rfl _ _ _) rfl ?_
    refine ⟨⟨_, rfl⟩, ⟨hB, hbD, by simpa [World.setCell] using hDw, fun i => ?_, ?_, ?_⟩, grownBy_trans (Rd.frame _ _) (Rd.frame _ _)⟩
    · rw [World.frozen?_setCell, World.frozen?_setCell]; exact hf i
    · rw [World.cell?_setCell_other _ _ _ _ (Ne.symm o1)]; exact e0 _
    · exact World.cell?_setCell_same _ _ _ ((e1 _).trans h1)

set_option maxHeartbeats 4000000 in
set_option maxRecDepth 100000 in
theorem number_any (b : Nat) (w : World) (A : Nat → Addr) (B D : Nat) (st : RSt) (hs : Sents w A B) (h : Rd w b A B D st) :
    Calls Tryd.prog 132 #[.pointer (some ⟨b, 0, none⟩)] w fun e w' => e = .returned (.int .i64 ((rdNum st).1 : Nat)) ∧ Rd w' b A B D (rdNum st).2 ∧ w.grownBy w' (some b) := by
  have HR : Hid (Rd w b A B D st) := h
  obtain ⟨hB, hbD, hDw, hf, h⟩ := h
  cases st with
  | none =>
    obtain ⟨h0, h1⟩ := h
    go_enter Tryd.func132, Tryd.ntmps132
    go_wp2
    refine wp_loop_rounds 1 ?_
    rw [rounds_succ]
    go_wp2_with (go_at_call 138; refine (refuse_any b w A B D none hs HR.out).mono ?_; rintro e w1 ⟨⟨v, rfl⟩, hr, hg⟩)
    go_ret
    exact ⟨rfl, hr, hg⟩
  | some l =>
    obtain ⟨⟨v, h0, hbs, hfit⟩, h1⟩ := h
    have HB : Hid (Bs w v l) := hbs
    obtain ⟨a, n, c, rfl, hnc, hD⟩ := hfit
    obtain ⟨hl, h8, a', cap, e, hc⟩ := hbs
    injection e with e1 e2 e3
    subst e1 e2 e3
    unfold maxLen at hl
    have hf0 := hf 0
    go_enter Tryd.func132, Tryd.ntmps132
    go_wp2
    go_loop [3, 4] (fun m i => ∃ k : Nat, k ≤ 5 ∧ i = .int .i64 k ∧ m = .int .i64 (valL l k : Nat) ∧ numR l = numAt l (5 - k) k) (fun _ i => 5 - (intOf i).toNat)
    case atStart => exact ⟨0, by omega, rfl, rfl, rfl⟩
    case round =>
      obtain ⟨k, hk, rfl, rfl, hnum⟩ := hrel
      by_cases hk5 : k < 5
      · by_cases hlt : k < l.length
        · obtain ⟨b', off, rfl, hcell⟩ := hc k hlt
          have hck := hcell k hlt
          have h8k := byte_at h8 k
          have hA := and_127 _ h8k.1 h8k.2
          have hx : (l[k]?.getD 0).toNat % 128 < 128 := Nat.mod_lt _ (by decide)
          have hO := or_step (valL l k) ((l[k]?.getD 0).toNat % 128) k (valL_lt l k) hx (by omega)
          have hS : Hid (valL l (k + 1) = valL l k + (l[k]?.getD 0).toNat % 128 * 128 ^ k) := rfl
          have hN : Hid (numAt l (5 - k) k = if 128 ≤ l[k]?.getD 0 then numAt l (5 - (k + 1)) (k + 1) else if l[k]?.getD 0 = 0 ∧ 0 < k then none else some (valL l (k + 1), k + 1)) := by
            have e : 5 - k = (5 - (k + 1)) + 1 := by omega
            rw [e]
            show numAt l _ k = _
            rw [numAt, if_pos hlt]
          have eg : l[k]?.getD 0 = l[k] := by simp [hlt]
          rw [eg] at hck h8k hA hx hO hS hN
          generalize hxx : l[k].toNat % 128 = x at hA hx hO hS
          generalize hcc : l[k] = cc at hck h8k hA hN
          generalize hvv : valL l k = V at hO hS
          obtain ⟨b0, b1⟩ := h8k
          clear hxx hcc hvv hcell hc eg h8
          by_cases h128 : 128 ≤ cc
          · rw [if_pos h128] at hN
            obtain rfl | rfl | rfl | rfl | rfl : k = 0 ∨ k = 1 ∨ k = 2 ∨ k = 3 ∨ k = 4 := by omega
            all_goals
              simp at hO
              (try rw [Nat.add_zero] at hck)
              go_wp2
              go_round
              case rel => first | exact ⟨1, by decide, rfl, by rw [hS.out]; simp, hnum.trans hN.out⟩ | exact ⟨2, by decide, rfl, by rw [hS.out]; simp, hnum.trans hN.out⟩ | exact ⟨3, by decide, rfl, by rw [hS.out]; simp, hnum.trans hN.out⟩ | exact ⟨4, by decide, rfl, by rw [hS.out]; simp, hnum.trans hN.out⟩ | exact ⟨5, by decide, rfl, by rw [hS.out]; simp, hnum.trans hN.out⟩
              case measure => simp [intOf]
          · rw [if_neg h128] at hN
            by_cases hz : cc = 0 ∧ 0 < k
            · rw [if_pos hz] at hN
              obtain ⟨rfl, hk0⟩ := hz
              have hnn : numR l = none := hnum.trans hN.out
              obtain rfl | rfl | rfl | rfl : k = 1 ∨ k = 2 ∨ k = 3 ∨ k = 4 := by omega
              all_goals
                simp at hO
                go_wp2_with (go_at_call 138; refine (refuse_any b w A B D (some l) hs HR.out).mono ?_; rintro e w1 ⟨⟨v, rfl⟩, hr, hg⟩)
                go_ret
                rw [rdNum, hnn]
                exact ⟨rfl, hr, hg⟩
            · rw [if_neg hz] at hN
              have hnn : numR l = some (valL l (k + 1), k + 1) := hnum.trans hN.out
              have HW : ∀ (y : Value) (l' : List Int), Bs w y l' → Fits D y l' → Rd (w.setCell ⟨b, 0, none⟩ y) b A B D (some l') := fun y l' hy hfy =>
                ⟨hB, hbD, by simpa [World.setCell] using hDw, fun i => by rw [World.frozen?_setCell]; exact hf i, ⟨y, World.cell?_setCell_same w _ _ h0, hy.setCell h0 trivial y, hfy⟩,
                  (World.cell?_setCell_other w _ _ _ (by intro h; injection h with _ h2 _; cases h2)).trans h1⟩
              have HD := HB.out.drop hnc hD (k + 1) (by omega)
              have HW2 : Hid (Rd (w.setCell ⟨b, 0, none⟩ (sliced (some ⟨b', off, none⟩) (k + 1) l.length c 1)) b A B D (some (l.drop (k + 1)))) := HW _ _ HD.1 HD.2
              clear HW HD
              have hzz : ¬ (cc = 0 ∧ (0 : Int) < k) := by omega
              obtain rfl | rfl | rfl | rfl | rfl : k = 0 ∨ k = 1 ∨ k = 2 ∨ k = 3 ∨ k = 4 := by omega
              all_goals
                simp at hO
                (try rw [Nat.add_zero] at hck)
                go_wp2
                all_goals go_ret
                all_goals rw [rdNum, hnn]
                all_goals exact ⟨by rw [hS.out]; simp, by have h2 := HW2.out; go_light; simp_all [sliced, cell_add], Rd.frame _ _⟩
        · have hnn : numR l = none := by
            rw [hnum]
            have e : 5 - k = (5 - (k + 1)) + 1 := by omega
            rw [e, numAt, if_neg hlt]
          go_wp2_with (go_at_call 138; refine (refuse_any b w A B D (some l) hs HR.out).mono ?_; rintro e w1 ⟨⟨v, rfl⟩, hr, hg⟩)
          go_ret
          rw [rdNum, hnn]
          exact ⟨rfl, hr, hg⟩
      · have e : k = 5 := by omega
        subst e
        go_wp2_with (go_at_call 138; refine (refuse_any b w A B D (some l) hs HR.out).mono ?_; rintro e w1 ⟨⟨v, rfl⟩, hr, hg⟩)
        go_ret
        rw [rdNum, hnum]
        exact ⟨rfl, hr, hg⟩
end Go.Proofs.YtjoflnnomebkpaaDoor

/-
  impl.reader: text, end.
-/
namespace Go.Proofs.YtjoflnnomebkpaaDoor
open Go.RowKit
set_option linter.unusedVariables false

theorem elem22 : Tryd.prog.elem 22 = 5 := by rw [Program.elem, Tryd.underlying22]
theorem under22 : Tryd.prog.underlying 22 = some (.slice (Tryd.prog.elem 22)) := by rw [elem22]; exact Tryd.underlying22

theorem slice_h (a : Option Addr) (len c n : Nat) (h : n ≤ c) (wx : World) : (Instr.slice 22 (.slice a len c) none (some (.int .i64 (n : Int))) none).run Tryd.prog wx = .ok (sliced a 0 n c 1) wx := by
  rw [run_slice_h wx 22 a len c under22 .i64 (n : Int) (by omega) (by omega), elem22, size5]
  rfl
theorem slice_l (a : Option Addr) (len c n : Nat) (h : n ≤ len) (wx : World) : (Instr.slice 22 (.slice a len c) (some (.int .i64 (n : Int))) none none).run Tryd.prog wx = .ok (sliced a n len c 1) wx := by
  rw [run_slice_l wx 22 a len c under22 .i64 (n : Int) (by omega) (by omega), elem22, size5]
  rfl

theorem conv_zero (a : Option Addr) (c : Nat) (w : World) : (convert 22 9 (.slice a 0 c)).run Tryd.prog w = .ok (.string (strOfNums [])) w := by
  cases a with
  | none =>
    rw [run_convert_bytes_nil w 22 5 Tryd.underlying22 Tryd.underlying5 0 c 9 Tryd.underlying9]
    rfl
  | some a =>
    have hl : (loadCells a 0).run Tryd.prog w = .ok (([] : List Int).map (Value.int .u8)).toArray w := by
      simpa using run_loadCells_list (P := Tryd.prog) w a [] (fun j v hj => by simp at hj)
    rw [run_convert_bytes_string w 22 9 5 (some a) 0 c Tryd.underlying22 Tryd.underlying5 Tryd.underlying9, run_bytesToString w a 0 c [] hl]
    rfl

set_option maxRecDepth 100000 in
theorem conv_take {w : World} {a : Option Addr} {len c : Nat} {l : List Int} (h : Bs w (.slice a len c) l) (hc : len ≤ c) (n : Nat) (hn : n ≤ l.length) :
    (convert 22 9 (sliced a 0 n c 1)).run Tryd.prog w = .ok (.string (strOfNums (l.take n))) w := by
  by_cases h0 : n = 0
  · subst h0
    rw [List.take_zero]
    exact conv_zero (if c = 0 then a else a.map (·.add (0 * 1))) (c - 0) w
  · obtain ⟨hl, h8, a', cap, e, hcell⟩ := h
    injection e with e1 e2 e3
    subst e1 e2 e3
    obtain ⟨b, off, rfl, hj⟩ := hcell 0 (by omega)
    have hne : ¬ c = 0 := by omega
    have hs : sliced (some ⟨b, off, none⟩) 0 n c 1 = .slice (some ⟨b, off, none⟩) n c := by simp [sliced, hne, cell_add]
    rw [hs]
    refine run_convert_bytes_arg w 22 5 Tryd.underlying22 Tryd.underlying5 b off n c (l.take n) (by simp; omega) (fun i hi => ?_) 9 Tryd.underlying9
    rw [hj i (by omega)]
    simp [List.getD, hi]

theorem rdNum_none {st : RSt} (h : (rdNum st).2 = none) : (rdNum st).1 = 0 := by
  unfold rdNum at h ⊢
  split
  · rfl
  · split
    · rfl
    · next h' => simp [h'] at h

set_option maxHeartbeats 4000000 in
set_option maxRecDepth 100000 in
theorem text_any (b : Nat) (w : World) (A : Nat → Addr) (B D : Nat) (st : RSt) (hs : Sents w A B) (h : Rd w b A B D st) :
    Calls Tryd.prog 141 #[.pointer (some ⟨b, 0, none⟩)] w fun e w' => e = .returned (.string (rdText st).1) ∧ Rd w' b A B D (rdText st).2 ∧ w.grownBy w' (some b) := by
  have HN : Hid (Calls Tryd.prog 132 #[.pointer (some ⟨b, 0, none⟩)] w fun e w' => e = .returned (.int .i64 ((rdNum st).1 : Nat)) ∧ Rd w' b A B D (rdNum st).2 ∧ w.grownBy w' (some b)) := number_any b w A B D st hs h
  have hB0 := h.1
  have hbD := h.2.1
  have hn := rdNum_lt st
  have h0 := @rdNum_none st
  unfold rdText
  generalize (rdNum st).1 = n at HN hn h0
  generalize (rdNum st).2 = t at HN h0
  cases t with
  | none =>
    obtain rfl := h0 rfl
    have c0 := fun w => conv_zero none 0 w
    have e0 : strOfNums [] = ByteArray.empty := rfl
    rw [e0] at c0
    go_enter Tryd.func141, Tryd.ntmps141
    go_wp2_with (go_at_call 132; refine HN.out.mono ?_; rintro e w1 ⟨rfl, hr, hg⟩; obtain ⟨_, _, hDw, hf, q0, q1⟩ := hr; have hf0 := hf 0)
    go_ret
    refine ⟨rfl, ⟨hB0, hbD, by simpa [World.setCell] using hDw, fun i => ?_, ?_, ?_⟩, grownBy_trans hg (Rd.frame _ _)⟩
    · rw [World.frozen?_setCell]; exact hf i
    · exact World.cell?_setCell_same _ _ _ q0
    · rw [World.cell?_setCell_other _ _ _ _ (by intro h; injection h with _ h2 _; cases h2)]; exact q1
  | some l =>
    clear h0
    by_cases hlong : 64 < n ∨ l.length < n
    · simp only [if_pos hlong]
      have hl64 : 64 < (n : Int) ∨ (l.length : Int) < n := by omega
      go_enter Tryd.func141, Tryd.ntmps141
      go_wp2_with (first
        | (go_at_call 132; refine HN.out.mono ?_; rintro e w1 ⟨rfl, hr, hg⟩; have HR : Hid (Rd w1 b A B D (some l)) := hr; obtain ⟨_, _, hDw, hf, ⟨v, q0, ⟨_, _, a, c, rfl, _⟩, _⟩, q1⟩ := hr; have hs1 := hs.kept (grown_below hg hB0 hs.le))
        | (go_at_call 138; refine (refuse_any b _ A B D (some l) hs1 HR.out).mono ?_; rintro e w2 ⟨⟨v, rfl⟩, hr2, hg2⟩))
      all_goals go_ret
      all_goals exact ⟨rfl, hr2, grownBy_trans hg hg2⟩
    · simp only [if_neg hlong]
      have hl64 : (n : Int) ≤ 64 ∧ (n : Int) ≤ l.length := by omega
      go_enter Tryd.func141, Tryd.ntmps141
      go_wp2_with (first
        | (go_at_call 132; refine HN.out.mono ?_; rintro e w1 ⟨rfl, hr, hg⟩; obtain ⟨_, _, hDw, hf, ⟨v, q0, hbs, ⟨a, len, c, rfl, hlc, hD⟩⟩, q1⟩ := hr; have hf0 := hf 0; have HB : Hid (Bs w1 (.slice a len c) l) := hbs; have el : len = l.length := (by obtain ⟨_, _, _, _, e, _⟩ := hbs; injection e); subst el; clear hbs; have t1 := slice_h a l.length c n (by omega); have t2 := slice_l a l.length c n (by omega); have cv := conv_take HB.out hlc n (by omega); have dr := HB.out.drop hlc hD n (by omega); obtain ⟨a2, n2, c2, e2, _, _⟩ := dr.2; rw [e2] at t2 dr; have DR : Hid (Bs w1 (.slice a2 n2 c2) (l.drop n) ∧ Fits D (.slice a2 n2 c2) (l.drop n)) := dr; generalize sliced a 0 n c 1 = S1 at t1 cv; clear dr e2))
      go_ret
      refine ⟨rfl, ⟨hB0, hbD, by simpa [World.setCell] using hDw, fun i => ?_, ⟨_, ?_, DR.out.1.setCell q0 trivial _, DR.out.2⟩, ?_⟩, grownBy_trans hg (Rd.frame _ _)⟩
      · rw [World.frozen?_setCell]; exact hf i
      · exact World.cell?_setCell_same _ _ _ q0
      · rw [World.cell?_setCell_other _ _ _ _ (by intro h; injection h with _ h2 _; cases h2)]; exact q1

theorem grown_cell {w w' : World} {b q : Nat} (h : w.grownBy w' (some b)) (hq : q < w.heap.size) (hne : q ≠ b) : (∀ o, w'.cell? ⟨q, o, none⟩ = w.cell? ⟨q, o, none⟩) ∧ (∀ o, w'.frozen? ⟨q, o, none⟩ = w.frozen? ⟨q, o, none⟩) := by
  have hb := h.block q hq (by intro e; injection e with e; exact hne e)
  exact ⟨fun o => World.cell?_of_block (w := w) hb, fun o => by simp only [World.frozen?, hb]⟩

/-- number, with what stays -/
theorem number_s (b : Nat) (w : World) (A : Nat → Addr) (B D : Nat) (st : RSt) (hs : Sents w A B) (h : Rd w b A B D st) :
    Calls Tryd.prog 132 #[.pointer (some ⟨b, 0, none⟩)] w fun e w' => e = .returned (.int .i64 ((rdNum st).1 : Nat)) ∧ Sents w' A B ∧ Rd w' b A B D (rdNum st).2 ∧ w.grownBy w' (some b) :=
  (number_any b w A B D st hs h).mono fun e w' ⟨h1, h2, h3⟩ => ⟨h1, hs.kept (grown_below h3 h.1 hs.le), h2, h3⟩
theorem text_s (b : Nat) (w : World) (A : Nat → Addr) (B D : Nat) (st : RSt) (hs : Sents w A B) (h : Rd w b A B D st) :
    Calls Tryd.prog 141 #[.pointer (some ⟨b, 0, none⟩)] w fun e w' => e = .returned (.string (rdText st).1) ∧ Sents w' A B ∧ Rd w' b A B D (rdText st).2 ∧ w.grownBy w' (some b) :=
  (text_any b w A B D st hs h).mono fun e w' ⟨h1, h2, h3⟩ => ⟨h1, hs.kept (grown_below h3 h.1 hs.le), h2, h3⟩
theorem grown_alloc {w w' : World} {row : Option Nat} (h : w.grownBy w' row) (o : Obj) : w.grownBy (w'.alloc o) row := grownBy_trans h (World.grownBy_alloc _ _ _)
theorem grown_setNew {w w' : World} {row : Option Nat} (h : w.grownBy w' row) (q i : Nat) (v : Value) (hq : w.heap.size ≤ q) : w.grownBy (w'.setCell ⟨q, i, none⟩ v) row :=
  ⟨h.os, h.tape, h.output, by simpa [World.setCell] using h.size, fun k hk hne => (Below.heap_setCell _ _ _ _ (by show k ≠ q; omega)).trans (h.block k hk hne)⟩

/-- what end answers -/
def endV (A : Nat → Addr) (st : RSt) : Value := if st = some [] then .nilIface else refV (A 5) 0

set_option maxHeartbeats 1000000 in
theorem end_any (b : Nat) (w : World) (A : Nat → Addr) (B D : Nat) (st : RSt) (hs : Sents w A B) (h : Rd w b A B D st) :
    Calls Tryd.prog 134 #[.pointer (some ⟨b, 0, none⟩)] w fun e w' => e = .returned (endV A st) ∧ w.grownBy w' (some b) := by
  have HR : Hid (Rd w b A B D st) := h
  obtain ⟨hB, hbD, hDw, hf, h⟩ := h
  cases st with
  | none =>
    obtain ⟨h0, h1⟩ := h
    go_enter Tryd.func134, Tryd.ntmps134
    go_wp2
    go_ret
    exact ⟨rfl, grownBy_refl _ _⟩
  | some l =>
    obtain ⟨⟨v, h0, ⟨hl, _, a, c, rfl, _⟩, _⟩, h1⟩ := h
    unfold maxLen at hl
    cases l with
    | nil =>
      go_enter Tryd.func134, Tryd.ntmps134
      go_wp2
      go_ret
      exact ⟨rfl, grownBy_refl _ _⟩
    | cons x l =>
      have hp : (0 : Int) < (x :: l).length := by simp
      generalize hL : x :: l = L at *
      have hv : endV A (some L) = refV (A 5) 0 := by subst hL; rfl
      rw [hv]
      go_enter Tryd.func134, Tryd.ntmps134
      go_wp2_with (go_at_call 138; refine (refuse_any b w A B D (some L) hs HR.out).mono ?_; rintro e w1 ⟨⟨v, rfl⟩, hr, hg⟩; obtain ⟨_, _, _, _, q0, q1⟩ := hr)
      go_ret
      exact ⟨rfl, hg⟩
end Go.Proofs.YtjoflnnomebkpaaDoor

/-
  The check sum: the program's and the specification's, over one plain function of lists.
-/
namespace Go.Proofs.YtjoflnnomebkpaaDoor
open Go.RowKit
set_option linter.unusedVariables false

def stepN (r : Nat) : Nat := if r % 2 = 1 then (r / 2) ^^^ 3988292384 else r / 2
def stepsN : Nat → Nat → Nat
  | 0, r => r
  | n + 1, r => stepN (stepsN n r)
/-- the register behind the first k bytes -/
def crcSt (l : List Int) : Nat → Nat
  | 0 => 4294967295
  | k + 1 => stepsN 8 (crcSt l k ^^^ (l[k]?.getD 0).toNat)

theorem stepN_lt (q : Nat) (h : q < 4294967296) : stepN q < 4294967296 := by
  unfold stepN
  split
  · exact Nat.xor_lt_two_pow (n := 32) (by omega) (by decide)
  · omega
theorem stepsN_lt (n q : Nat) (h : q < 4294967296) : stepsN n q < 4294967296 := by
  induction n with
  | zero => exact h
  | succ n ih => exact stepN_lt _ ih
theorem xor_lt (a b : Nat) (ha : a < 4294967296) (hb : b < 4294967296) : a ^^^ b < 4294967296 := Nat.xor_lt_two_pow (n := 32) ha hb
theorem crcSt_lt (l : List Int) (h8 : ∀ x ∈ l, 0 ≤ x ∧ x ≤ 255) (k : Nat) : crcSt l k < 4294967296 := by
  induction k with
  | zero => exact (by decide : (4294967295 : Nat) < 4294967296)
  | succ k ih =>
    have := byte_at h8 k
    exact stepsN_lt _ _ (xor_lt _ _ ih (by omega))

theorem bit0 (q : Nat) (hq : q < 4294967296) : bits .and .u32 (q : Int) 1 = ((q % 2 : Nat) : Int) := by
  have := u32_and_nat q 1 hq (by decide)
  rw [Nat.and_one_is_mod] at this
  exact this
theorem i1 (q : Nat) (hq : q < 4294967296) (h : (bits .and .u32 (q : Int) 1 == 1) = true) : bits .xor .u32 ((q : Int) / 2) 3988292384 = ((stepN q : Nat) : Int) := by
  rw [bit0 q hq] at h
  have h' : q % 2 = 1 := by simp at h; omega
  have := u32_xor_nat (q / 2) 3988292384 (by omega) (by decide)
  rw [stepN, if_pos h']
  rw [← this]
  congr 1
theorem i0 (q : Nat) (hq : q < 4294967296) (h : (bits .and .u32 (q : Int) 1 == 1) = false) : (q : Int) / 2 = ((stepN q : Nat) : Int) := by
  rw [bit0 q hq] at h
  have h' : ¬ q % 2 = 1 := by simp at h; omega
  rw [stepN, if_neg h']
  rfl
theorem x0 (r : Nat) (c : Int) (hr : r < 4294967296) (h0 : 0 ≤ c) (h1 : c ≤ 255) : bits .xor .u32 (r : Int) c = ((r ^^^ c.toNat : Nat) : Int) := by
  have e : c = (c.toNat : Int) := by omega
  have := u32_xor_nat r c.toNat hr (by omega)
  rw [← e] at this
  exact this

theorem xor_max (r : Nat) (hr : r < 4294967296) : bits .xor .u32 (r : Int) 4294967295 = ((r ^^^ 4294967295 : Nat) : Int) := u32_xor_nat r 4294967295 hr (by decide)
theorem max_xor (r : Nat) (hr : r < 4294967296) : bits .xor .u32 IntKind.u32.max (r : Int) = ((r ^^^ 4294967295 : Nat) : Int) := by
  rw [Nat.xor_comm]
  exact u32_xor_nat 4294967295 r (by decide) hr

/-! the specification's step: its register is the program's, with the rest of the byte taken out again -/
theorem low_eq (S d r : Nat) (hr : r = S ^^^ d) (hr' : r < 4294967296) (hd : d < 4294967296) :
    bits .and .u32 (bits .xor .u32 (r : Int) (bits .and .u32 (d : Int) 1)) 1 = ((S % 2 : Nat) : Int) := by
  rw [bit0 d hd, u32_xor_nat r (d % 2) hr' (by omega), bit0 _ (xor_lt _ _ hr' (by omega))]
  congr 1
  subst hr
  have m2 : ∀ a b : Nat, (a ^^^ b) % 2 = (a % 2) ^^^ (b % 2) := fun a b => Nat.xor_mod_two_pow (n := 1)
  rw [m2, m2, Nat.mod_mod, Nat.xor_assoc, Nat.xor_self, Nat.xor_zero]
theorem half_xor (S d : Nat) : (S ^^^ d) / 2 = (S / 2) ^^^ (d / 2) := by
  have := Nat.shiftRight_xor_distrib (a := S) (b := d) (i := 1)
  simpa [Nat.shiftRight_eq_div_pow] using this
theorem half_pow (c j : Nat) : c / 2 ^ j / 2 = c / 2 ^ (j + 1) := by rw [Nat.div_div_eq_div_mul, Nat.pow_succ]
theorem byte_shift (c : Int) (j : Nat) (h0 : 0 ≤ c) (h1 : c ≤ 255) : c / 2 ^ j % 4294967296 = ((c.toNat / 2 ^ j : Nat) : Int) := by
  obtain ⟨n, rfl⟩ := Int.eq_ofNat_of_zero_le h0
  have h : n / 2 ^ j ≤ n := Nat.div_le_self _ _
  have e : ((n : Int) / 2 ^ j) = ((n / 2 ^ j : Nat) : Int) := by simp
  rw [e]
  simp only [Int.toNat_natCast]
  generalize n / 2 ^ j = d at h
  omega
theorem s1 (S c : Nat) (j : Nat) (lk : Int) (h0 : 0 ≤ lk) (h1 : lk ≤ 255) (hc : c = lk.toNat) (hS : S < 4294967296)
    (h : (bits .and .u32 (bits .xor .u32 ((S ^^^ c / 2 ^ j : Nat) : Int) (bits .and .u32 (lk / 2 ^ j % 4294967296) 1)) 1 == 1) = true) :
    bits .xor .u32 (((S ^^^ c / 2 ^ j : Nat) : Int) / 2) 3988292384 = ((stepN S ^^^ c / 2 ^ (j + 1) : Nat) : Int) := by
  have hd : c / 2 ^ j ≤ c := Nat.div_le_self _ _
  have hlt := xor_lt S (c / 2 ^ j) hS (by omega)
  rw [byte_shift lk j h0 h1, ← hc, low_eq S (c / 2 ^ j) _ rfl hlt (by omega)] at h
  have h' : S % 2 = 1 := by simp at h; omega
  rw [stepN, if_pos h', ← half_pow]
  have := u32_xor_nat ((S ^^^ c / 2 ^ j) / 2) 3988292384 (by omega) (by decide)
  rw [half_xor] at this
  have e : ((S ^^^ c / 2 ^ j : Nat) : Int) / 2 = (((S / 2) ^^^ (c / 2 ^ j / 2) : Nat) : Int) := by rw [← half_xor]; rfl
  rw [e]
  refine this.trans ?_
  congr 1
  rw [Nat.xor_assoc, Nat.xor_comm (c / 2 ^ j / 2), ← Nat.xor_assoc]
theorem s0 (S c : Nat) (j : Nat) (lk : Int) (h0 : 0 ≤ lk) (h1 : lk ≤ 255) (hc : c = lk.toNat) (hS : S < 4294967296)
    (h : (bits .and .u32 (bits .xor .u32 ((S ^^^ c / 2 ^ j : Nat) : Int) (bits .and .u32 (lk / 2 ^ j % 4294967296) 1)) 1 == 1) = false) :
    ((S ^^^ c / 2 ^ j : Nat) : Int) / 2 = ((stepN S ^^^ c / 2 ^ (j + 1) : Nat) : Int) := by
  have hd : c / 2 ^ j ≤ c := Nat.div_le_self _ _
  have hlt := xor_lt S (c / 2 ^ j) hS (by omega)
  rw [byte_shift lk j h0 h1, ← hc, low_eq S (c / 2 ^ j) _ rfl hlt (by omega)] at h
  have h' : ¬ S % 2 = 1 := by simp at h; omega
  rw [stepN, if_neg h', ← half_pow, ← half_xor]
  rfl
end Go.Proofs.YtjoflnnomebkpaaDoor

/-
  The walks of both Crc32 and of the law FnExactCrc32.
-/
namespace Go.Proofs.YtjoflnnomebkpaaDoor
open Go.RowKit
set_option linter.unusedVariables false

/-- the check sum -/
def crcOf (l : List Int) : Nat := crcSt l l.length ^^^ 4294967295

set_option maxHeartbeats 1000000 in
theorem implCrc_any (v : Value) (l : List Int) (w : World) (hv : Bs w v l) :
    Calls Tryd.prog 110 #[v] w fun e w' => e = .returned (.int .u32 (crcOf l : Nat)) ∧ w' = w := by
  obtain ⟨hl, h8, a, cap, rfl, hc⟩ := hv
  unfold maxLen at hl
  go_enter Tryd.func110, Tryd.ntmps110
  go_wp2
  go_loop [3, 9] (fun s i => ∃ k : Nat, k ≤ l.length ∧ i = .int .i64 k ∧ s = .int .u32 (crcSt l k : Nat)) (fun _ i => l.length - (intOf i).toNat)
  case atStart => exact ⟨0, Nat.zero_le _, rfl, rfl⟩
  case round =>
    obtain ⟨k, hk, rfl, rfl⟩ := hrel
    have hr := crcSt_lt l h8 k
    by_cases hlt : k < l.length
    · obtain ⟨b, off, rfl, hcell⟩ := hc k hlt
      have hck := hcell k hlt
      have h8k := byte_at h8 k
      have hx := x0 (crcSt l k) _ hr h8k.1 h8k.2
      have hS : Hid (crcSt l (k + 1) = stepsN 8 (crcSt l k ^^^ (l[k]?.getD 0).toNat)) := rfl
      have hs0 := xor_lt (crcSt l k) (l[k]?.getD 0).toNat hr (by omega)
      generalize hg : crcSt l k ^^^ (l[k]?.getD 0).toNat = s0 at hx hS hs0
      have eg : l[k]?.getD 0 = l[k] := by simp [hlt]
      rw [eg] at hx h8k hck
      clear hcell hc hg eg
      go_wp2
      go_loop [3, 17] (fun s i => ∃ j : Nat, j ≤ 8 ∧ i = .int .i64 j ∧ s = .int .u32 (stepsN j s0 : Nat)) (fun _ i => 8 - (intOf i).toNat)
      case atStart => exact ⟨0, by omega, rfl, by simp [stepsN]⟩
      case round =>
        obtain ⟨j, hj, rfl, rfl⟩ := hrel
        have hq := stepsN_lt j s0 hs0
        by_cases hlt' : j < 8
        · have H1 := i1 (stepsN j s0) hq
          have H0 := i0 (stepsN j s0) hq
          have HS : Hid (stepsN (j + 1) s0 = stepN (stepsN j s0)) := rfl
          generalize stepsN j s0 = q at HS hq H1 H0
          have K1 : Hid ((bits .and .u32 (q : Int) 1 == 1) = true → bits .xor .u32 ((q : Int) / 2) 3988292384 = ((stepN q : Nat) : Int)) := H1
          have K0 : Hid ((bits .and .u32 (q : Int) 1 == 1) = false → (q : Int) / 2 = ((stepN q : Nat) : Int)) := H0
          clear H1 H0
          go_wp2
          · go_round
            case rel => exact ⟨j + 1, by omega, by go_num, by rw [HS.out, ← K1.out (by assumption)]⟩
            case measure => simp [intOf]; omega
          · go_round
            case rel => exact ⟨j + 1, by omega, by go_num, by rw [HS.out, ← K0.out (by assumption)]⟩
            case measure => simp [intOf]; omega
        · have e8 : j = 8 := by omega
          subst e8
          go_wp2
          go_round
          case rel => exact ⟨k + 1, by omega, by go_num, by rw [hS.out]⟩
          case measure => simp [intOf]; omega
    · have e : k = l.length := by omega
      subst e
      have hm := max_xor _ hr
      go_wp2
      go_ret
      exact ⟨by simp [crcOf], rfl⟩

set_option maxHeartbeats 1000000 in
theorem specCrc_any (v : Value) (l : List Int) (w : World) (hv : Bs w v l) :
    Calls Tryd.prog 122 #[v] w fun e w' => e = .returned (.int .u32 (crcOf l : Nat)) ∧ w' = w := by
  obtain ⟨hl, h8, a, cap, rfl, hc⟩ := hv
  unfold maxLen at hl
  go_enter Tryd.func122, Tryd.ntmps122
  go_wp2
  go_loop [3, 4] (fun s i => ∃ k : Nat, k ≤ l.length ∧ i = .int .i64 k ∧ s = .int .u32 (crcSt l k : Nat)) (fun _ i => l.length - (intOf i).toNat)
  case atStart => exact ⟨0, Nat.zero_le _, rfl, rfl⟩
  case round =>
    obtain ⟨k, hk, rfl, rfl⟩ := hrel
    have hr := crcSt_lt l h8 k
    by_cases hlt : k < l.length
    · obtain ⟨b, off, rfl, hcell⟩ := hc k hlt
      have hck := hcell k hlt
      have h8k := byte_at h8 k
      have hS : Hid (crcSt l (k + 1) = stepsN 8 (crcSt l k ^^^ (l[k]?.getD 0).toNat)) := rfl
      have eg : l[k]?.getD 0 = l[k] := by simp [hlt]
      rw [eg] at h8k hck hS
      generalize hlk : l[k] = lk at h8k hck hS
      obtain ⟨b0, b1⟩ := h8k
      clear hcell hc eg
      go_wp2
      go_loop [3, 5] (fun s i => ∃ j : Nat, j ≤ 8 ∧ i = .int .i64 j ∧ s = .int .u32 ((stepsN j (crcSt l k ^^^ lk.toNat) ^^^ lk.toNat / 2 ^ j : Nat))) (fun _ i => 8 - (intOf i).toNat)
      case atStart => exact ⟨0, by omega, rfl, by simp [stepsN, Nat.xor_assoc]⟩
      case round =>
        obtain ⟨j, hj, rfl, rfl⟩ := hrel
        have hq := stepsN_lt j (crcSt l k ^^^ lk.toNat) (xor_lt _ _ hr (by omega))
        by_cases hlt' : j < 8
        · have HS : Hid (stepsN (j + 1) (crcSt l k ^^^ lk.toNat) = stepN (stepsN j (crcSt l k ^^^ lk.toNat))) := rfl
          generalize stepsN j (crcSt l k ^^^ lk.toNat) = S at HS hq
          have K1 : Hid _ := s1 S lk.toNat j lk b0 b1 rfl hq
          have K0 : Hid _ := s0 S lk.toNat j lk b0 b1 rfl hq
          have hXlt := xor_lt S (lk.toNat / 2 ^ j) hq (by have := Nat.div_le_self lk.toNat (2 ^ j); omega)
          generalize S ^^^ lk.toNat / 2 ^ j = X at K1 K0 hXlt
          go_wp2
          · go_round
            case rel => exact ⟨j + 1, by omega, by go_num, by rw [HS.out, ← K1.out (by assumption)]⟩
            case measure => simp [intOf]; omega
          · go_round
            case rel => exact ⟨j + 1, by omega, by go_num, by rw [HS.out, ← K0.out (by assumption)]⟩
            case measure => simp [intOf]; omega
        · have e8 : j = 8 := by omega
          subst e8
          have hz : lk.toNat / 2 ^ 8 = 0 := by omega
          rw [hz, Nat.xor_zero]
          go_wp2
          go_round
          case rel => exact ⟨k + 1, by omega, by go_num, by rw [hS.out]⟩
          case measure => simp [intOf]; omega
    · have e : k = l.length := by omega
      subst e
      have hm := xor_max _ hr
      go_wp2
      go_ret
      exact ⟨by simp [crcOf], rfl⟩
end Go.Proofs.YtjoflnnomebkpaaDoor

/-
  impl.within.
-/
namespace Go.Proofs.YtjoflnnomebkpaaDoor
open Go.RowKit
set_option linter.unusedVariables false

/-- in a range, as a Bool that the walk leaves whole -/
def inB (n lo hi : Int) : Bool := decide (lo ≤ n) && decide (n ≤ hi)
theorem inB_iff (n lo hi : Int) : inB n lo hi = true ↔ lo ≤ n ∧ n ≤ hi := by simp [inB]
theorem inB_not (n lo hi : Int) : inB n lo hi = false ↔ (n < lo ∨ hi < n) := by
  by_cases h1 : lo ≤ n <;> by_cases h2 : n ≤ hi <;> simp [inB, h1, h2] <;> omega

set_option maxHeartbeats 400000 in
theorem within_any (n lo hi : Int) (w : World) :
    Calls Tryd.prog 84 #[.int .i64 n, .int .i64 lo, .int .i64 hi] w fun e w' => e = .returned (.bool (inB n lo hi)) ∧ w' = w := by
  by_cases h1 : lo ≤ n
  · by_cases h2 : n ≤ hi
    · have hb : inB n lo hi = true := by simp [inB, h1, h2]
      rw [hb]
      go_enter Tryd.func84, Tryd.ntmps84
      go_wp2
      go_ret
      exact ⟨rfl, rfl⟩
    · have hb : inB n lo hi = false := by simp [inB, h1]; omega
      rw [hb]
      go_enter Tryd.func84, Tryd.ntmps84
      go_wp2
      go_ret
      exact ⟨by simp, rfl⟩
  · have hb : inB n lo hi = false := by simp [inB]; omega
    rw [hb]
    go_enter Tryd.func84, Tryd.ntmps84
    go_wp2
    go_ret
    exact ⟨rfl, rfl⟩

end Go.Proofs.YtjoflnnomebkpaaDoor

/-
  impl.wordAt, impl.openFrame.
-/
namespace Go.Proofs.YtjoflnnomebkpaaDoor
open Go.RowKit
set_option linter.unusedVariables false

/-- the word at a place, lowest byte first -/
def wordN (l : List Int) (i : Nat) : Int := l[i]?.getD 0 + l[i + 1]?.getD 0 * 256 + l[i + 2]?.getD 0 * 65536 + l[i + 3]?.getD 0 * 16777216

theorem or_u32 (k : Nat) (a b : Int) (ha : 0 ≤ a) (ha' : a < 2 ^ k) (hb : 0 ≤ b) (hb' : b ≤ 255) (hk : k ≤ 24) : bits .or .u32 a (b * 2 ^ k) = a + b * 2 ^ k := by
  obtain ⟨a, rfl⟩ := Int.eq_ofNat_of_zero_le ha
  obtain ⟨b, rfl⟩ := Int.eq_ofNat_of_zero_le hb
  have hp : 2 ^ k ≤ 2 ^ 24 := Nat.pow_le_pow_right (by decide) hk
  have h5 : (2 : Nat) ^ 24 = 16777216 := by decide
  have ha2 : a < 2 ^ k := by exact_mod_cast ha'
  have hm : b * 2 ^ k ≤ 255 * 2 ^ k := Nat.mul_le_mul_right _ (by omega)
  have e : (b : Int) * 2 ^ k = ((b * 2 ^ k : Nat) : Int) := by simp
  rw [e, u32_or_nat a (b * 2 ^ k) (by omega) (by omega), Nat.or_comm, nat_join k (b * 2 ^ k) a (Nat.mul_mod_left _ _) ha2]
  omega

set_option maxHeartbeats 2000000 in
set_option maxRecDepth 100000 in
theorem wordAt0 (v : Value) (l : List Int) (w : World) (hv : Bs w v l) (hl : 8 < l.length) :
    Calls Tryd.prog 131 #[v, .int .i64 0] w fun e w' => e = .returned (.int .u32 (wordN l 0)) ∧ Below w.heap.size w w' := by
  obtain ⟨hm, h8, a, cap, rfl, hc⟩ := hv
  obtain ⟨b, off, rfl, hcell⟩ := hc 0 (by omega)
  have c0 := hcell 0 (by omega)
  have c1 := hcell 1 (by omega)
  have c2 := hcell 2 (by omega)
  have c3 := hcell 3 (by omega)
  have b0 := byte_at h8 0
  have b1 := byte_at h8 1
  have b2 := byte_at h8 2
  have b3 := byte_at h8 3
  unfold wordN
  simp only [Nat.zero_add, Nat.add_zero] at *
  generalize l[0]?.getD 0 = x0 at *
  generalize l[1]?.getD 0 = x1 at *
  generalize l[2]?.getD 0 = x2 at *
  generalize l[3]?.getD 0 = x3 at *
  have o1 := or_u32 8 x0 x1 (by omega) (by omega) (by omega) (by omega) (by omega)
  have o2 := or_u32 16 (x0 + x1 * 256) x2 (by omega) (by omega) (by omega) (by omega) (by omega)
  have o3 := or_u32 24 (x0 + x1 * 256 + x2 * 65536) x3 (by omega) (by omega) (by omega) (by omega) (by omega)
  simp only [Int.reducePow] at o1 o2 o3
  clear hcell hc h8
  unfold maxLen at hm
  go_enter Tryd.func131, Tryd.ntmps131
  go_wp2
  go_quiet (fail)
  go_wp2
  go_ret
  exact ⟨rfl, rfl, rfl, rfl, Nat.le_refl _, fun _ _ => rfl⟩
set_option maxHeartbeats 2000000 in
set_option maxRecDepth 100000 in
theorem wordAt4 (v : Value) (l : List Int) (w : World) (hv : Bs w v l) (hl : 8 < l.length) :
    Calls Tryd.prog 131 #[v, .int .i64 4] w fun e w' => e = .returned (.int .u32 (wordN l 4)) ∧ Below w.heap.size w w' := by
  obtain ⟨hm, h8, a, cap, rfl, hc⟩ := hv
  obtain ⟨b, off, rfl, hcell⟩ := hc 0 (by omega)
  have c0 := hcell 4 (by omega)
  have c1 := hcell 5 (by omega)
  have c2 := hcell 6 (by omega)
  have c3 := hcell 7 (by omega)
  have b0 := byte_at h8 4
  have b1 := byte_at h8 5
  have b2 := byte_at h8 6
  have b3 := byte_at h8 7
  unfold wordN
  simp only [Nat.reduceAdd] at *
  generalize l[4]?.getD 0 = x0 at *
  generalize l[5]?.getD 0 = x1 at *
  generalize l[6]?.getD 0 = x2 at *
  generalize l[7]?.getD 0 = x3 at *
  have o1 := or_u32 8 x0 x1 (by omega) (by omega) (by omega) (by omega) (by omega)
  have o2 := or_u32 16 (x0 + x1 * 256) x2 (by omega) (by omega) (by omega) (by omega) (by omega)
  have o3 := or_u32 24 (x0 + x1 * 256 + x2 * 65536) x3 (by omega) (by omega) (by omega) (by omega) (by omega)
  simp only [Int.reducePow] at o1 o2 o3
  clear hcell hc h8
  unfold maxLen at hm
  go_enter Tryd.func131, Tryd.ntmps131
  go_wp2
  go_quiet (fail)
  go_wp2
  go_ret
  exact ⟨rfl, rfl, rfl, rfl, Nat.le_refl _, fun _ _ => rfl⟩

end Go.Proofs.YtjoflnnomebkpaaDoor

/-
  impl.openFrame.
-/
namespace Go.Proofs.YtjoflnnomebkpaaDoor
open Go.RowKit
set_option linter.unusedVariables false

/-- the code of a frame, but for its kind -/
def sumC (l : List Int) : Nat :=
  if ¬ (9 ≤ l.length ∧ l.length ≤ 16384) then 1
  else if wordN l 0 ≠ (l.length : Int) - 8 then 2
  else if wordN l 4 ≠ (crcOf (l.drop 8) : Nat) then 3 else 0

theorem sumC_len {l : List Int} (h : sumC l = 0) : 9 ≤ l.length ∧ l.length ≤ 16384 := by
  unfold sumC at h
  split at h
  · cases h
  · omega

set_option maxHeartbeats 4000000 in
set_option maxRecDepth 100000 in
theorem openFrame_any (a : Option Addr) (len c : Nat) (l : List Int) (w : World) (A : Nat → Addr) (B : Nat) (hs : Sents w A B) (hv : Bs w (.slice a len c) l) (hc : len ≤ c) (D : Nat) (hD : 0 < l.length → ∃ x, a = some x ∧ x.block < D) :
    Calls Tryd.prog 117 #[.slice a len c] w fun e w' =>
      e = .returned (if sumC l = 0 then .tuple #[sliced a 8 len c 1, .nilIface] else .tuple #[.slice none 0 0, refV (A (sumC l)) 0]) ∧ Below w.heap.size w w' := by
  have HV : Hid (Bs w (.slice a len c) l) := hv
  have el : len = l.length := by obtain ⟨_, _, _, _, e, _⟩ := hv; injection e
  have hml := hv.1
  unfold maxLen at hml
  subst el
  clear hv
  by_cases h1 : 9 ≤ l.length ∧ l.length ≤ 16384
  · have t1 : ∀ wx, (Instr.slice 22 (.slice a l.length c) (some (.int .i64 8)) none none).run Tryd.prog wx = .ok (sliced a 8 l.length c 1) wx := slice_l a l.length c 8 (by omega)
    have hin : inB l.length 9 16384 = true := by rw [inB_iff]; omega
    have hd := HV.out.drop hc hD 8 (by omega)
    obtain ⟨a2, n2, c2, e2, _, _⟩ := hd.2
    rw [e2] at t1 hd ⊢
    have e3 : n2 = l.length - 8 := by
      obtain ⟨_, _, _, _, e, _⟩ := hd.1
      injection e with _ e _
      rw [e, List.length_drop]
    subst e3
    have HD : Hid (Bs w (.slice a2 (l.length - 8) c2) (l.drop 8)) := hd.1
    clear hd e2
    have g2 := hs.g2
    have g3 := hs.g3
    have hsub : ((l.length - 8 : Nat) : Int) = (l.length : Int) - 8 := by omega
    have y1 : True := trivial
    have hcr : crcOf (l.drop 8) < 4294967296 := xor_lt _ _ (crcSt_lt (l.drop 8) HD.out.2.1 _) (by decide)
    have hS : sumC l = if wordN l 0 ≠ (l.length : Int) - 8 then 2 else if wordN l 4 ≠ (crcOf (l.drop 8) : Nat) then 3 else 0 := by
      unfold sumC
      rw [if_neg (fun h => h h1)]
    have HW0 : ∀ w' : World, Bs w' (.slice a l.length c) l → Hid (Calls Tryd.prog 131 #[.slice a l.length c, .int .i64 0] w' fun e w'' => e = .returned (.int .u32 (wordN l 0)) ∧ Below w'.heap.size w' w'') := fun w' h => wordAt0 _ l w' h (by omega)
    have HW4 : ∀ w' : World, Bs w' (.slice a l.length c) l → Hid (Calls Tryd.prog 131 #[.slice a l.length c, .int .i64 4] w' fun e w'' => e = .returned (.int .u32 (wordN l 4)) ∧ Below w'.heap.size w' w'') := fun w' h => wordAt4 _ l w' h (by omega)
    have HC : ∀ w' : World, Bs w' (.slice a2 (l.length - 8) c2) (l.drop 8) → Hid (Calls Tryd.prog 110 #[.slice a2 (l.length - 8) c2] w' fun e w'' => e = .returned (.int .u32 (crcOf (l.drop 8) : Nat)) ∧ w'' = w') := fun w' h => implCrc_any _ _ w' h
    generalize crcOf (l.drop 8) = cr at hcr hS HC
    generalize wordN l 0 = w0 at hS HW0
    generalize wordN l 4 = w4 at hS HW4
    by_cases h2 : w0 = (l.length : Int) - 8
    · by_cases h3 : w4 = (cr : Nat)
      · have hsc : sumC l = 0 := by simp [hS, h2, h3]
        rw [if_pos hsc]
        go_enter Tryd.func117, Tryd.ntmps117
        go_wp2_with (first
          | (go_at_call 84; refine (within_any _ _ _ _).mono ?_; rw [hin]; rintro e w1 ⟨rfl, rfl⟩)
          | (go_at_call 131; clear y1; refine (HW0 _ HV.out).out.mono ?_; rw [h2]; rintro e w1 ⟨rfl, hb1⟩)
          | (go_at_call 131; refine (HW4 _ (HV.out.below hb1)).out.mono ?_; rw [h3]; rintro e w2 ⟨rfl, hb2⟩; have hB := hb1.trans (hb2.mono hb1.size))
          | (go_at_call 110; refine (HC _ (HD.out.below hB)).out.mono ?_; rintro e w3 ⟨rfl, rfl⟩))
        go_ret2
        exact ⟨rfl, hB⟩
      · have hsc : sumC l = 3 := by simp [hS, h2, h3]
        rw [hsc]
        simp only [Nat.succ_ne_zero, if_false]
        have n3 : (w4 != (cr : Int)) = true := by simpa using h3
        go_enter Tryd.func117, Tryd.ntmps117
        go_wp2_with (first
          | (go_at_call 84; refine (within_any _ _ _ _).mono ?_; rw [hin]; rintro e w1 ⟨rfl, rfl⟩)
          | (go_at_call 131; clear y1; refine (HW0 _ HV.out).out.mono ?_; rw [h2]; rintro e w1 ⟨rfl, hb1⟩)
          | (go_at_call 131; refine (HW4 _ (HV.out.below hb1)).out.mono ?_; rintro e w2 ⟨rfl, hb2⟩; have hB := hb1.trans (hb2.mono hb1.size); have g3' := (hs.below hB).g3)
          | (go_at_call 110; refine (HC _ (HD.out.below hB)).out.mono ?_; rintro e w3 ⟨rfl, rfl⟩))
        go_quiet (fail)
        go_wp2
        go_ret2
        exact ⟨rfl, ⟨hB.os, hB.tape, hB.output, hB.size, hB.block⟩⟩
    · have hsc : sumC l = 2 := by simp [hS, h2]
      rw [hsc]
      simp only [Nat.succ_ne_zero, if_false]
      have n2 : (w0 != (l.length : Int) - 8) = true := by simpa using h2
      go_enter Tryd.func117, Tryd.ntmps117
      go_wp2_with (first
        | (go_at_call 84; refine (within_any _ _ _ _).mono ?_; rw [hin]; rintro e w1 ⟨rfl, rfl⟩)
        | (go_at_call 131; clear y1; refine (HW0 _ HV.out).out.mono ?_; rintro e w1 ⟨rfl, hb1⟩; have g2' := (hs.below hb1).g2))
      go_quiet (fail)
      go_wp2
      go_ret2
      exact ⟨rfl, ⟨hb1.os, hb1.tape, hb1.output, hb1.size, hb1.block⟩⟩
  · have hsc : sumC l = 1 := by simp [sumC, h1]
    rw [hsc]
    simp only [Nat.succ_ne_zero, if_false]
    have hin : inB l.length 9 16384 = false := by rw [inB_not]; omega
    have g1 := hs.g1
    go_enter Tryd.func117, Tryd.ntmps117
    go_wp2_with (go_at_call 84; refine (within_any _ _ _ _).mono ?_; rw [hin]; rintro e w1 ⟨rfl, rfl⟩)
    go_quiet (fail)
    go_wp2
    go_ret2
    exact ⟨rfl, rfl, rfl, rfl, Nat.le_refl _, fun _ _ => rfl⟩
end Go.Proofs.YtjoflnnomebkpaaDoor

/-
  Codes and faults of a frame.
-/
namespace Go.Proofs.YtjoflnnomebkpaaDoor
open Go.RowKit
set_option linter.unusedVariables false
set_option linter.unusedSimpArgs false

theorem Bs.lt {w : World} {a : Option Addr} {n c : Nat} {l : List Int} (h : Bs w (.slice a n c) l) (hp : 0 < l.length) : ∃ x, a = some x ∧ x.block < w.heap.size := by
  obtain ⟨_, _, a', c', e, hcell⟩ := h
  injection e with e1 e2 e3
  subst e1
  obtain ⟨b, off, rfl, hj⟩ := hcell 0 hp
  exact ⟨_, rfl, cell_lt (hj 0 hp)⟩

/-- the code of a frame for the kinds lo .. hi, but for its rest -/
def openC (l : List Int) (lo hi : Int) : Nat := if sumC l ≠ 0 then sumC l else if inB (l[8]?.getD 0) lo hi = false then 4 else 0
theorem openC_le (l : List Int) (lo hi : Int) : openC l lo hi ≤ 4 := by
  unfold openC sumC
  repeat' split
  all_goals omega

/-- code and fault of a frame: what is left of its body, and the fault of its value -/
def decC (l : List Int) (lo hi : Int) (left : RSt) (f : Int) : Nat × Int :=
  if openC l lo hi ≠ 0 then (openC l lo hi, 0) else if left ≠ some [] then (5, 0) else if f ≠ 0 then (6, f) else (0, 0)
theorem decC_le (l : List Int) (lo hi : Int) (left : RSt) (f : Int) : (decC l lo hi left f).1 ≤ 6 := by
  have := openC_le l lo hi
  unfold decC
  repeat' split
  all_goals simp <;> omega
theorem decC_zero {l : List Int} {lo hi : Int} {left : RSt} {f : Int} (h : (decC l lo hi left f).1 = 0) : openC l lo hi = 0 ∧ left = some [] ∧ f = 0 := by
  unfold decC at h
  split at h
  · next h' => exact absurd h h'
  · next h' =>
    split at h
    · cases h
    · next h'' =>
      split at h
      · cases h
      · next h3 => exact ⟨Decidable.not_not.1 h', Decidable.not_not.1 h'', Decidable.not_not.1 h3⟩

theorem grown_of_below {w w' : World} (h : Below w.heap.size w w') (row : Option Nat) : w.grownBy w' row := ⟨h.os, h.tape, h.output, h.size, fun k hk _ => h.block k hk⟩

end Go.Proofs.YtjoflnnomebkpaaDoor

/-
  impl.reader: cmd.
-/
namespace Go.Proofs.YtjoflnnomebkpaaDoor
open Go.RowKit
set_option linter.unusedVariables false
set_option linter.unusedSimpArgs false

/-- what a command reads as, and what is left -/
structure CmdR where
  cl : Nat
  sq : Nat
  op : Nat
  k : ByteArray
  v : ByteArray
  o : ByteArray
  left : RSt

def rdCmd (s : RSt) : CmdR :=
  let a := rdNum s
  let b := rdNum a.2
  let c := rdNum b.2
  let d := rdText c.2
  let e := rdText d.2
  let f := rdText e.2
  ⟨a.1, b.1, c.1, d.1, e.1, f.1, f.2⟩

def cmdV (r : CmdR) : Value := .agg #[.int .i64 (r.cl : Nat), .int .i64 (r.sq : Nat), .int .i64 (r.op : Nat), .string r.k, .string r.v, .string r.o]

theorem rdCmd_k (s : RSt) : (rdCmd s).k.size ≤ 64 := rdText_size _
theorem rdCmd_v (s : RSt) : (rdCmd s).v.size ≤ 64 := rdText_size _
theorem rdCmd_o (s : RSt) : (rdCmd s).o.size ≤ 64 := rdText_size _

set_option maxHeartbeats 4000000 in
set_option maxRecDepth 100000 in
theorem cmd_any (b : Nat) (w : World) (A : Nat → Addr) (B D : Nat) (st : RSt) (hs : Sents w A B) (h : Rd w b A B D st) :
    Calls Tryd.prog 139 #[.pointer (some ⟨b, 0, none⟩)] w fun e w' => e = .returned (cmdV (rdCmd st)) ∧ Rd w' b A B D (rdCmd st).left ∧ w.grownBy w' (some b) := by
  have HN : ∀ w st, Sents w A B → Rd w b A B D st → Hid (Calls Tryd.prog 132 #[.pointer (some ⟨b, 0, none⟩)] w fun e w' => e = .returned (.int .i64 ((rdNum st).1 : Nat)) ∧ Sents w' A B ∧ Rd w' b A B D (rdNum st).2 ∧ w.grownBy w' (some b)) := fun w st hs h => number_s b w A B D st hs h
  have HT : ∀ w st, Sents w A B → Rd w b A B D st → Hid (Calls Tryd.prog 141 #[.pointer (some ⟨b, 0, none⟩)] w fun e w' => e = .returned (.string (rdText st).1) ∧ Sents w' A B ∧ Rd w' b A B D (rdText st).2 ∧ w.grownBy w' (some b)) := fun w st hs h => text_s b w A B D st hs h
  have hB0 := h.1
  have hbD := h.2.1
  have hDw := h.2.2.1
  have HR : Hid (Rd w b A B D st) := h
  have HS : Hid (Sents w A B) := hs
  clear h hs
  have y1 : True := trivial
  have y2 : True := trivial
  have y3 : True := trivial
  have y4 : True := trivial
  have y5 : True := trivial
  have y6 : True := trivial
  go_enter Tryd.func139, Tryd.ntmps139
  go_wp2_with (first
    | (go_at_call 132; clear y1; refine Calls.mono (HN _ _ (HS.out.kept (((Below.refl _ _).alloc (by omega) _).alloc (by simp; omega) _)) (HR.out.below (((Below.refl _ _).alloc (by omega) _).alloc (by simp; omega) _))).out ?_; rintro e w1 ⟨rfl, hs, hr, hg⟩; obtain ⟨cc, cf⟩ := grown_cell (q := w.heap.size + 1) hg (by simp [World.setCell] <;> omega) (by omega); obtain ⟨dc, df⟩ := grown_cell (q := w.heap.size) hg (by simp [World.setCell] <;> omega) (by omega); have hG : w.grownBy w1 (some b) := grownBy_trans (grown_alloc (grown_alloc (grownBy_refl w (some b)) _) _) hg; have hz := hG.size; have hz2 : w.heap.size + 1 < w1.heap.size := (by have := hg.size; simp [World.setCell] at this; omega))
    | (go_at_call 132; clear y2; refine Calls.mono (HN _ _ (hs.kept ((Below.refl _ _).setCell (show _ ≤ w.heap.size + 1 by omega) _)) (hr.below ((Below.refl _ _).setCell (show _ ≤ w.heap.size + 1 by omega) _))).out ?_; rintro e w2 ⟨rfl, hs, hr, hg⟩; obtain ⟨cc, cf⟩ := grown_cell (q := w.heap.size + 1) hg (by simp [World.setCell] <;> omega) (by omega); obtain ⟨dc, df⟩ := grown_cell (q := w.heap.size) hg (by simp [World.setCell] <;> omega) (by omega); have hG : w.grownBy w2 (some b) := grownBy_trans (grown_setNew hG (w.heap.size + 1) _ _ (by omega)) hg; have hz := hG.size; have hz2 : w.heap.size + 1 < w2.heap.size := (by have := hg.size; simp [World.setCell] at this; omega))
    | (go_at_call 132; clear y3; refine Calls.mono (HN _ _ (hs.kept ((Below.refl _ _).setCell (show _ ≤ w.heap.size + 1 by omega) _)) (hr.below ((Below.refl _ _).setCell (show _ ≤ w.heap.size + 1 by omega) _))).out ?_; rintro e w3 ⟨rfl, hs, hr, hg⟩; obtain ⟨cc, cf⟩ := grown_cell (q := w.heap.size + 1) hg (by simp [World.setCell] <;> omega) (by omega); obtain ⟨dc, df⟩ := grown_cell (q := w.heap.size) hg (by simp [World.setCell] <;> omega) (by omega); have hG : w.grownBy w3 (some b) := grownBy_trans (grown_setNew hG (w.heap.size + 1) _ _ (by omega)) hg; have hz := hG.size; have hz2 : w.heap.size + 1 < w3.heap.size := (by have := hg.size; simp [World.setCell] at this; omega))
    | (go_at_call 141; clear y4; refine Calls.mono (HT _ _ (hs.kept ((Below.refl _ _).setCell (show _ ≤ w.heap.size + 1 by omega) _)) (hr.below ((Below.refl _ _).setCell (show _ ≤ w.heap.size + 1 by omega) _))).out ?_; rintro e w4 ⟨rfl, hs, hr, hg⟩; obtain ⟨cc, cf⟩ := grown_cell (q := w.heap.size + 1) hg (by simp [World.setCell] <;> omega) (by omega); obtain ⟨dc, df⟩ := grown_cell (q := w.heap.size) hg (by simp [World.setCell] <;> omega) (by omega); have hG : w.grownBy w4 (some b) := grownBy_trans (grown_setNew hG (w.heap.size + 1) _ _ (by omega)) hg; have hz := hG.size; have hz2 : w.heap.size + 1 < w4.heap.size := (by have := hg.size; simp [World.setCell] at this; omega))
    | (go_at_call 141; clear y5; refine Calls.mono (HT _ _ (hs.kept ((Below.refl _ _).setCell (show _ ≤ w.heap.size + 1 by omega) _)) (hr.below ((Below.refl _ _).setCell (show _ ≤ w.heap.size + 1 by omega) _))).out ?_; rintro e w5 ⟨rfl, hs, hr, hg⟩; obtain ⟨cc, cf⟩ := grown_cell (q := w.heap.size + 1) hg (by simp [World.setCell] <;> omega) (by omega); obtain ⟨dc, df⟩ := grown_cell (q := w.heap.size) hg (by simp [World.setCell] <;> omega) (by omega); have hG : w.grownBy w5 (some b) := grownBy_trans (grown_setNew hG (w.heap.size + 1) _ _ (by omega)) hg; have hz := hG.size; have hz2 : w.heap.size + 1 < w5.heap.size := (by have := hg.size; simp [World.setCell] at this; omega))
    | (go_at_call 141; clear y6; refine Calls.mono (HT _ _ (hs.kept ((Below.refl _ _).setCell (show _ ≤ w.heap.size + 1 by omega) _)) (hr.below ((Below.refl _ _).setCell (show _ ≤ w.heap.size + 1 by omega) _))).out ?_; rintro e w6 ⟨rfl, hs, hr, hg⟩; obtain ⟨cc, cf⟩ := grown_cell (q := w.heap.size + 1) hg (by simp [World.setCell] <;> omega) (by omega); obtain ⟨dc, df⟩ := grown_cell (q := w.heap.size) hg (by simp [World.setCell] <;> omega) (by omega); have hG : w.grownBy w6 (some b) := grownBy_trans (grown_setNew hG (w.heap.size + 1) _ _ (by omega)) hg; have hz := hG.size; have hz2 : w.heap.size + 1 < w6.heap.size := (by have := hg.size; simp [World.setCell] at this; omega)))
  exact bodyPost_ret (v := cmdV (rdCmd st)) (by simp [results, Tryd.results139, go_sem, cmdV, rdCmd, *]) rfl ⟨rfl, hr.below ((((((((Below.refl _ _).setCell (show _ ≤ w.heap.size + 1 by omega) _).setCell (show _ ≤ w.heap.size by omega) _).setCell (show _ ≤ w.heap.size by omega) _).setCell (show _ ≤ w.heap.size by omega) _).setCell (show _ ≤ w.heap.size by omega) _).setCell (show _ ≤ w.heap.size by omega) _).setCell (show _ ≤ w.heap.size by omega) _), grown_setNew (grown_setNew (grown_setNew (grown_setNew (grown_setNew (grown_setNew (grown_setNew hG (w.heap.size + 1) _ _ (by omega)) w.heap.size _ _ (by omega)) w.heap.size _ _ (by omega)) w.heap.size _ _ (by omega)) w.heap.size _ _ (by omega)) w.heap.size _ _ (by omega)) w.heap.size _ _ (by omega)⟩
end Go.Proofs.YtjoflnnomebkpaaDoor

/-
  Slices of entries: what a slice value holds.
-/
namespace Go.Proofs.YtjoflnnomebkpaaDoor
open Go.RowKit
set_option linter.unusedVariables false

/-- an entry -/
structure Ent where
  t : Int
  cl : Int
  sq : Int
  op : Int
  k : ByteArray
  v : ByteArray
  o : ByteArray

def Ent.fits (e : Ent) : Prop := e.k.size ≤ maxLen ∧ e.v.size ≤ maxLen ∧ e.o.size ≤ maxLen

/-- the seven cells of an entry -/
def EntAt (w : World) (b off : Nat) (e : Ent) : Prop :=
  w.cell? ⟨b, off, none⟩ = some (.int .i64 e.t) ∧ w.cell? ⟨b, off + 1, none⟩ = some (.int .i64 e.cl) ∧ w.cell? ⟨b, off + 2, none⟩ = some (.int .i64 e.sq) ∧ w.cell? ⟨b, off + 3, none⟩ = some (.int .i64 e.op) ∧
  w.cell? ⟨b, off + 4, none⟩ = some (.string e.k) ∧ w.cell? ⟨b, off + 5, none⟩ = some (.string e.v) ∧ w.cell? ⟨b, off + 6, none⟩ = some (.string e.o)

theorem EntAt.below {w w' : World} {b off : Nat} {e : Ent} (h : EntAt w b off e) (hb : Below w.heap.size w w') : EntAt w' b off e := by
  obtain ⟨h0, h1, h2, h3, h4, h5, h6⟩ := h
  have hl := cell_lt h0
  exact ⟨(hb.cell hl).trans h0, (hb.cell hl).trans h1, (hb.cell hl).trans h2, (hb.cell hl).trans h3, (hb.cell hl).trans h4, (hb.cell hl).trans h5, (hb.cell hl).trans h6⟩

/-- the slice value v holds, in the world w, the entries l -/
def Es (w : World) (v : Value) (l : List Ent) : Prop :=
  l.length ≤ maxLen ∧ (∀ e ∈ l, e.fits) ∧
  ∃ a cap, v = .slice a l.length cap ∧ ∀ i, i < l.length → ∃ b off, a = some ⟨b, off, none⟩ ∧ ∀ j (h : j < l.length), EntAt w b (off + j * 7) l[j]

theorem Es.below {w w' : World} {v : Value} {l : List Ent} (h : Es w v l) (hb : Below w.heap.size w w') : Es w' v l := by
  obtain ⟨hl, hf, a, cap, rfl, hc⟩ := h
  refine ⟨hl, hf, a, cap, rfl, fun i hi => ?_⟩
  obtain ⟨b, off, rfl, hj⟩ := hc i hi
  exact ⟨b, off, rfl, fun j hj' => (hj j hj').below hb⟩

theorem Es.block {w w' : World} {g n cap : Nat} {l : List Ent} (h : Es w (.slice (some ⟨g, 0, none⟩) n cap) l) (hb : w'.heap[g]? = w.heap[g]?) : Es w' (.slice (some ⟨g, 0, none⟩) n cap) l := by
  obtain ⟨hl, hf, a, cap', e, hc⟩ := h
  refine ⟨hl, hf, a, cap', e, fun i hi => ?_⟩
  obtain ⟨b, off, rfl, hj⟩ := hc i hi
  simp only [Value.slice.injEq, Option.some.injEq, Addr.mk.injEq, and_true] at e
  obtain ⟨⟨rfl, rfl⟩, _⟩ := e
  have hcc : ∀ o, w'.cell? ⟨g, o, none⟩ = w.cell? ⟨g, o, none⟩ := fun o => World.cell?_of_block (w := w) hb
  refine ⟨g, 0, rfl, fun j hj' => ?_⟩
  obtain ⟨h0, h1, h2, h3, h4, h5, h6⟩ := hj j hj'
  exact ⟨(hcc _).trans h0, (hcc _).trans h1, (hcc _).trans h2, (hcc _).trans h3, (hcc _).trans h4, (hcc _).trans h5, (hcc _).trans h6⟩
end Go.Proofs.YtjoflnnomebkpaaDoor

/-
  Slices of entries that the call itself owns; append to them.
-/
namespace Go.Proofs.YtjoflnnomebkpaaDoor
open Go.RowKit
set_option linter.unusedVariables false

theorem infoEnt : (Tryd.prog.info? 92).map (fun i => (i.zero, i.size, i.bytes)) = some (some (.agg #[.int .i64 0, .int .i64 0, .int .i64 0, .int .i64 0, .string ⟨#[]⟩, .string ⟨#[]⟩, .string ⟨#[]⟩]), 7, 80) := by kernel_rfl

def Ent.cells (e : Ent) : List Value := [.int .i64 e.t, .int .i64 e.cl, .int .i64 e.sq, .int .i64 e.op, .string e.k, .string e.v, .string e.o]
def entCells : List Ent → List Value
  | [] => []
  | e :: l => e.cells ++ entCells l
theorem entCells_app (l k : List Ent) : entCells (l ++ k) = entCells l ++ entCells k := by
  induction l with
  | nil => rfl
  | cons e l ih => rw [List.cons_append, entCells, ih, entCells, List.append_assoc]
theorem entCells_len (l : List Ent) : (entCells l).length = l.length * 7 := by
  induction l with
  | nil => rfl
  | cons e l ih => rw [entCells, List.length_append, ih, List.length_cons]; simp [Ent.cells]; omega
theorem entCells_get (l : List Ent) : ∀ (j : Nat) (h : j < l.length) (i : Nat), i < 7 → (entCells l)[j * 7 + i]? = l[j].cells[i]? := by
  induction l with
  | nil => intro j h; simp at h
  | cons e l ih =>
    intro j h i hi
    have h7 : e.cells.length = 7 := rfl
    cases j with
    | zero => rw [entCells, List.getElem?_append_left (by rw [h7]; omega)]; simp
    | succ j =>
      rw [entCells, List.getElem?_append_right (by rw [h7]; omega), h7, show (j + 1) * 7 + i - 7 = j * 7 + i by omega, ih j (by simpa using h) i hi]
      simp

/-- the slice value v, in memory from block B on that is the call's own, holds the entries l -/
def OwnE (w : World) (B : Nat) (v : Value) (l : List Ent) : Prop :=
  (∀ e ∈ l, e.fits) ∧ w.ownsRow B 92 7 v l.length (entCells l)

theorem OwnE.nil (w : World) (B : Nat) : OwnE w B (.slice none 0 0) [] := ⟨by simp, World.ownsRow_nil w B _ 7⟩
theorem OwnE.made (w : World) (B : Nat) (hB : B ≤ w.heap.size) : OwnE (w.alloc (.cells #[] 92)) B (.slice (some ⟨w.heap.size, 0, none⟩) 0 0) [] :=
  ⟨by simp, World.ownsRow_made w #[] 0 hB (by decide) (by simp)⟩
theorem OwnE.shape {w : World} {B : Nat} {v : Value} {l : List Ent} (h : OwnE w B v l) : ∃ a cap, v = .slice a l.length cap := by
  rcases h.2.2 with ⟨rfl, h0⟩ | ⟨g, cap, cur, rfl, _⟩
  · exact ⟨none, 0, by rw [h0]⟩
  · exact ⟨_, _, rfl⟩
theorem OwnE.shape' {w : World} {B : Nat} {v : Value} {l : List Ent} (h : OwnE w B v l) (hl : 0 < l.length) : ∃ g cap, v = .slice (some ⟨g, 0, none⟩) l.length cap := by
  rcases h.2.2 with ⟨rfl, h0⟩ | ⟨g, cap, cur, rfl, _⟩
  · omega
  · exact ⟨_, _, rfl⟩
theorem OwnE.le {w : World} {B B' : Nat} {v : Value} {l : List Ent} (h : OwnE w B v l) (hb : B' ≤ B) : OwnE w B' v l := by
  refine ⟨h.1, h.2.1, ?_⟩
  rcases h.2.2 with h | ⟨g, cap, cur, hv, hg, r⟩
  · exact .inl h
  · exact .inr ⟨g, cap, cur, hv, Nat.le_trans hb hg, r⟩
theorem OwnE.block {w w' : World} {B : Nat} {v : Value} {l : List Ent} (h : OwnE w B v l) (hb : ∀ k, v.ownBlock = some k → w'.heap[k]? = w.heap[k]?) : OwnE w' B v l := by
  refine ⟨h.1, h.2.1, ?_⟩
  rcases h.2.2 with h | ⟨g, cap, cur, hv, hg, hh, r⟩
  · exact .inl h
  · subst hv
    exact .inr ⟨g, cap, cur, rfl, hg, (hb g rfl).trans hh, r⟩
theorem OwnE.below {w w' : World} {B : Nat} {v : Value} {l : List Ent} (h : OwnE w B v l) (hb : Below w.heap.size w w') : OwnE w' B v l :=
  h.block fun k hk => hb.block k (h.2.lt k hk).2
/-- .. through a call that writes in one block that is older -/
theorem OwnE.grown {w w' : World} {B b : Nat} {v : Value} {l : List Ent} (h : OwnE w B v l) (hg : w.grownBy w' (some b)) (hb : b < B) : OwnE w' B v l :=
  h.block fun k hk => hg.block k (h.2.lt k hk).2 (by intro e; injection e with e; have := (h.2.lt k hk).1; omega)
theorem OwnE.es {w : World} {B : Nat} {v : Value} {l : List Ent} (h : OwnE w B v l) (hl : l.length ≤ maxLen) : Es w v l := by
  obtain ⟨a, cap, rfl⟩ := h.shape
  refine ⟨hl, h.1, a, cap, rfl, fun i hi => ?_⟩
  obtain ⟨g, cap', e⟩ := h.shape' (by omega)
  simp only [Value.slice.injEq] at e
  obtain ⟨rfl, _, rfl⟩ := e
  refine ⟨g, 0, rfl, fun j hj => ?_⟩
  have c : ∀ i, i < 7 → w.cell? ⟨g, j * 7 + i, none⟩ = l[j].cells[i]? := fun i hi => by
    rw [h.2.cellAt (j * 7 + i) (by omega)]
    exact entCells_get l j hj i hi
  rw [Nat.zero_add]
  exact ⟨c 0 (by omega), c 1 (by omega), c 2 (by omega), c 3 (by omega), c 4 (by omega), c 5 (by omega), c 6 (by omega)⟩

theorem growE {B : Nat} {w w' : World} {v v' : Value} {l : List Ent} (h : Grew w v w' v') (hown : OwnE w B v l) (hB : B ≤ w.heap.size) : Below B w w' :=
  (Below.refl _ _).grown h.g hB (fun k hk => (hown.2.lt k hk).1)

set_option maxRecDepth 100000 in
theorem wpl_appendE {w : World} {ops : Array Oper} {rest : List Oper} {o : Oper} {a : Act} {Q : Exit → Act → World → Prop} (hgd : o.guard = none) (s x : Operand)
    (ho : o.op = .call { callee := .builtin .append, args := #[s, x], argTypes := #[37, 37] })
    {B : Nat} {v : Value} {l : List Ent} (e : Ent) (hf : e.fits) (hown : OwnE w B v l) (hs : a.eval s = v) (b c : Nat) (hu : EntAt w b 0 e) (hx : a.eval x = .slice (some ⟨b, 0, none⟩) 1 c) (hlen : l.length ≤ 1000000) (hB : B ≤ w.heap.size)
    (h : ∀ v' w', OwnE w' B v' (l ++ [e]) → Grew w v w' v' → wpList Tryd.prog ops Q rest (a.put o.dst v') w') : wpList Tryd.prog ops Q (o :: rest) a w := by
  obtain ⟨i0, hi, hz0, hz1, hz2⟩ := info_parts infoEnt
  obtain ⟨u0, u1, u2, u3, u4, u5, u6⟩ := hu
  refine wpList_append_own_at w hgd s x 37 ho B 92 i0 _ 7 80 Tryd.underlying37 hi hz0 hz1 hz2 rfl (by decide) v l.length _ hs hown.2 ⟨b, 0, none⟩ 1 c e.cells hx rfl ?_ ?_ (by unfold maxLen; omega) (by omega) hB ?_
  · intro j u hj
    rw [cell_add, Nat.zero_add]
    have hj7 : j < 7 := (List.getElem?_eq_some_iff.1 hj).1
    rcases (show j = 0 ∨ j = 1 ∨ j = 2 ∨ j = 3 ∨ j = 4 ∨ j = 5 ∨ j = 6 by omega) with rfl | rfl | rfl | rfl | rfl | rfl | rfl
    · exact u0.trans hj
    · exact u1.trans hj
    · exact u2.trans hj
    · exact u3.trans hj
    · exact u4.trans hj
    · exact u5.trans hj
    · exact u6.trans hj
  · intro u hu
    simp only [Ent.cells, List.mem_cons, List.not_mem_nil, or_false] at hu
    rcases hu with rfl | rfl | rfl | rfl | rfl | rfl | rfl <;> rfl
  · intro v' w' h2 h3 _ h5
    refine h v' w' ⟨fun y hy => ?_, by rw [entCells_app]; simpa [entCells] using h2⟩ ⟨h3, h5.imp id fun e => ⟨_, e, Nat.le_refl _⟩⟩
    rcases List.mem_append.1 hy with hy | hy
    · exact hown.1 y hy
    · rw [List.mem_singleton.1 hy]; exact hf
end Go.Proofs.YtjoflnnomebkpaaDoor

/-
  Stores into new blocks; results out of a cell.
-/
namespace Go.Proofs.YtjoflnnomebkpaaDoor
open Go.RowKit
set_option linter.unusedVariables false
set_option linter.unusedSimpArgs false

theorem below_setCells {B g : Nat} {w0 : World} (hg : B ≤ g) : ∀ (vs : List Value) (o : Nat) (w : World), Below B w0 w → Below B w0 (w.setCells g o vs)
  | [], _, _, h => h
  | v :: vs, o, w, h => below_setCells hg vs (o + 1) _ (h.setCell (show B ≤ (⟨g, o, none⟩ : Addr).block from hg) v)

theorem wpl_store_new {w : World} {ops : Array Oper} {rest : List Oper} {o : Oper} {a : Act} {Q : Exit → Act → World → Prop} (hgd : o.guard = none) (ty : TypeId) (x y : Operand) (ho : o.op = .store ty x y)
    (c c' : Array Value) (hx : a.eval x = .pointer (some ⟨w.heap.size, 0, none⟩)) (hy : a.eval y = .agg c') (hi : (Tryd.prog.info? ty).map (·.size) = some c'.size) (hc : c.size = c'.size) (h1 : c'.all (·.oneCell') = true)
    (h : wpList Tryd.prog ops Q rest (a.put o.dst undef) (w.alloc (.cells c' ty))) : wpList Tryd.prog ops Q (o :: rest) a (w.alloc (.cells c ty)) :=
  wpList_plain hgd fun K hK => by
    unfold Oper.wp execOp
    simp only [ho, hx, hy, Sem.run_bind, Sem.run_pure, Result.andThen_ok, run_storeAt_new w ty c c' hi hc h1]
    exact hK _ _ h

theorem range_new (w : World) (cs : List Value) (t : TypeId) : (w.alloc (.cells cs.toArray t)).rangeAt w.heap.size 0 cs := by
  intro j v hj
  rw [Nat.zero_add, World.cell?_alloc_new]
  simpa using hj

theorem results_cell {fn : Func} {t : Tmp} {ty : TypeId} {tmps : Array Value} {a : Addr} {w : World} {v : Value} (hr : fn.results = #[.cell t ty]) (ht : tmps.getD t undef = .pointer (some a))
    (hl : (loadVar ty a).run Tryd.prog w = .ok v w) : (results fn tmps).run Tryd.prog w = .ok v w := by
  have e : tmps[t]?.getD undef = .pointer (some a) := by rw [← ht]; simp
  simp [results, hr, e, hl, asAddr]

/-- a variable that the call itself made is there still -/
theorem there_new {w w2 : World} {cs : Array Value} {t : TypeId} (hb : Below (w.alloc (.cells cs t)).heap.size (w.alloc (.cells cs t)) w2) (hlt : w.heap.size < w2.heap.size) (o : Obj) : (w2.alloc o).there w.heap.size 0 cs.size := by
  intro j hj
  have c := hb.cell (p := ⟨w.heap.size, 0 + j, none⟩) (by simp)
  have f := hb.frozen (p := ⟨w.heap.size, 0 + j, none⟩) (by simp)
  rw [World.cell?_alloc_lt _ _ ⟨w.heap.size, 0 + j, none⟩ hlt, World.frozen?_alloc_old _ _ ⟨w.heap.size, 0 + j, none⟩ (Nat.ne_of_lt hlt), c, f]
  simp [hj]
end Go.Proofs.YtjoflnnomebkpaaDoor

/-
  Gates: so that an arm is tried at its own operation alone.
-/
namespace Go.Proofs.YtjoflnnomebkpaaDoor
open Go.RowKit
set_option linter.unusedVariables false

theorem gate_store {P : Program} {w : World} {ops : Array Oper} {rest : List Oper} {o : Oper} {a : Act} {Q : Exit → Act → World → Prop} (ty : TypeId) (x y : Operand) (ho : o.op = .store ty x y)
    (h : wpList P ops Q (o :: rest) a w) : wpList P ops Q (o :: rest) a w := h
theorem gate_load {P : Program} {w : World} {ops : Array Oper} {rest : List Oper} {o : Oper} {a : Act} {Q : Exit → Act → World → Prop} (ty : TypeId) (x : Operand) (ho : o.op = .load ty x)
    (h : wpList P ops Q (o :: rest) a w) : wpList P ops Q (o :: rest) a w := h
theorem range_app {w : World} {b o : Nat} {xs ys : List Value} : w.rangeAt b o (xs ++ ys) ↔ w.rangeAt b o xs ∧ w.rangeAt b (o + xs.length) ys := by
  constructor
  · intro h
    refine ⟨fun j v hj => h j v ?_, fun j v hj => ?_⟩
    · rw [List.getElem?_append_left (List.getElem?_eq_some_iff.1 hj).1]; exact hj
    · have := h (xs.length + j) v (by rw [List.getElem?_append_right (by omega)]; simpa using hj)
      rwa [← Nat.add_assoc] at this
  · rintro ⟨h1, h2⟩ j v hj
    rcases Nat.lt_or_ge j xs.length with h | h
    · rw [List.getElem?_append_left h] at hj
      exact h1 j v hj
    · rw [List.getElem?_append_right h] at hj
      have := h2 (j - xs.length) v hj
      rwa [Nat.add_assoc, Nat.add_sub_cancel' h] at this
theorem range_splice {w : World} {b : Nat} (p m m' q : List Value) (h : w.rangeAt b 0 (p ++ (m ++ q))) (hl : m'.length = m.length) (ht : w.there b p.length m'.length) :
    (w.setCells b p.length m').rangeAt b 0 (p ++ (m' ++ q)) := by
  obtain ⟨h1, h2⟩ := range_app.1 h
  obtain ⟨h2, h3⟩ := range_app.1 h2
  rw [Nat.zero_add] at h2 h3
  refine range_app.2 ⟨World.rangeAt_setCells_apart h1 _ _ _ (by omega), range_app.2 ⟨?_, ?_⟩⟩
  · rw [Nat.zero_add]; exact World.rangeAt_setCells_same _ _ _ _ ht
  · rw [Nat.zero_add, hl]; exact World.rangeAt_setCells_apart h3 _ _ _ (by omega)
theorem there_part {w : World} {b n : Nat} (h : w.there b 0 n) (o k : Nat) (hk : o + k ≤ n) : w.there b o k := fun j hj => by
  have := h (o + j) (by omega)
  rwa [Nat.zero_add] at this
end Go.Proofs.YtjoflnnomebkpaaDoor

/-
  impl.reader: entry, entries.
-/
namespace Go.Proofs.YtjoflnnomebkpaaDoor
open Go.RowKit
set_option linter.unusedVariables false
set_option linter.unusedSimpArgs false

def rdEnt (s : RSt) : Ent × RSt := (⟨(rdNum s).1, (rdCmd (rdNum s).2).cl, (rdCmd (rdNum s).2).sq, (rdCmd (rdNum s).2).op, (rdCmd (rdNum s).2).k, (rdCmd (rdNum s).2).v, (rdCmd (rdNum s).2).o⟩, (rdCmd (rdNum s).2).left)
/-- k entries, one behind another -/
def entsK (s : RSt) : Nat → List Ent × RSt
  | 0 => ([], s)
  | k + 1 => ((entsK s k).1 ++ [(rdEnt (entsK s k).2).1], (rdEnt (entsK s k).2).2)
/-- a number of entries, and they -/
def rdEnts (s : RSt) : List Ent × RSt := if 32 < (rdNum s).1 then ([], none) else entsK (rdNum s).2 (rdNum s).1

theorem rdEnt_fits (s : RSt) : (rdEnt s).1.fits :=
  ⟨Nat.le_trans (rdCmd_k _) (by decide), Nat.le_trans (rdCmd_v _) (by decide), Nat.le_trans (rdCmd_o _) (by decide)⟩
theorem entsK_len (s : RSt) (k : Nat) : (entsK s k).1.length = k := by
  induction k with
  | zero => rfl
  | succ k ih => rw [entsK, List.length_append, ih]; rfl

theorem infoEntS : (Tryd.prog.info? 92).map (·.size) = some 7 := by kernel_rfl

theorem cmd_s (b : Nat) (w : World) (A : Nat → Addr) (B D : Nat) (st : RSt) (hs : Sents w A B) (h : Rd w b A B D st) :
    Calls Tryd.prog 139 #[.pointer (some ⟨b, 0, none⟩)] w fun e w' => e = .returned (cmdV (rdCmd st)) ∧ Sents w' A B ∧ Rd w' b A B D (rdCmd st).left ∧ w.grownBy w' (some b) :=
  (cmd_any b w A B D st hs h).mono fun e w' ⟨h1, h2, h3⟩ => ⟨h1, hs.kept (grown_below h3 h.1 hs.le), h2, h3⟩

theorem there_of_blockR {w w' : World} {b o n : Nat} (hb : w'.heap[b]? = w.heap[b]?) (h : w.there b o n) : w'.there b o n := fun j hj => by
  rw [World.cell?_of_block (w := w) hb, show w'.frozen? ⟨b, o + j, none⟩ = w.frozen? ⟨b, o + j, none⟩ by simp only [World.frozen?, hb]]
  exact h j hj

set_option maxHeartbeats 4000000 in
set_option maxRecDepth 100000 in
theorem entry_any (b : Nat) (w : World) (A : Nat → Addr) (B D : Nat) (st : RSt) (hs : Sents w A B) (h : Rd w b A B D st) :
    Calls Tryd.prog 133 #[.pointer (some ⟨b, 0, none⟩)] w fun e w' => e = .returned (.agg #[.int .i64 (rdEnt st).1.t, .int .i64 (rdEnt st).1.cl, .int .i64 (rdEnt st).1.sq, .int .i64 (rdEnt st).1.op, .string (rdEnt st).1.k, .string (rdEnt st).1.v, .string (rdEnt st).1.o]) ∧ Sents w' A B ∧ Rd w' b A B D (rdEnt st).2 ∧ w.grownBy w' (some b) := by
  have HN : ∀ w st, Sents w A B → Rd w b A B D st → Hid (Calls Tryd.prog 132 #[.pointer (some ⟨b, 0, none⟩)] w fun e w' => e = .returned (.int .i64 ((rdNum st).1 : Nat)) ∧ Sents w' A B ∧ Rd w' b A B D (rdNum st).2 ∧ w.grownBy w' (some b)) := fun w st hs h => number_s b w A B D st hs h
  have HC : ∀ w st, Sents w A B → Rd w b A B D st → Hid (Calls Tryd.prog 139 #[.pointer (some ⟨b, 0, none⟩)] w fun e w' => e = .returned (cmdV (rdCmd st)) ∧ Sents w' A B ∧ Rd w' b A B D (rdCmd st).left ∧ w.grownBy w' (some b)) := fun w st hs h => cmd_s b w A B D st hs h
  have hB0 := h.1
  have hbD := h.2.1
  have hDw := h.2.2.1
  have hT0 : (w.alloc (.cells #[.int .i64 0, .int .i64 0, .int .i64 0, .int .i64 0, .string ⟨#[]⟩, .string ⟨#[]⟩, .string ⟨#[]⟩] 92)).there w.heap.size 0 7 := fun j hj => by rw [Nat.zero_add]; simp [World.cell?_alloc_new, hj]
  have hr0 : Rd (w.alloc (.cells #[.int .i64 0, .int .i64 0, .int .i64 0, .int .i64 0, .string ⟨#[]⟩, .string ⟨#[]⟩, .string ⟨#[]⟩] 92)) b A B D st := h.below ((Below.refl _ _).alloc hDw _)
  have hs0 : Sents (w.alloc (.cells #[.int .i64 0, .int .i64 0, .int .i64 0, .int .i64 0, .string ⟨#[]⟩, .string ⟨#[]⟩, .string ⟨#[]⟩] 92)) A B := hs.below ((Below.refl _ _).alloc (Nat.le_refl _) _)
  have hle := hs.le
  clear h hs
  go_enter Tryd.func133, Tryd.ntmps133
  go_wp2_with (first
    | (go_at_call 132; refine Calls.mono (HN _ _ hs0 hr0).out ?_; rintro e w1 ⟨rfl, hs1, hr1, hg1⟩)
    | (go_at_call 139; refine Calls.mono (HC _ _ hs1 hr1).out ?_; unfold cmdV; rintro e w2 ⟨rfl, hs2, hr2, hg2⟩; have hG := grownBy_trans hg1 hg2; have hT2 := there_of_blockR (hG.block w.heap.size (by simp) (by intro e; injection e with e; omega)) hT0)
    | (refine gate_store 92 (.tmp 2) (.tmp 9) rfl ?_; refine wpList_store_mid rfl 92 (.tmp 2) (.tmp 9) rfl w.heap.size 0 #[.int .i64 (rdEnt st).1.t, .int .i64 (rdEnt st).1.cl, .int .i64 (rdEnt st).1.sq, .int .i64 (rdEnt st).1.op, .string (rdEnt st).1.k, .string (rdEnt st).1.v, .string (rdEnt st).1.o] rfl rfl hT2 infoEntS (by simp [Value.oneCell']) ?_; have hra4 := World.rangeAt_setCells_same _ w.heap.size 0 [.int .i64 (rdEnt st).1.t, .int .i64 (rdEnt st).1.cl, .int .i64 (rdEnt st).1.sq, .int .i64 (rdEnt st).1.op, .string (rdEnt st).1.k, .string (rdEnt st).1.v, .string (rdEnt st).1.o] hT2; have hld := run_loadVar_mid (P := Tryd.prog) _ w.heap.size 0 92 _ _ hra4 Tryd.underlying92 rfl infoEntS; have hB4 := below_setCells (Nat.le_refl w.heap.size) [.int .i64 (rdEnt st).1.t, .int .i64 (rdEnt st).1.cl, .int .i64 (rdEnt st).1.sq, .int .i64 (rdEnt st).1.op, .string (rdEnt st).1.k, .string (rdEnt st).1.v, .string (rdEnt st).1.o] 0 _ (Below.refl w.heap.size w2); clear hra4; generalize (World.setCells _ w.heap.size 0 _) = W4 at hld hB4 ⊢))
  have hGw := grownBy_trans (grown_alloc (grownBy_refl w (some b)) (.cells #[.int .i64 0, .int .i64 0, .int .i64 0, .int .i64 0, .string ⟨#[]⟩, .string ⟨#[]⟩, .string ⟨#[]⟩] 92)) hG
  refine bodyPost_ret (v := .agg #[.int .i64 (rdEnt st).1.t, .int .i64 (rdEnt st).1.cl, .int .i64 (rdEnt st).1.sq, .int .i64 (rdEnt st).1.op, .string (rdEnt st).1.k, .string (rdEnt st).1.v, .string (rdEnt st).1.o]) ?_ rfl ⟨rfl, hs2.kept (hB4.mono hle), hr2.below (hB4.mono hDw), ⟨hB4.os.trans hGw.os, hB4.tape.trans hGw.tape, hB4.output.trans hGw.output, Nat.le_trans hGw.size hB4.size, fun k hk hne => (hB4.block k hk).trans (hGw.block k hk hne)⟩⟩
  exact results_cell Tryd.results133 rfl hld

theorem grown_then {w w1 w2 : World} {row : Option Nat} (h : w.grownBy w1 row) (hb : Below w.heap.size w1 w2) : w.grownBy w2 row :=
  ⟨hb.os.trans h.os, hb.tape.trans h.tape, hb.output.trans h.output, Nat.le_trans h.size hb.size, fun k hk hne => (hb.block k hk).trans (h.block k hk hne)⟩
end Go.Proofs.YtjoflnnomebkpaaDoor

/-
  Rows of structs: what a slice of structs holds; room in a row.
-/
namespace Go.Proofs.YtjoflnnomebkpaaDoor
open Go.RowKit
set_option linter.unusedVariables false

/-! ### slices of structs, whatever the struct -/
theorem range_below {w w' : World} {b o : Nat} {cs : List Value} (h : w.rangeAt b o cs) (hb : Below w.heap.size w w') : w'.rangeAt b o cs := fun j v hj => (hb.cell (cell_lt (h j v hj))).trans (h j v hj)

/-- the slice value v holds, in the world w, the structs l, of m cells each -/
def Sl {α : Type} (cs : α → List Value) (m : Nat) (w : World) (v : Value) (l : List α) : Prop :=
  l.length ≤ maxLen ∧ ∃ a cap, v = .slice a l.length cap ∧ ∀ i, i < l.length → ∃ b off, a = some ⟨b, off, none⟩ ∧ ∀ j (h : j < l.length), w.rangeAt b (off + j * m) (cs l[j])

theorem Sl.below {α : Type} {cs : α → List Value} {m : Nat} {w w' : World} {v : Value} {l : List α} (h : Sl cs m w v l) (hb : Below w.heap.size w w') : Sl cs m w' v l := by
  obtain ⟨hl, a, cap, rfl, hc⟩ := h
  refine ⟨hl, a, cap, rfl, fun i hi => ?_⟩
  obtain ⟨b, off, rfl, hj⟩ := hc i hi
  exact ⟨b, off, rfl, fun j hj' => range_below (hj j hj') hb⟩

theorem there_below {w w' : World} {b o n : Nat} (h : w.there b o n) (hb : Below w.heap.size w w') (hlt : b < w.heap.size) : w'.there b o n := fun j hj => by
  rw [hb.cell (p := ⟨b, o + j, none⟩) hlt, hb.frozen (p := ⟨b, o + j, none⟩) hlt]; exact h j hj

theorem range_new' (w : World) (cs : List Value) (t : TypeId) : (w.alloc (.cells cs.toArray t)).rangeAt w.heap.size 0 cs := by
  intro j v hj
  rw [Nat.zero_add, World.cell?_alloc_new]
  simpa using hj
theorem there_new' (w : World) (cs : Array Value) (t : TypeId) : (w.alloc (.cells cs t)).there w.heap.size 0 cs.size := fun j hj => by
  refine ⟨?_, by simp⟩
  rw [Nat.zero_add, World.cell?_alloc_new, Array.getElem?_eq_getElem hj]; rfl
theorem below_setCells' {B g : Nat} {w0 : World} (hg : B ≤ g) : ∀ (vs : List Value) (o : Nat) (w : World), Below B w0 w → Below B w0 (w.setCells g o vs)
  | [], _, _, h => h
  | v :: vs, o, w, h => below_setCells' hg vs (o + 1) _ (h.setCell (show B ≤ (⟨g, o, none⟩ : Addr).block from hg) v)
theorem size_setCells' {g : Nat} : ∀ (vs : List Value) (o : Nat) (w : World), (w.setCells g o vs).heap.size = w.heap.size
  | [], _, _ => rfl
  | v :: vs, o, w => (size_setCells' vs (o + 1) _).trans (by simp [World.setCell])
theorem there_sub {w : World} {b n : Nat} (h : w.there b 0 n) (o k : Nat) (hk : o + k ≤ n) : w.there b o k := fun j hj => by
  have := h (o + j) (by omega)
  rwa [Nat.zero_add] at this

/-- what has been copied after k rounds -/
structure CopiedG {α : Type} (cs : α → List Value) (m : Nat) (w wr : World) (l : List α) (k : Nat) : Prop where
  below : Below w.heap.size w wr
  size : w.heap.size < wr.heap.size
  there : wr.there w.heap.size 0 (l.length * m)
  rows : ∀ j (h : j < l.length), j < k → wr.rangeAt w.heap.size (j * m) (cs l[j])

theorem CopiedG.start {α : Type} (cs : α → List Value) (m : Nat) (w : World) (l : List α) (z : Array Value) (t : TypeId) : CopiedG cs m w (w.alloc (.cells (madeCells z (l.length * m)) t)) l 0 :=
  ⟨(Below.refl _ _).alloc (Nat.le_refl _) _, by simp, by have h := there_new' w (madeCells z (l.length * m)) t; rwa [size_madeCells] at h, fun j _ h => absurd h (by omega)⟩
theorem CopiedG.later {α : Type} {cs : α → List Value} {m : Nat} {w wr w1 : World} {l : List α} {k : Nat} (h : CopiedG cs m w wr l k) (hb : Below wr.heap.size wr w1) : CopiedG cs m w w1 l k :=
  ⟨h.below.trans (hb.mono (Nat.le_of_lt h.size)), Nat.lt_of_lt_of_le h.size hb.size, fun j hj => by
    rw [hb.cell (p := ⟨w.heap.size, 0 + j, none⟩) h.size, hb.frozen (p := ⟨w.heap.size, 0 + j, none⟩) h.size]; exact h.there j hj, fun j hj hjk => range_below (h.rows j hj hjk) hb⟩
theorem row_le {j k n m : Nat} (h : j < k) (hk : k ≤ n) : j * m + m ≤ n * m := by
  have := Nat.mul_le_mul_right m (show j + 1 ≤ n by omega)
  rwa [Nat.succ_mul] at this
theorem CopiedG.step {α : Type} {cs : α → List Value} {m : Nat} {w wr : World} {l : List α} {k : Nat} (h : CopiedG cs m w wr l k) (hk : k < l.length) (hm : ∀ a, (cs a).length = m) :
    CopiedG cs m w (wr.setCells w.heap.size (k * m) (cs l[k])) l (k + 1) := by
  refine ⟨below_setCells' (Nat.le_refl _) _ _ _ h.below, by rw [size_setCells']; exact h.size, World.there_setCells h.there _ _ _, fun j hj hjk => ?_⟩
  by_cases e : j = k
  · subst e
    exact World.rangeAt_setCells_same _ _ _ _ (there_sub h.there _ _ (by rw [hm]; exact row_le hk (Nat.le_refl _)))
  · exact World.rangeAt_setCells_apart (h.rows j hj (by omega)) _ _ _ (.inr (.inl (by rw [hm]; exact row_le (show j < k by omega) (Nat.le_refl _))))
theorem CopiedG.sl {α : Type} {cs : α → List Value} {m : Nat} {w wr : World} {l : List α} (h : CopiedG cs m w wr l l.length) (hl : l.length ≤ maxLen) : Sl cs m wr (.slice (some ⟨w.heap.size, 0, none⟩) l.length l.length) l :=
  ⟨hl, _, _, rfl, fun i hi => ⟨_, _, rfl, fun j hj => by rw [Nat.zero_add]; exact h.rows j hj hj⟩⟩

theorem there_set' {w : World} {b n : Nat} (h : w.there b 0 n) (b' j : Nat) (x : Value) : (w.setCell ⟨b', j, none⟩ x).there b 0 n := World.there_setCells h b' j [x]
theorem there_get' {w : World} {b n : Nat} (h : w.there b 0 n) (i : Nat) (hi : i < n) : ∃ y, w.cell? ⟨b, i, none⟩ = some y := by
  have := (h i hi).1
  rw [Nat.zero_add] at this
  exact Option.isSome_iff_exists.1 this
theorem there_free' {w : World} {b n : Nat} (h : w.there b 0 n) (i : Nat) (hi : i < n) : w.frozen? ⟨b, i, none⟩ = false := by
  have := (h i hi).2
  rwa [Nat.zero_add] at this
theorem there_block' {w w' : World} {b o n : Nat} (h : w.there b o n) (hb : w'.heap[b]? = w.heap[b]?) : w'.there b o n := fun j hj => by
  obtain ⟨h1, h2⟩ := h j hj
  refine ⟨?_, ?_⟩
  · rw [World.cell?_of_block (w := w) hb]; exact h1
  · simpa [World.frozen?, hb] using h2

end Go.Proofs.YtjoflnnomebkpaaDoor

/-
  Records: eleven cells.
-/
namespace Go.Proofs.YtjoflnnomebkpaaDoor
open Go.RowKit
set_option linter.unusedVariables false

/-! ### records -/
structure Rec where
  ki : Int
  tm : Int
  vo : Int
  ix : Int
  e : Ent
def Rec.cells (r : Rec) : List Value := [.int .i64 r.ki, .int .i64 r.tm, .int .i64 r.vo, .int .i64 r.ix, .int .i64 r.e.t, .int .i64 r.e.cl, .int .i64 r.e.sq, .int .i64 r.e.op, .string r.e.k, .string r.e.v, .string r.e.o]
theorem Rec.cells_len (r : Rec) : r.cells.length = 11 := rfl
theorem gate_store' {P : Program} {w : World} {ops : Array Oper} {rest : List Oper} {o : Oper} {a : Act} {Q : Exit → Act → World → Prop} (ty : TypeId) (x y : Operand) (ho : o.op = .store ty x y)
    (h : wpList P ops Q (o :: rest) a w) : wpList P ops Q (o :: rest) a w := h
theorem sizeRec : (Tryd.prog.info? 94).map (·.size) = some 11 := by kernel_rfl
theorem gate_load' {P : Program} {w : World} {ops : Array Oper} {rest : List Oper} {o : Oper} {a : Act} {Q : Exit → Act → World → Prop} (ty : TypeId) (x : Operand) (ho : o.op = .load ty x)
    (h : wpList P ops Q (o :: rest) a w) : wpList P ops Q (o :: rest) a w := h
end Go.Proofs.YtjoflnnomebkpaaDoor

/-
  '==' on commands and records.
-/
namespace Go.Proofs.YtjoflnnomebkpaaDoor
open Go.RowKit
set_option linter.unusedVariables false

def cmdEqB (a b : Ent) : Bool := a.cl == b.cl && (a.sq == b.sq && (a.op == b.op && (a.k.toList == b.k.toList && (a.v.toList == b.v.toList && a.o.toList == b.o.toList))))
def recEqB (r s : Rec) : Bool := r.ki == s.ki && (r.tm == s.tm && (r.vo == s.vo && (r.ix == s.ix && (r.e.t == s.e.t && cmdEqB r.e s.e))))

set_option maxRecDepth 100000 in
set_option maxHeartbeats 2000000 in
theorem eqCmd_run (d : Nat) (a b : Ent) (w : World) : (Op.equalIn (d + 2) 90 (.agg #[.int .i64 a.cl, .int .i64 a.sq, .int .i64 a.op, .string a.k, .string a.v, .string a.o]) (.agg #[.int .i64 b.cl, .int .i64 b.sq, .int .i64 b.op, .string b.k, .string b.v, .string b.o])).run Tryd.prog w = .ok (cmdEqB a b) w := by
  have u3 := Tryd.underlying3
  have u9 := Tryd.underlying9
  have hS : Tryd.prog.underlying 90 = some (.struct (Tryd.prog.fieldsOf 90)) := by kernel_rfl
  rw [run_equalIn_agg w (d + 1) 90 _ _ hS (by kernel_rfl)]
  simp only [Program.fieldsOf, Tryd.underlying90]
  unfold cmdEqB
  go_simp
  by_cases h1 : a.cl = b.cl <;> by_cases h2 : a.sq = b.sq <;> by_cases h3 : a.op = b.op <;> by_cases h4 : a.k.toList = b.k.toList <;> by_cases h5 : a.v.toList = b.v.toList <;> by_cases h6 : a.o.toList = b.o.toList <;> simp [h1, h2, h3, h4, h5, h6]

set_option maxRecDepth 100000 in
set_option maxHeartbeats 2000000 in
theorem eqEnt_run (d : Nat) (a b : Ent) (w : World) : (Op.equalIn (d + 3) 92 (.agg #[.int .i64 a.t, .int .i64 a.cl, .int .i64 a.sq, .int .i64 a.op, .string a.k, .string a.v, .string a.o]) (.agg #[.int .i64 b.t, .int .i64 b.cl, .int .i64 b.sq, .int .i64 b.op, .string b.k, .string b.v, .string b.o])).run Tryd.prog w = .ok (a.t == b.t && cmdEqB a b) w := by
  have u3 := Tryd.underlying3
  have hE := fun w => eqCmd_run d a b w
  have hS : Tryd.prog.underlying 92 = some (.struct (Tryd.prog.fieldsOf 92)) := by kernel_rfl
  rw [run_equalIn_agg w (d + 2) 92 _ _ hS (by kernel_rfl)]
  simp only [Program.fieldsOf, Tryd.underlying92]
  go_simp
  by_cases h1 : a.t = b.t <;> simp [h1]
  cases cmdEqB a b <;> simp

set_option maxRecDepth 100000 in
set_option maxHeartbeats 2000000 in
theorem eqRec_run (d : Nat) (r s : Rec) (w : World) : (Op.equalIn (d + 4) 94 (.agg r.cells.toArray) (.agg s.cells.toArray)).run Tryd.prog w = .ok (recEqB r s) w := by
  have u3 := Tryd.underlying3
  have hE := fun w => eqEnt_run d r.e s.e w
  have hS : Tryd.prog.underlying 94 = some (.struct (Tryd.prog.fieldsOf 94)) := by kernel_rfl
  rw [run_equalIn_agg w (d + 3) 94 _ _ hS (by kernel_rfl)]
  simp only [Program.fieldsOf, Tryd.underlying94, Rec.cells]
  unfold recEqB
  generalize (r.e.t == s.e.t && cmdEqB r.e s.e) = X at hE ⊢
  go_simp
  cases X <;> by_cases h1 : r.ki = s.ki <;> by_cases h2 : r.tm = s.tm <;> by_cases h3 : r.vo = s.vo <;> by_cases h4 : r.ix = s.ix <;> simp [h1, h2, h3, h4]

theorem bytes_ext {a b : ByteArray} (h : a.toList = b.toList) : a = b := by
  have e : a.data.toList = b.data.toList := by rw [← ByteArray.toList_eq, ← ByteArray.toList_eq]; exact h
  cases a; cases b; congr 1; exact Array.toList_inj.1 e
theorem cmdEqB_iff (a b : Ent) : cmdEqB a b = true ↔ a.cl = b.cl ∧ a.sq = b.sq ∧ a.op = b.op ∧ a.k = b.k ∧ a.v = b.v ∧ a.o = b.o := by
  simp only [cmdEqB, Bool.and_eq_true, beq_iff_eq]
  exact ⟨fun ⟨h1, h2, h3, h4, h5, h6⟩ => ⟨h1, h2, h3, bytes_ext h4, bytes_ext h5, bytes_ext h6⟩, fun ⟨h1, h2, h3, h4, h5, h6⟩ => ⟨h1, h2, h3, by rw [h4], by rw [h5], by rw [h6]⟩⟩
end Go.Proofs.YtjoflnnomebkpaaDoor

/-
  impl.limitsOf; CmdFault, both.
-/
namespace Go.Proofs.YtjoflnnomebkpaaDoor
open Go.RowKit
set_option linter.unusedVariables false

/-- impl.limitsOf, as a value -/
def limV (op : Int) : Value :=
  if op = 0 then .agg #[.int .i64 0, .int .i64 0, .int .i64 0, .int .i64 0, .int .i64 0, .int .i64 0]
  else .agg #[.int .i64 1, .int .i64 8, .int .i64 1073741824, .int .i64 64, .int .i64 (if op = 2 ∨ op = 4 then 64 else 0), .int .i64 (if op = 4 then 64 else 0)]

theorem limitsOf_any (op : Int) (w : World) :
    Calls Tryd.prog 137 #[.int .i64 op] w fun e w' => e = .returned (limV op) ∧ Below w.heap.size w w' := by
  by_cases h0 : op = 0
  · subst h0
    have e : limV 0 = .agg #[.int .i64 0, .int .i64 0, .int .i64 0, .int .i64 0, .int .i64 0, .int .i64 0] := rfl
    rw [e]
    go_enter Tryd.func137, Tryd.ntmps137
    go_wp2
    exact bodyPost_ret (v := .agg #[.int .i64 0, .int .i64 0, .int .i64 0, .int .i64 0, .int .i64 0, .int .i64 0]) (by simp [results, Tryd.results137, go_sem]) rfl ⟨rfl, (Below.refl _ _).alloc (Nat.le_refl _) _⟩
  by_cases h2 : op = 2
  · subst h2
    have e : limV 2 = .agg #[.int .i64 1, .int .i64 8, .int .i64 1073741824, .int .i64 64, .int .i64 64, .int .i64 0] := rfl
    rw [e]
    go_enter Tryd.func137, Tryd.ntmps137
    go_wp2
    exact bodyPost_ret (v := .agg #[.int .i64 1, .int .i64 8, .int .i64 1073741824, .int .i64 64, .int .i64 64, .int .i64 0]) (by simp [results, Tryd.results137, go_sem]) rfl ⟨rfl, ((Below.refl _ _).alloc (Nat.le_refl _) _).alloc (by simp) _⟩
  by_cases h4 : op = 4
  · subst h4
    have e : limV 4 = .agg #[.int .i64 1, .int .i64 8, .int .i64 1073741824, .int .i64 64, .int .i64 64, .int .i64 64] := rfl
    rw [e]
    go_enter Tryd.func137, Tryd.ntmps137
    go_wp2
    exact bodyPost_ret (v := .agg #[.int .i64 1, .int .i64 8, .int .i64 1073741824, .int .i64 64, .int .i64 64, .int .i64 64]) (by simp [results, Tryd.results137, go_sem]) rfl ⟨rfl, ((Below.refl _ _).alloc (Nat.le_refl _) _).alloc (by simp) _⟩
  · have e : limV op = .agg #[.int .i64 1, .int .i64 8, .int .i64 1073741824, .int .i64 64, .int .i64 0, .int .i64 0] := by simp [limV, h0, h2, h4]
    rw [e]
    have n2 : (op == 2) = false := by simpa using h2
    have n4 : (op == 4) = false := by simpa using h4
    go_enter Tryd.func137, Tryd.ntmps137
    go_wp2
    all_goals exact bodyPost_ret (v := .agg #[.int .i64 1, .int .i64 8, .int .i64 1073741824, .int .i64 64, .int .i64 0, .int .i64 0]) (by simp [results, Tryd.results137, go_sem]) rfl ⟨rfl, ((Below.refl _ _).alloc (Nat.le_refl _) _).alloc (by simp) _⟩

/-- the fault of a command -/
def cmdF (cl sq op : Int) (k v o : Int) : Int :=
  if op < 0 ∨ 4 < op then 1
  else if op = 0 then (if cl ≠ 0 then 2 else if sq ≠ 0 then 3 else if k ≠ 0 then 4 else if v ≠ 0 then 5 else if o ≠ 0 then 6 else 0)
  else if cl < 1 ∨ 8 < cl then 2 else if sq < 1 ∨ 1073741824 < sq then 3 else if k < 1 ∨ 64 < k then 4
  else if (if op = 2 ∨ op = 4 then 64 else 0) < v then 5 else if (if op = 4 then 64 else 0) < o then 6 else 0



def implF (cl sq op k v o l0 l1 l2 l3 l4 l5 : Int) : Int :=
  if inB op 0 4 = false then 1 else if inB cl l0 l1 = false then 2 else if inB sq l0 l2 = false then 3 else if inB k l0 l3 = false then 4 else if l4 < v then 5 else if l5 < o then 6 else 0

set_option maxHeartbeats 1000000 in
theorem implCF_lim (cl sq op : Int) (k v o : ByteArray) (l0 l1 l2 l3 l4 l5 : Int) (hlim : limV op = .agg #[.int .i64 l0, .int .i64 l1, .int .i64 l2, .int .i64 l3, .int .i64 l4, .int .i64 l5])
    (hk : k.size ≤ maxLen) (hv : v.size ≤ maxLen) (ho : o.size ≤ maxLen) (w : World) :
    Calls Tryd.prog 130 #[.agg #[.int .i64 cl, .int .i64 sq, .int .i64 op, .string k, .string v, .string o]] w fun e w' =>
      e = .returned (.int .i64 (implF cl sq op k.size v.size o.size l0 l1 l2 l3 l4 l5)) ∧ Below w.heap.size w w' := by
  unfold maxLen at hk hv ho
  have HL : Hid (limV op = .agg #[.int .i64 l0, .int .i64 l1, .int .i64 l2, .int .i64 l3, .int .i64 l4, .int .i64 l5]) := hlim
  clear hlim
  go_enter Tryd.func130, Tryd.ntmps130
  go_wp2_with (first
    | (go_at_call 137; refine (limitsOf_any _ _).mono ?_; rintro e w1 ⟨rfl, hb⟩; rw [HL.out]; obtain ⟨hc, hf⟩ := bcell hb; have hz : w.heap.size < w1.heap.size := (by have := hb.size; simp at this; omega))
    | (go_at_call 84; refine (within_any _ _ _ _).mono ?_; rintro e w' ⟨rfl, rfl⟩))
  all_goals go_ret
  all_goals refine ⟨ret_int ?_, (((Below.refl _ _).alloc (Nat.le_refl _) _).trans (hb.mono (by simp))).alloc (by omega) _⟩
  all_goals (clear hb hc hf HL; go_light; simp_all [implF]; try omega)

theorem implF_zero (cl sq k v o : Int) (hk : 0 ≤ k) (hv : 0 ≤ v) (ho : 0 ≤ o) : implF cl sq 0 k v o 0 0 0 0 0 0 = cmdF cl sq 0 k v o := by
  unfold implF cmdF
  simp only [inB_not]
  rw [if_neg (by omega : ¬ ((0 : Int) < 0 ∨ (4 : Int) < 0)), if_neg (by omega : ¬ ((0 : Int) < 0 ∨ (4 : Int) < 0)), if_pos trivial]
  exact ifc (by omega) rfl (ifc (by omega) rfl (ifc (by omega) rfl (ifc (by omega) rfl (ifc (by omega) rfl rfl))))
theorem implF_pos (cl sq op k v o : Int) (h : op ≠ 0) : implF cl sq op k v o 1 8 1073741824 64 (if op = 2 ∨ op = 4 then 64 else 0) (if op = 4 then 64 else 0) = cmdF cl sq op k v o := by
  unfold implF cmdF
  simp only [inB_not]
  rw [if_neg h]

theorem implCmdFault_any (cl sq op : Int) (k v o : ByteArray) (hk : k.size ≤ maxLen) (hv : v.size ≤ maxLen) (ho : o.size ≤ maxLen) (w : World) :
    Calls Tryd.prog 130 #[.agg #[.int .i64 cl, .int .i64 sq, .int .i64 op, .string k, .string v, .string o]] w fun e w' =>
      e = .returned (.int .i64 (cmdF cl sq op k.size v.size o.size)) ∧ Below w.heap.size w w' := by
  by_cases h : op = 0
  · subst h
    rw [← implF_zero _ _ _ _ _ (Int.natCast_nonneg _) (Int.natCast_nonneg _) (Int.natCast_nonneg _)]
    exact implCF_lim cl sq 0 k v o 0 0 0 0 0 0 rfl hk hv ho w
  · rw [← implF_pos _ _ _ _ _ _ h]
    exact implCF_lim cl sq op k v o _ _ _ _ _ _ (by simp [limV, h]) hk hv ho w

set_option maxHeartbeats 2000000 in
theorem specCmdFault_any (cl sq op : Int) (k v o : ByteArray) (hk : k.size ≤ maxLen) (hv : v.size ≤ maxLen) (ho : o.size ≤ maxLen) (w : World) :
    Calls Tryd.prog 128 #[.agg #[.int .i64 cl, .int .i64 sq, .int .i64 op, .string k, .string v, .string o]] w fun e w' =>
      e = .returned (.int .i64 (cmdF cl sq op k.size v.size o.size)) ∧ Below w.heap.size w w' := by
  unfold maxLen at hk hv ho
  go_enter Tryd.func128, Tryd.ntmps128
  go_wp2
  all_goals go_ret
  all_goals refine ⟨ret_int ?_, (Below.refl _ _).alloc (Nat.le_refl _) _⟩
  all_goals go_light
  all_goals (try (simp only [beq_iff_eq, beq_eq_false_iff_ne, bne_iff_ne, bne_eq_false_iff_eq, ne_eq] at *))
  all_goals first | (exfalso; omega) | (unfold cmdF; repeat (first | rfl | rw [if_pos (by omega)] | rw [if_neg (by omega)]))
end Go.Proofs.YtjoflnnomebkpaaDoor

/-
  impl.entryFits, spec.l1entryOk.
-/
namespace Go.Proofs.YtjoflnnomebkpaaDoor
open Go.RowKit
set_option linter.unusedVariables false

theorem ret_bool {a b : Bool} (h : a = b) : Ending.returned (.bool a) = .returned (.bool b) := by rw [h]

/-- is an entry well-formed? -/
def entB (e : Ent) : Bool := inB e.t 1 1073741824 && (cmdF e.cl e.sq e.op e.k.size e.v.size e.o.size == 0)

set_option maxHeartbeats 2000000 in
theorem entryFits_any (e : Ent) (hf : e.fits) (w : World) :
    Calls Tryd.prog 115 #[.agg #[.int .i64 e.t, .int .i64 e.cl, .int .i64 e.sq, .int .i64 e.op, .string e.k, .string e.v, .string e.o]] w fun r w' => r = .returned (.bool (entB e)) ∧ Below w.heap.size w w' := by
  obtain ⟨h1, h2, h3⟩ := hf
  go_enter Tryd.func115, Tryd.ntmps115
  go_wp2_with (first
    | (go_at_call 84; refine (within_any _ _ _ _).mono ?_; rintro r w' ⟨rfl, rfl⟩)
    | (go_at_call 130; refine (implCmdFault_any e.cl e.sq e.op e.k e.v e.o h1 h2 h3 _).mono ?_; rintro r w1 ⟨rfl, hb⟩))
  · go_ret
    exact ⟨ret_bool (by go_light; simp_all [entB]), ((Below.refl _ _).alloc (Nat.le_refl _) _).trans (hb.mono (by simp))⟩
  · go_ret
    exact ⟨ret_bool (by go_light; simp_all [entB]), (Below.refl _ _).alloc (Nat.le_refl _) _⟩

set_option maxHeartbeats 2000000 in
theorem entryOk_any (e : Ent) (hf : e.fits) (w : World) :
    Calls Tryd.prog 108 #[.agg #[.int .i64 e.t, .int .i64 e.cl, .int .i64 e.sq, .int .i64 e.op, .string e.k, .string e.v, .string e.o]] w fun r w' => r = .returned (.bool (entB e)) ∧ Below w.heap.size w w' := by
  obtain ⟨h1, h2, h3⟩ := hf
  by_cases t1 : 1 ≤ e.t
  · by_cases t2 : e.t ≤ 1073741824
    · have hin : inB e.t 1 1073741824 = true := (inB_iff _ _ _).2 ⟨t1, t2⟩
      go_enter Tryd.func108, Tryd.ntmps108
      go_wp2_with (go_at_call 128; refine (specCmdFault_any e.cl e.sq e.op e.k e.v e.o h1 h2 h3 _).mono ?_; rintro r w1 ⟨rfl, hb⟩)
      go_ret
      exact ⟨ret_bool (by rw [entB, hin]; simp), ((Below.refl _ _).alloc (Nat.le_refl _) _).trans (hb.mono (by simp))⟩
    · have hin : inB e.t 1 1073741824 = false := (inB_not _ _ _).2 (by omega)
      have hd : decide (e.t ≤ 1073741824) = false := by simpa using t2
      go_enter Tryd.func108, Tryd.ntmps108
      go_wp2_with (go_at_call 128; refine (specCmdFault_any e.cl e.sq e.op e.k e.v e.o h1 h2 h3 _).mono ?_; rintro r w1 ⟨rfl, hb⟩)
      go_ret
      exact ⟨ret_bool (by rw [entB, hin]; simp), (Below.refl _ _).alloc (Nat.le_refl _) _⟩
  · have hin : inB e.t 1 1073741824 = false := (inB_not _ _ _).2 (by omega)
    have hd : decide (1 ≤ e.t) = false := by simpa using t1
    go_enter Tryd.func108, Tryd.ntmps108
    go_wp2_with (go_at_call 128; refine (specCmdFault_any e.cl e.sq e.op e.k e.v e.o h1 h2 h3 _).mono ?_; rintro r w1 ⟨rfl, hb⟩)
    go_ret
    exact ⟨ret_bool (by rw [entB, hin]; simp), (Below.refl _ _).alloc (Nat.le_refl _) _⟩

/-- every entry well-formed, no term below the one ahead of it, all up to high -/
def fitL (high : Int) : Int → List Ent → Bool
  | _, [] => true
  | low, e :: r => entB e && inB e.t low high && fitL high e.t r

theorem fitL_drop (high low : Int) (l : List Ent) (k : Nat) (h : k < l.length) : fitL high low (l.drop k) = (entB l[k] && inB l[k].t low high && fitL high l[k].t (l.drop (k + 1))) := by
  rw [List.drop_eq_getElem_cons h]
  rfl
end Go.Proofs.YtjoflnnomebkpaaDoor

/-
  spec.l1in.
-/
namespace Go.Proofs.YtjoflnnomebkpaaDoor
open Go.RowKit
set_option linter.unusedVariables false

theorem l1in_any (n lo hi : Int) (w : World) :
    Calls Tryd.prog 80 #[.int .i64 n, .int .i64 lo, .int .i64 hi] w fun e w' => e = .returned (.bool (inB n lo hi)) ∧ w' = w := by
  by_cases h1 : lo ≤ n
  · by_cases h2 : n ≤ hi
    · have hb : inB n lo hi = true := by simp [inB, h1, h2]
      rw [hb]
      go_enter Tryd.func80, Tryd.ntmps80
      go_wp2
      go_ret
      exact ⟨rfl, rfl⟩
    · have hb : inB n lo hi = false := by simp [inB, h1]; omega
      rw [hb]
      go_enter Tryd.func80, Tryd.ntmps80
      go_wp2
      go_ret
      exact ⟨by simp, rfl⟩
  · have hb : inB n lo hi = false := by simp [inB]; omega
    rw [hb]
    go_enter Tryd.func80, Tryd.ntmps80
    go_wp2
    go_ret
    exact ⟨rfl, rfl⟩

end Go.Proofs.YtjoflnnomebkpaaDoor

/-
  spec.l2recordOk.
-/
namespace Go.Proofs.YtjoflnnomebkpaaDoor
open Go.RowKit
set_option linter.unusedVariables false
set_option linter.unusedSimpArgs false

/-- an entry that is zero -/
def Ent.zero : Ent := ⟨0, 0, 0, 0, .empty, .empty, .empty⟩
def noEntB (e : Ent) : Bool := e.t == 0 && cmdEqB e Ent.zero
def hardB (r : Rec) : Bool := inB r.tm 0 1073741824 && (inB r.vo 0 7 && (decide (0 < r.tm) || r.vo == 0))
/-- a record is well-formed -/
def recB (r : Rec) : Bool :=
  if r.ki = 1 then r.ix == 0 && (noEntB r.e && hardB r)
  else if r.tm ≠ 0 ∨ r.vo ≠ 0 then false
  else if r.ki = 2 then inB r.ix 1 4096 && entB r.e
  else r.ki == 3 && (noEntB r.e && inB r.ix 0 4096)
theorem noEnt_iff (e : Ent) : noEntB e = true ↔ e = Ent.zero := by
  obtain ⟨t, cl, sq, op, k, v, o⟩ := e
  simp only [noEntB, Bool.and_eq_true, beq_iff_eq, cmdEqB_iff, Ent.zero, Ent.mk.injEq]
theorem empty_toList : ByteArray.empty.toList = [] := by rw [ByteArray.toList_eq]; rfl
theorem text_ne {k : ByteArray} (h : ¬ k = .empty) : ¬ k.toList = [] := fun e => h (bytes_ext (by rw [e, empty_toList]))
theorem text_ne' {k : ByteArray} (h : ¬ k = .empty) : (k.toList == []) = false := by simpa using text_ne h

set_option maxHeartbeats 20000000 in
set_option maxRecDepth 100000 in
theorem l2recordOk_any (r : Rec) (hf : r.e.fits) (w : World) :
    Calls Tryd.prog 81 #[.agg r.cells.toArray] w fun x w' => x = .returned (.bool (recB r)) ∧ Below w.heap.size w w' := by
  obtain ⟨ki, tm, vo, ix, ⟨t, cl, sq, op, k, v, o⟩⟩ := r
  show Calls Tryd.prog 81 #[.agg #[.int .i64 ki, .int .i64 tm, .int .i64 vo, .int .i64 ix, .int .i64 t, .int .i64 cl, .int .i64 sq, .int .i64 op, .string k, .string v, .string o]] w _
  go_enter Tryd.func81, Tryd.ntmps81
  go_upto_region 1 with fail
  go_cut [3] (fun s3 wx => s3 = .bool (noEntB ⟨t, cl, sq, op, k, v, o⟩) ∧ wx = w.alloc (.cells #[.int .i64 ki, .int .i64 tm, .int .i64 vo, .int .i64 ix, .int .i64 t, .int .i64 cl, .int .i64 sq, .int .i64 op, .string k, .string v, .string o] 94))
  case first =>
    by_cases ht : t = 0
    · subst ht
      by_cases hcl : cl = 0
      · subst hcl
        by_cases hsq : sq = 0
        · subst hsq
          by_cases hop : op = 0
          · subst hop
            by_cases hk : k = .empty
            · subst hk
              by_cases hv : v = .empty
              · subst hv
                by_cases ho : o = .empty
                · subst ho
                  have hN : noEntB (⟨0, 0, 0, 0, .empty, .empty, .empty⟩ : Ent) = true := by rw [noEnt_iff]; rfl
                  go_wp2_with fail
                  go_meet
                  exact ⟨by rw [hN], rfl⟩
                · have hN : noEntB (⟨0, 0, 0, 0, .empty, .empty, o⟩ : Ent) = false := by
                    cases hB : noEntB (⟨0, 0, 0, 0, .empty, .empty, o⟩ : Ent)
                    · rfl
                    · rw [noEnt_iff] at hB; injection hB with e0 e1 e2 e3 e4 e5 e6; exact absurd e6 ho
                  have bo := text_ne ho
                  have co := text_ne' ho
                  go_wp2_with fail
                  go_meet
                  exact ⟨by rw [hN], rfl⟩
              · have hN : noEntB (⟨0, 0, 0, 0, .empty, v, o⟩ : Ent) = false := by
                  cases hB : noEntB (⟨0, 0, 0, 0, .empty, v, o⟩ : Ent)
                  · rfl
                  · rw [noEnt_iff] at hB; injection hB with e0 e1 e2 e3 e4 e5 e6; exact absurd e5 hv
                have bv := text_ne hv
                have cv := text_ne' hv
                go_wp2_with fail
                go_meet
                exact ⟨by rw [hN], rfl⟩
            · have hN : noEntB (⟨0, 0, 0, 0, k, v, o⟩ : Ent) = false := by
                cases hB : noEntB (⟨0, 0, 0, 0, k, v, o⟩ : Ent)
                · rfl
                · rw [noEnt_iff] at hB; injection hB with e0 e1 e2 e3 e4 e5 e6; exact absurd e4 hk
              have bk := text_ne hk
              have ck := text_ne' hk
              go_wp2_with fail
              go_meet
              exact ⟨by rw [hN], rfl⟩
          · have hN : noEntB (⟨0, 0, 0, op, k, v, o⟩ : Ent) = false := by
              cases hB : noEntB (⟨0, 0, 0, op, k, v, o⟩ : Ent)
              · rfl
              · rw [noEnt_iff] at hB; injection hB with e0 e1 e2 e3 e4 e5 e6; exact absurd e3 hop
            have bop : (op == 0) = false := by simpa using hop
            go_wp2_with fail
            go_meet
            exact ⟨by rw [hN], rfl⟩
        · have hN : noEntB (⟨0, 0, sq, op, k, v, o⟩ : Ent) = false := by
            cases hB : noEntB (⟨0, 0, sq, op, k, v, o⟩ : Ent)
            · rfl
            · rw [noEnt_iff] at hB; injection hB with e0 e1 e2 e3 e4 e5 e6; exact absurd e2 hsq
          have bsq : (sq == 0) = false := by simpa using hsq
          go_wp2_with fail
          go_meet
          exact ⟨by rw [hN], rfl⟩
      · have hN : noEntB (⟨0, cl, sq, op, k, v, o⟩ : Ent) = false := by
          cases hB : noEntB (⟨0, cl, sq, op, k, v, o⟩ : Ent)
          · rfl
          · rw [noEnt_iff] at hB; injection hB with e0 e1 e2 e3 e4 e5 e6; exact absurd e1 hcl
        have bcl : (cl == 0) = false := by simpa using hcl
        go_wp2_with fail
        go_meet
        exact ⟨by rw [hN], rfl⟩
    · have hN : noEntB (⟨t, cl, sq, op, k, v, o⟩ : Ent) = false := by
        cases hB : noEntB (⟨t, cl, sq, op, k, v, o⟩ : Ent)
        · rfl
        · rw [noEnt_iff] at hB; injection hB with e0 e1 e2 e3 e4 e5 e6; exact absurd e0 ht
      have bt : (t == 0) = false := by simpa using ht
      go_wp2_with fail
      go_meet
      exact ⟨by rw [hN], rfl⟩
  case rest =>
    obtain ⟨rfl, rfl⟩ := hcut
    cases hN : noEntB ⟨t, cl, sq, op, k, v, o⟩
    · by_cases k1 : ki = 1
      · subst k1
        cases hix : (ix == 0)
        · go_wp2_with (first
            | (go_at_call 80; refine (l1in_any _ _ _ _).mono ?_; rintro r w1 ⟨rfl, hw⟩; obtain rfl := hw.symm)
            | (go_at_call 108; refine (entryOk_any ⟨t, cl, sq, op, k, v, o⟩ hf _).mono ?_; rintro r w1 ⟨rfl, hb⟩))
          go_ret
          exact ⟨ret_bool (by simp [recB, hardB, hix]), ((Below.refl _ _).alloc (Nat.le_refl _) _)⟩
        · go_wp2_with (first
            | (go_at_call 80; refine (l1in_any _ _ _ _).mono ?_; rintro r w1 ⟨rfl, hw⟩; obtain rfl := hw.symm)
            | (go_at_call 108; refine (entryOk_any ⟨t, cl, sq, op, k, v, o⟩ hf _).mono ?_; rintro r w1 ⟨rfl, hb⟩))
          go_ret
          exact ⟨ret_bool (by simp [recB, hardB, hN]), ((Below.refl _ _).alloc (Nat.le_refl _) _)⟩
      · have k1' : (ki == 1) = false := by simpa using k1
        by_cases htm : tm = 0
        · have htm' : (tm != 0) = false := by simpa using htm
          by_cases hvo : vo = 0
          · have hvo' : (vo != 0) = false := by simpa using hvo
            have hR : recB ⟨ki, tm, vo, ix, ⟨t, cl, sq, op, k, v, o⟩⟩ = if ki = 2 then inB ix 1 4096 && entB ⟨t, cl, sq, op, k, v, o⟩ else ki == 3 && (noEntB ⟨t, cl, sq, op, k, v, o⟩ && inB ix 0 4096) := by simp [recB, k1, htm, hvo]
            have HR : Hid (recB ⟨ki, tm, vo, ix, ⟨t, cl, sq, op, k, v, o⟩⟩ = if ki = 2 then inB ix 1 4096 && entB ⟨t, cl, sq, op, k, v, o⟩ else ki == 3 && (noEntB ⟨t, cl, sq, op, k, v, o⟩ && inB ix 0 4096)) := hR
            clear htm hvo hR
            by_cases k2 : ki = 2
            · subst k2
              cases hi : inB ix 1 4096
              · go_wp2_with (first
                  | (go_at_call 80; refine (l1in_any _ _ _ _).mono ?_; rintro r w1 ⟨rfl, hw⟩; obtain rfl := hw.symm)
                  | (go_at_call 108; refine (entryOk_any ⟨t, cl, sq, op, k, v, o⟩ hf _).mono ?_; rintro r w1 ⟨rfl, hb⟩))
                go_ret
                exact ⟨ret_bool (by rw [HR.out]; simp [hi]), ((Below.refl _ _).alloc (Nat.le_refl _) _)⟩
              · go_wp2_with (first
                  | (go_at_call 80; refine (l1in_any _ _ _ _).mono ?_; rintro r w1 ⟨rfl, hw⟩; obtain rfl := hw.symm)
                  | (go_at_call 108; refine (entryOk_any ⟨t, cl, sq, op, k, v, o⟩ hf _).mono ?_; rintro r w1 ⟨rfl, hb⟩))
                go_ret
                exact ⟨ret_bool (by rw [HR.out]; simp [hi]), ((Below.refl _ _).alloc (Nat.le_refl _) _).trans (hb.mono (by simp))⟩
            · have k2' : (ki == 2) = false := by simpa using k2
              by_cases k3 : ki = 3
              · subst k3
                go_wp2_with (first
                  | (go_at_call 80; refine (l1in_any _ _ _ _).mono ?_; rintro r w1 ⟨rfl, hw⟩; obtain rfl := hw.symm)
                  | (go_at_call 108; refine (entryOk_any ⟨t, cl, sq, op, k, v, o⟩ hf _).mono ?_; rintro r w1 ⟨rfl, hb⟩))
                go_ret
                exact ⟨ret_bool (by rw [HR.out]; simp [hN]), ((Below.refl _ _).alloc (Nat.le_refl _) _)⟩
              · have k3' : (ki == 3) = false := by simpa using k3
                go_wp2_with (first
                  | (go_at_call 80; refine (l1in_any _ _ _ _).mono ?_; rintro r w1 ⟨rfl, hw⟩; obtain rfl := hw.symm)
                  | (go_at_call 108; refine (entryOk_any ⟨t, cl, sq, op, k, v, o⟩ hf _).mono ?_; rintro r w1 ⟨rfl, hb⟩))
                go_ret
                exact ⟨ret_bool (by rw [HR.out]; simp [k2, k3]), ((Below.refl _ _).alloc (Nat.le_refl _) _)⟩
          · have hvo' : (vo != 0) = true := by simpa using hvo
            go_wp2_with (first
              | (go_at_call 80; refine (l1in_any _ _ _ _).mono ?_; rintro r w1 ⟨rfl, hw⟩; obtain rfl := hw.symm)
              | (go_at_call 108; refine (entryOk_any ⟨t, cl, sq, op, k, v, o⟩ hf _).mono ?_; rintro r w1 ⟨rfl, hb⟩))
            go_ret
            exact ⟨ret_bool (by simp [recB, hardB, k1, hvo]), ((Below.refl _ _).alloc (Nat.le_refl _) _)⟩
        · have htm' : (tm != 0) = true := by simpa using htm
          go_wp2_with (first
            | (go_at_call 80; refine (l1in_any _ _ _ _).mono ?_; rintro r w1 ⟨rfl, hw⟩; obtain rfl := hw.symm)
            | (go_at_call 108; refine (entryOk_any ⟨t, cl, sq, op, k, v, o⟩ hf _).mono ?_; rintro r w1 ⟨rfl, hb⟩))
          go_ret
          exact ⟨ret_bool (by simp [recB, hardB, k1, htm]), ((Below.refl _ _).alloc (Nat.le_refl _) _)⟩
    · by_cases k1 : ki = 1
      · subst k1
        cases hix : (ix == 0)
        · go_wp2_with (first
            | (go_at_call 80; refine (l1in_any _ _ _ _).mono ?_; rintro r w1 ⟨rfl, hw⟩; obtain rfl := hw.symm)
            | (go_at_call 108; refine (entryOk_any ⟨t, cl, sq, op, k, v, o⟩ hf _).mono ?_; rintro r w1 ⟨rfl, hb⟩))
          go_ret
          exact ⟨ret_bool (by simp [recB, hardB, hix]), ((Below.refl _ _).alloc (Nat.le_refl _) _)⟩
        · cases ha : inB tm 0 1073741824
          · go_wp2_with (first
              | (go_at_call 80; refine (l1in_any _ _ _ _).mono ?_; rintro r w1 ⟨rfl, hw⟩; obtain rfl := hw.symm)
              | (go_at_call 108; refine (entryOk_any ⟨t, cl, sq, op, k, v, o⟩ hf _).mono ?_; rintro r w1 ⟨rfl, hb⟩))
            go_ret
            exact ⟨ret_bool (by simp [recB, hardB, hix, hN, ha]), ((Below.refl _ _).alloc (Nat.le_refl _) _)⟩
          · cases hb : inB vo 0 7
            · go_wp2_with (first
                | (go_at_call 80; refine (l1in_any _ _ _ _).mono ?_; rintro r w1 ⟨rfl, hw⟩; obtain rfl := hw.symm)
                | (go_at_call 108; refine (entryOk_any ⟨t, cl, sq, op, k, v, o⟩ hf _).mono ?_; rintro r w1 ⟨rfl, hb⟩))
              go_ret
              exact ⟨ret_bool (by simp [recB, hardB, hix, hN, ha, hb]), ((Below.refl _ _).alloc (Nat.le_refl _) _)⟩
            · by_cases hp : (0 : Int) < tm
              · go_wp2_with (first
                  | (go_at_call 80; refine (l1in_any _ _ _ _).mono ?_; rintro r w1 ⟨rfl, hw⟩; obtain rfl := hw.symm)
                  | (go_at_call 108; refine (entryOk_any ⟨t, cl, sq, op, k, v, o⟩ hf _).mono ?_; rintro r w1 ⟨rfl, hb⟩))
                go_ret
                exact ⟨ret_bool (by simp [recB, hardB, hix, hN, ha, hb, hp]), ((Below.refl _ _).alloc (Nat.le_refl _) _)⟩
              · go_wp2_with (first
                  | (go_at_call 80; refine (l1in_any _ _ _ _).mono ?_; rintro r w1 ⟨rfl, hw⟩; obtain rfl := hw.symm)
                  | (go_at_call 108; refine (entryOk_any ⟨t, cl, sq, op, k, v, o⟩ hf _).mono ?_; rintro r w1 ⟨rfl, hb⟩))
                go_ret
                exact ⟨ret_bool (by simp [recB, hardB, hix, hN, ha, hb, hp]), ((Below.refl _ _).alloc (Nat.le_refl _) _)⟩
      · have k1' : (ki == 1) = false := by simpa using k1
        by_cases htm : tm = 0
        · have htm' : (tm != 0) = false := by simpa using htm
          by_cases hvo : vo = 0
          · have hvo' : (vo != 0) = false := by simpa using hvo
            have hR : recB ⟨ki, tm, vo, ix, ⟨t, cl, sq, op, k, v, o⟩⟩ = if ki = 2 then inB ix 1 4096 && entB ⟨t, cl, sq, op, k, v, o⟩ else ki == 3 && (noEntB ⟨t, cl, sq, op, k, v, o⟩ && inB ix 0 4096) := by simp [recB, k1, htm, hvo]
            have HR : Hid (recB ⟨ki, tm, vo, ix, ⟨t, cl, sq, op, k, v, o⟩⟩ = if ki = 2 then inB ix 1 4096 && entB ⟨t, cl, sq, op, k, v, o⟩ else ki == 3 && (noEntB ⟨t, cl, sq, op, k, v, o⟩ && inB ix 0 4096)) := hR
            clear htm hvo hR
            by_cases k2 : ki = 2
            · subst k2
              cases hi : inB ix 1 4096
              · go_wp2_with (first
                  | (go_at_call 80; refine (l1in_any _ _ _ _).mono ?_; rintro r w1 ⟨rfl, hw⟩; obtain rfl := hw.symm)
                  | (go_at_call 108; refine (entryOk_any ⟨t, cl, sq, op, k, v, o⟩ hf _).mono ?_; rintro r w1 ⟨rfl, hb⟩))
                go_ret
                exact ⟨ret_bool (by rw [HR.out]; simp [hi]), ((Below.refl _ _).alloc (Nat.le_refl _) _)⟩
              · go_wp2_with (first
                  | (go_at_call 80; refine (l1in_any _ _ _ _).mono ?_; rintro r w1 ⟨rfl, hw⟩; obtain rfl := hw.symm)
                  | (go_at_call 108; refine (entryOk_any ⟨t, cl, sq, op, k, v, o⟩ hf _).mono ?_; rintro r w1 ⟨rfl, hb⟩))
                go_ret
                exact ⟨ret_bool (by rw [HR.out]; simp [hi]), ((Below.refl _ _).alloc (Nat.le_refl _) _).trans (hb.mono (by simp))⟩
            · have k2' : (ki == 2) = false := by simpa using k2
              by_cases k3 : ki = 3
              · subst k3
                go_wp2_with (first
                  | (go_at_call 80; refine (l1in_any _ _ _ _).mono ?_; rintro r w1 ⟨rfl, hw⟩; obtain rfl := hw.symm)
                  | (go_at_call 108; refine (entryOk_any ⟨t, cl, sq, op, k, v, o⟩ hf _).mono ?_; rintro r w1 ⟨rfl, hb⟩))
                go_ret
                exact ⟨ret_bool (by rw [HR.out]; simp [hN]), ((Below.refl _ _).alloc (Nat.le_refl _) _)⟩
              · have k3' : (ki == 3) = false := by simpa using k3
                go_wp2_with (first
                  | (go_at_call 80; refine (l1in_any _ _ _ _).mono ?_; rintro r w1 ⟨rfl, hw⟩; obtain rfl := hw.symm)
                  | (go_at_call 108; refine (entryOk_any ⟨t, cl, sq, op, k, v, o⟩ hf _).mono ?_; rintro r w1 ⟨rfl, hb⟩))
                go_ret
                exact ⟨ret_bool (by rw [HR.out]; simp [k2, k3]), ((Below.refl _ _).alloc (Nat.le_refl _) _)⟩
          · have hvo' : (vo != 0) = true := by simpa using hvo
            go_wp2_with (first
              | (go_at_call 80; refine (l1in_any _ _ _ _).mono ?_; rintro r w1 ⟨rfl, hw⟩; obtain rfl := hw.symm)
              | (go_at_call 108; refine (entryOk_any ⟨t, cl, sq, op, k, v, o⟩ hf _).mono ?_; rintro r w1 ⟨rfl, hb⟩))
            go_ret
            exact ⟨ret_bool (by simp [recB, hardB, k1, hvo]), ((Below.refl _ _).alloc (Nat.le_refl _) _)⟩
        · have htm' : (tm != 0) = true := by simpa using htm
          go_wp2_with (first
            | (go_at_call 80; refine (l1in_any _ _ _ _).mono ?_; rintro r w1 ⟨rfl, hw⟩; obtain rfl := hw.symm)
            | (go_at_call 108; refine (entryOk_any ⟨t, cl, sq, op, k, v, o⟩ hf _).mono ?_; rintro r w1 ⟨rfl, hb⟩))
          go_ret
          exact ⟨ret_bool (by simp [recB, hardB, k1, htm]), ((Below.refl _ _).alloc (Nat.le_refl _) _)⟩
end Go.Proofs.YtjoflnnomebkpaaDoor

/-
  Recover, plain.
-/
namespace Go.Proofs.YtjoflnnomebkpaaDoor
open Go.RowKit
set_option linter.unusedVariables false
set_option linter.unusedSimpArgs false

/-- the frame that r begins with: 0, 1 (torn), 2 (its length) -/
def cutC (r : List Int) : Nat := if r.length ≤ 8 then 1 else if inB (8 + wordN r 0) 9 16384 = false then 2 else if (r.length : Int) < 8 + wordN r 0 then 1 else 0
def cutN (r : List Int) : Nat := (8 + wordN r 0).toNat
def ent0 : Ent := ⟨0, 0, 0, 0, ⟨#[]⟩, ⟨#[]⟩, ⟨#[]⟩⟩
/-- the record of the kind's byte k, and what is left -/
def rdRec (k : Int) (s : RSt) : Rec × RSt :=
  if k = 11 then (⟨1, (rdNum s).1, (rdNum (rdNum s).2).1, 0, ent0⟩, (rdNum (rdNum s).2).2)
  else if k = 12 then (⟨2, 0, 0, (rdNum s).1, (rdEnt (rdNum s).2).1⟩, (rdEnt (rdNum s).2).2)
  else (⟨3, 0, 0, (rdNum s).1, ent0⟩, (rdNum s).2)
def frec (f : List Int) : Rec := (rdRec (f[8]?.getD 0) (some (f.drop 9))).1
def fleft (f : List Int) : RSt := (rdRec (f[8]?.getD 0) (some (f.drop 9))).2
/-- what is wrong with a frame: a sentinel's number -/
def readE (f : List Int) : Nat :=
  if sumC f ≠ 0 then sumC f else if inB (f[8]?.getD 0) 11 13 = false then 4 else if fleft f ≠ some [] then 5 else if recB (frec f) = false then 6 else 0
structure Stt where
  t : Int
  v : Int
  log : List Ent
def lastT (d : Int) (log : List Ent) : Int := if log.length = 0 then d else (log[log.length - 1]?.getD ent0).t
def fitsB (s : Stt) (r : Rec) : Bool :=
  if r.ki = 1 then (decide (s.t < r.tm) || (r.tm == s.t && (s.v == 0 || s.v == r.vo)))
  else if r.ki = 2 then (r.ix == (s.log.length : Int) + 1 && inB r.e.t (lastT 1 s.log) s.t) else decide (r.ix ≤ (s.log.length : Int))
def thenS (s : Stt) (r : Rec) : Stt := if r.ki = 1 then ⟨r.tm, r.vo, s.log⟩ else if r.ki = 2 then ⟨s.t, s.v, s.log ++ [r.e]⟩ else ⟨s.t, s.v, s.log.take r.ix.toNat⟩
/-- what is wrong with the record that r begins with -/
def oneE (r : List Int) (s : Stt) : Nat :=
  if cutC r ≠ 0 then cutC r + 6 else if readE (r.take (cutN r)) ≠ 0 then readE (r.take (cutN r)) else if fitsB s (frec (r.take (cutN r))) = false then 9 else 0
def stopC (e : Nat) : Int := if e = 7 then 1 else if e = 8 then 2 else if e = 3 then 3 else if e = 9 then 5 else if e = 0 then 0 else 4
def runR (l : List Int) : Nat → Nat → Nat → Stt → Nat × Nat × Nat × Stt
  | 0, g, n, s => (0, g, n, s)
  | f + 1, g, n, s =>
    if g < l.length then
      if oneE (l.drop g) s ≠ 0 then (oneE (l.drop g) s, g, n, s) else runR l f (g + cutN (l.drop g)) (n + 1) (thenS s (frec ((l.drop g).take (cutN (l.drop g)))))
    else (0, g, n, s)
/-- the answer's parts: the error's number, Good, Records, Stable -/
def rcv (l : List Int) : Nat × Nat × Nat × Stt := runR l l.length 0 0 ⟨0, 0, []⟩

theorem cutC_zero {r : List Int} (h : cutC r = 0) : 8 < r.length ∧ 9 ≤ cutN r ∧ cutN r ≤ 16384 ∧ cutN r ≤ r.length ∧ (cutN r : Int) = 8 + wordN r 0 := by
  unfold cutC at h
  split at h
  · cases h
  split at h
  · cases h
  next h1 h2 =>
  split at h
  · cases h
  next h3 =>
  have h4 : inB (8 + wordN r 0) 9 16384 = true := by simpa using h2
  rw [inB_iff] at h4
  unfold cutN
  omega
theorem oneE_cut {r : List Int} {s : Stt} (h : oneE r s = 0) : cutC r = 0 := by
  unfold oneE at h
  split at h
  · omega
  · next h1 => exact Decidable.not_not.1 h1
theorem oneE_read {r : List Int} {s : Stt} (h : oneE r s = 0) : readE (r.take (cutN r)) = 0 := by
  unfold oneE at h
  rw [if_neg (fun x => x (oneE_cut (by unfold oneE; exact h)))] at h
  split at h
  · next h1 => exact absurd h h1
  · next h1 => exact Decidable.not_not.1 h1
theorem oneE_fits {r : List Int} {s : Stt} (h : oneE r s = 0) : fitsB s (frec (r.take (cutN r))) = true := by
  have h2 := oneE_read h
  have h1 := oneE_cut h
  unfold oneE at h
  rw [if_neg (fun x => x h1), if_neg (fun x => x h2)] at h
  split at h
  · cases h
  · next h3 => simpa using h3
theorem wordN_take (r : List Int) (n : Nat) (i : Nat) (h : i + 4 ≤ n) : wordN (r.take n) i = wordN r i := by
  unfold wordN
  have e : ∀ k, k < n → (r.take n)[k]? = r[k]? := fun k hk => by rw [List.getElem?_take, if_pos hk]
  rw [e i (by omega), e (i + 1) (by omega), e (i + 2) (by omega), e (i + 3) (by omega)]
/-- a frame of the right length has the right sum or the wrong one -/
theorem sumC_cut {r : List Int} (h : cutC r = 0) : sumC (r.take (cutN r)) = if wordN (r.take (cutN r)) 4 ≠ (crcOf ((r.take (cutN r)).drop 8) : Nat) then 3 else 0 := by
  obtain ⟨h1, h2, h3, h4, h5⟩ := cutC_zero h
  have hl : (r.take (cutN r)).length = cutN r := by rw [List.length_take]; omega
  unfold sumC
  rw [hl, if_neg (fun x => x ⟨h2, h3⟩), wordN_take r (cutN r) 0 (by omega), if_neg (fun x => x (by omega))]

theorem runR_fuel (l : List Int) : ∀ (f f' g n : Nat) (s : Stt), l.length - g ≤ f → l.length - g ≤ f' → runR l f g n s = runR l f' g n s := by
  intro f
  induction f with
  | zero =>
    intro f' g n s h _
    cases f' with
    | zero => rfl
    | succ f' => rw [runR, runR, if_neg (by omega)]
  | succ f ih =>
    intro f' g n s h h'
    by_cases hg : g < l.length
    · cases f' with
      | zero => omega
      | succ f' =>
        rw [runR, runR, if_pos hg, if_pos hg]
        by_cases ho : oneE (l.drop g) s ≠ 0
        · rw [if_pos ho, if_pos ho]
        · rw [if_neg ho, if_neg ho]
          have hc := cutC_zero (oneE_cut (Decidable.not_not.1 ho))
          exact ih f' _ _ _ (by omega) (by omega)
    · cases f' with
      | zero => rw [runR, runR, if_neg hg]
      | succ f' => rw [runR, runR, if_neg hg, if_neg hg]

/-- a run under way -/
def Und (l : List Int) (R : Nat × Nat × Nat × Stt) (g n : Nat) (s : Stt) : Prop := runR l (l.length - g) g n s = R
theorem Und.start (l : List Int) : Und l (rcv l) 0 0 ⟨0, 0, []⟩ := by unfold Und rcv; rw [Nat.sub_zero]
theorem Und.done {l : List Int} {R : Nat × Nat × Nat × Stt} {g n : Nat} {s : Stt} (h : Und l R g n s) (hg : ¬ g < l.length) : R = (0, g, n, s) := by
  unfold Und at h
  rw [show l.length - g = 0 by omega, runR] at h
  exact h.symm
theorem Und.stop {l : List Int} {R : Nat × Nat × Nat × Stt} {g n : Nat} {s : Stt} (h : Und l R g n s) (hg : g < l.length) (ho : oneE (l.drop g) s ≠ 0) : R = (oneE (l.drop g) s, g, n, s) := by
  unfold Und at h
  obtain ⟨f, hf⟩ : ∃ f, l.length - g = f + 1 := ⟨l.length - g - 1, by omega⟩
  rw [hf, runR, if_pos hg, if_pos ho] at h
  exact h.symm
theorem Und.go {l : List Int} {R : Nat × Nat × Nat × Stt} {g n : Nat} {s : Stt} (h : Und l R g n s) (hg : g < l.length) (ho : oneE (l.drop g) s = 0) :
    Und l R (g + cutN (l.drop g)) (n + 1) (thenS s (frec ((l.drop g).take (cutN (l.drop g))))) := by
  unfold Und at h ⊢
  obtain ⟨f, hf⟩ : ∃ f, l.length - g = f + 1 := ⟨l.length - g - 1, by omega⟩
  have hc := cutC_zero (oneE_cut ho)
  rw [hf, runR, if_pos hg, if_neg (fun x => x ho)] at h
  rw [← h]
  exact runR_fuel l _ _ _ _ _ (Nat.le_refl _) (by omega)

/-- the kinds -/
theorem frec_hard {f : List Int} (h : f[8]?.getD 0 = 11) : frec f = ⟨1, (rdNum (some (f.drop 9))).1, (rdNum (rdNum (some (f.drop 9))).2).1, 0, ent0⟩ ∧ fleft f = (rdNum (rdNum (some (f.drop 9))).2).2 := by
  unfold frec fleft rdRec; rw [h]; exact ⟨rfl, rfl⟩
theorem frec_add {f : List Int} (h : f[8]?.getD 0 = 12) : frec f = ⟨2, 0, 0, (rdNum (some (f.drop 9))).1, (rdEnt (rdNum (some (f.drop 9))).2).1⟩ ∧ fleft f = (rdEnt (rdNum (some (f.drop 9))).2).2 := by
  unfold frec fleft rdRec; rw [h]; exact ⟨rfl, rfl⟩
theorem frec_cut {f : List Int} (h : f[8]?.getD 0 = 13) : frec f = ⟨3, 0, 0, (rdNum (some (f.drop 9))).1, ent0⟩ ∧ fleft f = (rdNum (some (f.drop 9))).2 := by
  unfold frec fleft rdRec; rw [h]; exact ⟨rfl, rfl⟩
theorem ent0_fits : ent0.fits := ⟨by decide, by decide, by decide⟩
theorem frec_fits (f : List Int) : (frec f).e.fits := by
  unfold frec rdRec
  split
  · exact ent0_fits
  split
  · exact rdEnt_fits _
  · exact ent0_fits
theorem frec_ki (f : List Int) : (frec f).ki = 1 ∨ (frec f).ki = 2 ∨ (frec f).ki = 3 := by
  unfold frec rdRec
  split
  · exact .inl rfl
  split
  · exact .inr (.inl rfl)
  · exact .inr (.inr rfl)
end Go.Proofs.YtjoflnnomebkpaaDoor

/-
  The shortest form of a number, as a list of bytes.
-/
namespace Go.Proofs.YtjoflnnomebkpaaDoor
open Go.RowKit
set_option linter.unusedVariables false

/-- with so many steps at the most -/
def numA : Nat → Nat → List Int
  | 0, n => [(n : Int)]
  | f + 1, n => if n < 128 then [(n : Int)] else ((n % 128 + 128 : Nat) : Int) :: numA f (n / 128)
def numL (n : Nat) : List Int := numA n n

theorem numA_enough (f : Nat) : ∀ g n : Nat, n ≤ f → n ≤ g → numA f n = numA g n := by
  induction f with
  | zero =>
    intro g n hf hg
    have e : n = 0 := by omega
    subst e
    cases g with
    | zero => rfl
    | succ g => simp [numA]
  | succ f ih =>
    intro g n hf hg
    cases g with
    | zero =>
      have e : n = 0 := by omega
      subst e
      simp [numA]
    | succ g =>
      by_cases h : n < 128
      · simp [numA, h]
      · simp only [numA, if_neg h]
        rw [ih g (n / 128) (by omega) (by omega)]

theorem numL_small {n : Nat} (h : n < 128) : numL n = [(n : Int)] := by
  unfold numL
  cases n with
  | zero => rfl
  | succ n => simp [numA, h]
theorem numL_big {n : Nat} (h : ¬ n < 128) : numL n = ((n % 128 + 128 : Nat) : Int) :: numL (n / 128) := by
  unfold numL
  cases n with
  | zero => omega
  | succ n =>
    rw [numA, if_neg h, numA_enough n ((n + 1) / 128) ((n + 1) / 128) (by omega) (by omega)]
theorem numL_byte (n : Nat) : ∀ x ∈ numL n, 0 ≤ x ∧ x ≤ 255 := by
  induction n using Nat.strongRecOn with
  | ind n ih =>
    by_cases h : n < 128
    · rw [numL_small h]; intro x hx; simp at hx; subst hx; omega
    · rw [numL_big h]
      intro x hx
      rcases List.mem_cons.1 hx with rfl | hx
      · omega
      · exact ih (n / 128) (by omega) x hx
theorem numL_pos (n : Nat) : 0 < (numL n).length := by
  by_cases h : n < 128
  · rw [numL_small h]; simp
  · rw [numL_big h]; simp
theorem numL_len (k : Nat) : ∀ n : Nat, n < 128 ^ (k + 1) → (numL n).length ≤ k + 1 := by
  induction k with
  | zero => intro n h; rw [numL_small (by simpa using h)]; simp
  | succ k ih =>
    intro n h
    by_cases hn : n < 128
    · rw [numL_small hn]; simp
    · rw [numL_big hn, List.length_cons]
      have : n / 128 < 128 ^ (k + 1) := by
        rw [Nat.div_lt_iff_lt_mul (by decide)]
        rw [Nat.pow_succ] at h
        exact h
      have := ih _ this
      omega
theorem numL_len9 (n : Nat) (h : n < 9223372036854775808) : (numL n).length ≤ 9 := numL_len 8 n (by simpa using h)

/-- what 'byte(n) | 128' is -/
theorem or_128 (m : Nat) : bits .or .u8 ((m : Int) % 256) 128 = ((m % 128 + 128 : Nat) : Int) := by
  have e : (m : Int) % 256 = ((m % 256 : Nat) : Int) := by omega
  rw [e]
  have := u8_or_nat (m % 256) 128 (by omega) (by decide)
  refine this.trans ?_
  congr 1
  have h7 : m % 256 = m % 128 + 128 * (m / 128 % 2) := by omega
  have hj := nat_join 7 128 (m % 128) (by decide) (by omega)
  rcases (by omega : m / 128 % 2 = 0 ∨ m / 128 % 2 = 1) with h | h
  · rw [h7, h, Nat.or_comm]
    simpa [Nat.add_comm] using hj
  · have e2 : m % 256 = 128 ||| (m % 128) := by rw [hj]; omega
    rw [e2, Nat.or_comm, ← Nat.or_assoc, Nat.or_self, hj, Nat.add_comm]
end Go.Proofs.YtjoflnnomebkpaaDoor

/-
  Bytes that the call lays itself: one, none.
-/
namespace Go.Proofs.YtjoflnnomebkpaaDoor
open Go.RowKit
set_option linter.unusedVariables false

theorem Bs.one (w : World) (x : Int) (h : 0 ≤ x ∧ x ≤ 255) : Bs (w.alloc (.cells #[.int .u8 x] 5)) (.slice (some ⟨w.heap.size, 0, none⟩) 1 1) [x] := by
  have := (Own.lit w [x] #[.int .u8 x] rfl (by simpa using h) (by simp [maxLen])).bs (by simp [maxLen])
  simpa using this

theorem Own.lit0 (w : World) : Own (w.alloc (.cells #[] 5)) w.heap.size (.slice (some ⟨w.heap.size, 0, none⟩) 0 0) [] := Own.lit w [] #[] rfl (by simp) (by simp)

theorem Own.ne {w : World} {B : Nat} {v : Value} {l : List Int} (h : Own w B v l) {k : Nat} (hk : w.heap.size ≤ k) : v.ownBlock ≠ some k := by
  intro e
  have := (h.2.lt k e).2
  omega

end Go.Proofs.YtjoflnnomebkpaaDoor

/-
  impl.putNumber, impl.putNumbers, impl.putText, impl.putWord.
-/
namespace Go.Proofs.YtjoflnnomebkpaaDoor
open Go.RowKit
set_option linter.unusedVariables false

set_option maxHeartbeats 1000000 in
set_option maxRecDepth 100000 in
theorem putNumber_any (v : Value) (l : List Int) (n : Nat) (w : World) (B : Nat) (hv : Own w B v l) (hB : B ≤ w.heap.size) (hl : l.length ≤ 1000000000) (hn : n < 9223372036854775808) :
    Calls Tryd.prog 160 #[v, .int .i64 n] w fun e w' => ∃ v', e = .returned v' ∧ Own w' B v' (l ++ numL n) ∧ Grew w v w' v' := by
  go_enter Tryd.func160, Tryd.ntmps160
  go_wp2
  go_loopw [0, 1] (fun o i wr => ∃ (m : Nat) (l' : List Int), i = .int .i64 m ∧ m ≤ n ∧ Own wr B o (l ++ l') ∧ l' ++ numL m = numL n ∧ Grew w v wr o) (fun _ i _ => (intOf i).toNat)
  case atStart => exact ⟨n, [], rfl, Nat.le_refl _, by simpa using hv, by simp, Grew.refl _ _⟩
  case round =>
    obtain ⟨m, l', rfl, hmn, ho, hnum, hb⟩ := hrel
    have HN : Hid (l' ++ numL m = numL n) := hnum
    have hsz := hb.g.size
    have hlen : l'.length + (numL m).length ≤ 9 := by
      have h1 := congrArg List.length hnum
      have h2 := numL_len9 n hn
      simp at h1; omega
    have hpos := numL_pos m
    clear hnum
    by_cases hlt : m < 128
    · have HS : Hid (numL m = [(m : Int)]) := numL_small hlt
      go_wp2_with (at_builtin; refine wpl_append rfl (.tmp 15) (.tmp 18) rfl (ho.below ((Below.refl _ _).alloc (Nat.le_refl _) _)) rfl (Bs.one _ (m : Int) (by omega)) rfl (by simp) (by simp; omega) (by simp; omega) ?_; intro v' w' ho' hb')
      go_ret
      refine ⟨_, rfl, ?_, (hb.alloc _).trans hb'⟩
      rw [← HN.out, HS.out, ← List.append_assoc]
      exact ho'
    · have HS : Hid (numL m = ((m % 128 + 128 : Nat) : Int) :: numL (m / 128)) := numL_big hlt
      have hor := or_128 m
      go_wp2_with (at_builtin; refine wpl_append rfl (.tmp 7) (.tmp 11) rfl (ho.below ((Below.refl _ _).alloc (Nat.le_refl _) _)) rfl (Bs.one _ ((m % 128 + 128 : Nat) : Int) (by omega)) rfl (by simp) (by simp; omega) (by simp; omega) ?_; intro v' w' ho' hb')
      go_roundw
      case rel => exact ⟨m / 128, l' ++ [((m % 128 + 128 : Nat) : Int)], by go_num, by omega, by rw [← List.append_assoc]; exact ho', by rw [← HN.out, HS.out]; simp, (hb.alloc _).trans hb'⟩
      case measure => simp [intOf]; omega

/-- a slice of ints holds the numbers ns -/
def Ints (w : World) (v : Value) (ns : List Nat) : Prop :=
  ∃ b cap, v = .slice (some ⟨b, 0, none⟩) ns.length cap ∧ ∀ j, j < ns.length → w.cell? ⟨b, j, none⟩ = some (.int .i64 (ns[j]?.getD 0 : Nat))

def numsL (ns : List Nat) : List Int := ns.flatMap numL
theorem numsL_snoc (ns : List Nat) (k : Nat) (h : k < ns.length) : numsL (ns.take (k + 1)) = numsL (ns.take k) ++ numL (ns[k]?.getD 0) := by
  rw [List.take_succ_eq_append_getElem h, numsL, numsL, List.flatMap_append]
  simp [h]
theorem numsL_len (ns : List Nat) (h : ∀ n ∈ ns, n < 9223372036854775808) : (numsL ns).length ≤ 9 * ns.length := by
  induction ns with
  | nil => simp [numsL]
  | cons n r ih =>
    have h1 := numL_len9 n (h n (by simp))
    have h2 := ih (fun m hm => h m (by simp [hm]))
    simp only [numsL, List.flatMap_cons, List.length_append, List.length_cons] at h2 ⊢
    omega

set_option maxHeartbeats 1000000 in
set_option maxRecDepth 100000 in
theorem putNumbers_any (v : Value) (l : List Int) (ns : List Nat) (b cap : Nat) (w : World) (B : Nat) (hv : Own w B v l) (hB : B ≤ w.heap.size) (hl : l.length ≤ 900000000) (hns : ∀ n ∈ ns, n < 9223372036854775808) (hnl : ns.length ≤ 100)
    (hc : ∀ j, j < ns.length → w.cell? ⟨b, j, none⟩ = some (.int .i64 (ns[j]?.getD 0 : Nat))) (hfar : v.ownBlock ≠ some b) :
    Calls Tryd.prog 159 #[v, .slice (some ⟨b, 0, none⟩) ns.length cap] w fun e w' => ∃ v', e = .returned v' ∧ Own w' B v' (l ++ numsL ns) ∧ Grew w v w' v' := by
  go_enter Tryd.func159, Tryd.ntmps159
  go_wp2
  go_loopw [0, 9] (fun o i wr => ∃ k : Nat, k ≤ ns.length ∧ i = .int .i64 k ∧ Own wr B o (l ++ numsL (ns.take k)) ∧ Grew w v wr o) (fun _ i _ => ns.length - (intOf i).toNat)
  case atStart => exact ⟨0, Nat.zero_le _, rfl, by simpa [numsL] using hv, Grew.refl _ _⟩
  case round =>
    obtain ⟨k, hk, rfl, ho, hb⟩ := hrel
    have hsz := hb.g.size
    by_cases hlt : k < ns.length
    · have hlen := numsL_len (ns.take k) (fun n hn => hns n (List.mem_of_mem_take hn))
      rw [List.length_take] at hlen
      have hck : wr.cell? ⟨b, k, none⟩ = some (.int .i64 (ns[k]?.getD 0 : Nat)) := by rw [hb.cell (cell_lt (hc k hlt)) hfar]; exact hc k hlt
      have hn : ns[k]?.getD 0 < 9223372036854775808 := by simp [hlt]; exact hns _ (List.getElem_mem hlt)
      have HS : Hid (numsL (ns.take (k + 1)) = numsL (ns.take k) ++ numL (ns[k]?.getD 0)) := numsL_snoc ns k hlt
      generalize ns[k]?.getD 0 = n at hck hn HS
      clear hc
      go_wp2_with (go_at_call 160; refine (putNumber_any _ _ n _ B ho (by omega) (by simp; omega) hn).mono ?_; rintro e w' ⟨v', rfl, ho', hb'⟩)
      go_roundw
      case rel => exact ⟨k + 1, by omega, by go_num, by rw [HS.out, ← List.append_assoc]; exact ho', hb.trans hb'⟩
      case measure => simp [intOf]; omega
    · have e : k = ns.length := by omega
      subst e
      rw [List.take_length] at ho
      go_wp2
      go_ret
      exact ⟨_, rfl, ho, hb⟩

def textL (s : ByteArray) : List Int := numL s.size ++ strL s

set_option maxHeartbeats 1000000 in
set_option maxRecDepth 100000 in
theorem putText_any (v : Value) (l : List Int) (s : ByteArray) (w : World) (B : Nat) (hv : Own w B v l) (hB : B ≤ w.heap.size) (hl : l.length ≤ 1000000) (hs : s.size ≤ 1048576) :
    Calls Tryd.prog 173 #[v, .string s] w fun e w' => ∃ v', e = .returned v' ∧ Own w' B v' (l ++ textL s) ∧ Grew w v w' v' := by
  have h9 := numL_len9 s.size (by omega)
  have hpos := numL_pos s.size
  go_enter Tryd.func173, Tryd.ntmps173
  go_wp2_with (first
    | (go_at_call 160; refine (putNumber_any _ _ s.size _ B hv (by omega) (by omega) (by omega)).mono ?_; rintro e w1 ⟨v1, rfl, ho1, hb1⟩; have hsz := hb1.g.size)
    | (at_builtin; refine wpl_append_str rfl (.tmp 8) (.tmp 9) rfl ho1 (by simp; omega) rfl rfl (by simp; omega) (by omega) ?_; intro v2 w2 ho2 hb2))
  go_ret
  exact ⟨_, rfl, by rw [textL, ← List.append_assoc]; exact ho2, hb1.trans hb2⟩

/-- a word of four bytes, the lowest first -/
def wordL (x : Nat) : List Int := [((x % 256 : Nat) : Int), ((x / 256 % 256 : Nat) : Int), ((x / 65536 % 256 : Nat) : Int), ((x / 16777216 % 256 : Nat) : Int)]
theorem Bs.four (w : World) (x : Nat) (a b c d : Int) (ha : a = ((x % 256 : Nat) : Int)) (hb : b = ((x / 256 % 256 : Nat) : Int)) (hc : c = ((x / 65536 % 256 : Nat) : Int)) (hd : d = ((x / 16777216 % 256 : Nat) : Int)) :
    Bs (w.alloc (.cells #[.int .u8 a, .int .u8 b, .int .u8 c, .int .u8 d] 5)) (.slice (some ⟨w.heap.size, 0, none⟩) 4 4) (wordL x) := by
  subst ha hb hc hd
  have := (Own.lit w (wordL x) #[.int .u8 ((x % 256 : Nat) : Int), .int .u8 ((x / 256 % 256 : Nat) : Int), .int .u8 ((x / 65536 % 256 : Nat) : Int), .int .u8 ((x / 16777216 % 256 : Nat) : Int)] rfl (by simp only [wordL]; intro y hy; simp only [List.mem_cons, List.not_mem_nil, or_false] at hy; omega) (by simp [wordL, maxLen])).bs (by simp [wordL, maxLen])
  simpa [wordL] using this

set_option maxHeartbeats 1000000 in
set_option maxRecDepth 100000 in
theorem putWord_any (v : Value) (l : List Int) (x : Nat) (w : World) (B : Nat) (hv : Own w B v l) (hB : B ≤ w.heap.size) (hl : l.length ≤ 1000000) (hx : x < 4294967296) :
    Calls Tryd.prog 109 #[v, .int .u32 x] w fun e w' => ∃ v', e = .returned v' ∧ Own w' B v' (l ++ wordL x) ∧ Grew w v w' v' := by
  go_enter Tryd.func109, Tryd.ntmps109
  go_wp2_with (at_builtin; refine wpl_append rfl (.tmp 5) (.tmp 17) rfl (hv.below ((Below.refl _ _).alloc (Nat.le_refl _) _)) rfl (Bs.four _ x _ _ _ _ (by omega) (by omega) (by omega) (by omega)) rfl (by simp [wordL]) (by simp [wordL]; omega) (by simp; omega) ?_; intro v' w' ho' hb')
  go_ret
  exact ⟨_, rfl, ho', ((Grew.refl _ _).alloc _).trans hb'⟩

theorem textL_len (s : ByteArray) (h : s.size < 9223372036854775808) : (textL s).length ≤ 9 + s.size := by
  have := numL_len9 s.size h
  simp [textL, strL_len]; omega

theorem textL_pos (s : ByteArray) : 0 < (textL s).length := by
  have := numL_pos s.size
  simp [textL]; omega

theorem Grew.held {w w' : World} {v v' : Value} (h : Grew w v w' v') {b o : Nat} {x : Value} (hc : w.cell? ⟨b, o, none⟩ = some x) (hne : v.ownBlock ≠ some b) : w'.cell? ⟨b, o, none⟩ = some x := (h.cell (cell_lt hc) hne).trans hc
end Go.Proofs.YtjoflnnomebkpaaDoor

/-
  impl.sealFrame.
-/
namespace Go.Proofs.YtjoflnnomebkpaaDoor
open Go.RowKit
set_option linter.unusedVariables false

/-- a frame round a body -/
def frameL (l : List Int) : List Int := wordL l.length ++ wordL (crcOf l) ++ l

theorem crcOf_lt (l : List Int) (h8 : ∀ x ∈ l, 0 ≤ x ∧ x ≤ 255) : crcOf l < 4294967296 := xor_lt _ _ (crcSt_lt l h8 _) (by decide)

theorem Own.made (w : World) (n : Nat) (hn : n ≤ maxLen) : Own (w.alloc (.cells (madeCells #[.int .u8 0] n) 5)) w.heap.size (.slice (some ⟨w.heap.size, 0, none⟩) 0 n) [] :=
  ⟨by simp, by simpa using World.ownsRow_made (base := w.heap.size) (e := 5) (size := 1) w (madeCells #[.int .u8 0] n) n (Nat.le_refl _) hn (by rw [size_madeCells, Nat.mul_one])⟩

set_option maxHeartbeats 1000000 in
set_option maxRecDepth 100000 in
theorem sealFrame_any (v : Value) (l : List Int) (w : World) (hv : Bs w v l) (hpos : 0 < l.length) (hl : l.length ≤ 100000) :
    Calls Tryd.prog 83 #[v] w fun e w' => ∃ v', e = .returned v' ∧ Own w' w.heap.size v' (frameL l) ∧ Below w.heap.size w w' := by
  have hV : Hid (Bs w v l) := hv
  have hcrc := crcOf_lt l hv.2.1
  obtain ⟨i0, hi, hz0, hz1, hz2⟩ := info_parts infoU8
  have hmk : ∀ u : World, (Instr.makeSlice 22 (.int .i64 0) (.int .i64 (8 + (l.length : Int)))).run Tryd.prog u =
      .ok (.slice (some ⟨u.heap.size, 0, none⟩) 0 (8 + l.length)) (u.alloc (.cells (madeCells #[.int .u8 0] (8 + l.length)) 5)) := fun u => by
    have h := run_make (P := Tryd.prog) u 22 5 i0 (.int .u8 0) Tryd.underlying22 hi hz0 .i64 .i64 0 (8 + (l.length : Int)) (by omega) (by omega) (by rw [hz2]; omega) (by omega)
    have e : (8 + (l.length : Int)).toNat = 8 + l.length := by omega
    rw [e] at h
    simpa [hz1, Value.cells] using h
  obtain ⟨hml, h8, a, cap, rfl, hc⟩ := hv
  clear hc
  have hO := Own.made w (8 + l.length) (by unfold maxLen; omega)
  have hB : Below w.heap.size w (w.alloc (.cells (madeCells #[.int .u8 0] (8 + l.length)) 5)) := (Below.refl _ _).alloc (Nat.le_refl _) _
  have hsz : w.heap.size ≤ (w.alloc (.cells (madeCells #[.int .u8 0] (8 + l.length)) 5)).heap.size := hB.size
  have hw4 : ∀ x, (wordL x).length = 4 := fun x => rfl
  go_enter Tryd.func83, Tryd.ntmps83
  go_wp2_with (first
    | (go_at_call 110; refine (implCrc_any _ l _ (hV.out.below hB)).mono ?_; rintro e w' ⟨rfl, rfl⟩)
    | (go_at_call 109; refine (putWord_any _ [] l.length _ w.heap.size hO hsz (by simp) (by omega)).mono ?_; rintro e w1 ⟨v1, rfl, ho1, hg1⟩; replace hB := hB.trans (hg1.below hO hsz); replace hsz := hB.size; clear hO)
    | (go_at_call 109; refine (putWord_any _ _ (crcOf l) _ w.heap.size ho1 hsz (by simp [hw4]) hcrc).mono ?_; rintro e w2 ⟨v2, rfl, ho2, hg2⟩; replace hB := hB.trans (hg2.below ho1 hsz); replace hsz := hB.size)
    | (at_builtin; refine wpl_append rfl (.tmp 17) (.tmp 18) rfl ho2 rfl (hV.out.below hB) rfl hpos (by simp [hw4]; omega) hsz ?_; intro v3 w3 ho3 hg3; replace hB := hB.trans (hg3.below ho2 hsz)))
  go_ret
  exact ⟨_, rfl, by simpa [frameL] using ho3, hB⟩
end Go.Proofs.YtjoflnnomebkpaaDoor

/-
  spec.l1num, spec.l1text, spec.l1four, spec.l1frame.
-/
namespace Go.Proofs.YtjoflnnomebkpaaDoor
open Go.RowKit
set_option linter.unusedVariables false

set_option maxHeartbeats 1000000 in
set_option maxRecDepth 100000 in
theorem specNum_any (n : Nat) : n < 9223372036854775808 → ∀ w : World,
    Calls Tryd.prog 98 #[.int .i64 n] w fun e w' => ∃ v', e = .returned v' ∧ Own w' w.heap.size v' (numL n) ∧ Below w.heap.size w w' := by
  induction n using Nat.strongRecOn with
  | ind n ih =>
  intro hn w
  by_cases h : n < 128
  · clear ih
    have hO := Own.lit w [(n : Int)] #[.int .u8 (n : Int)] rfl (by simp; omega) (by simp [maxLen])
    rw [numL_small h]
    go_enter Tryd.func98, Tryd.ntmps98
    go_wp2
    go_ret
    exact ⟨_, rfl, by simpa using hO, (Below.refl _ _).alloc (Nat.le_refl _) _⟩
  · have hI : Hid (∀ w : World, Calls Tryd.prog 98 #[.int .i64 ((n / 128 : Nat) : Int)] w fun e w' => ∃ v', e = .returned v' ∧ Own w' w.heap.size v' (numL (n / 128)) ∧ Below w.heap.size w w') := ih (n / 128) (by omega) (by omega)
    have hO : Own (w.alloc (.cells #[.int .u8 ((n : Int) % 128 + 128)] 5)) w.heap.size (.slice (some ⟨w.heap.size, 0, none⟩) 1 1) [(n : Int) % 128 + 128] := Own.lit w [(n : Int) % 128 + 128] #[.int .u8 ((n : Int) % 128 + 128)] rfl (by simp; omega) (by simp [maxLen])
    have HO : Hid (Own (w.alloc (.cells #[.int .u8 ((n : Int) % 128 + 128)] 5)) w.heap.size (.slice (some ⟨w.heap.size, 0, none⟩) 1 1) [(n : Int) % 128 + 128]) := hO
    have eN : ((n % 128 + 128 : Nat) : Int) = (n : Int) % 128 + 128 := by omega
    have h9 := numL_len9 (n / 128) (by omega)
    have hp := numL_pos (n / 128)
    rw [numL_big h, eN]
    clear ih hO eN
    go_enter Tryd.func98, Tryd.ntmps98
    go_wp2_with (first
      | (go_at_call 98; refine Calls.mono (hI.out _) ?_; rintro e w1 ⟨v1, rfl, ho1, hb1⟩; have hz := hb1.size; simp at hz)
      | (at_builtin; refine wpl_append rfl (.tmp 18) (.tmp 19) rfl (HO.out.below hb1) rfl (ho1.bs (by unfold maxLen; omega)) rfl hp (by simp; omega) (by omega) ?_; intro v2 w2 ho2 hg2))
    go_ret
    exact ⟨_, rfl, by simpa using ho2, ((Below.refl _ _).alloc (Nat.le_refl _) _).trans ((hb1.mono (by simp)).trans (hg2.below (HO.out.below hb1) (by omega)))⟩

theorem strL_get (s : ByteArray) (k : Nat) (h : k < s.size) : (strL s).take (k + 1) = (strL s).take k ++ [((s[k]'h).toNat : Int)] := by
  rw [List.take_succ_eq_append_getElem (by rw [strL_len]; exact h)]
  congr 1
  simp [strL]
  rfl

set_option maxHeartbeats 1000000 in
set_option maxRecDepth 100000 in
theorem specText_any (s : ByteArray) (w : World) (hs : s.size ≤ 1048576) :
    Calls Tryd.prog 135 #[.string s] w fun e w' => ∃ v', e = .returned v' ∧ Own w' w.heap.size v' (textL s) ∧ Below w.heap.size w w' := by
  have h9 := numL_len9 s.size (by omega)
  go_enter Tryd.func135, Tryd.ntmps135
  go_wp2_with (go_at_call 98; refine (specNum_any s.size (by omega) _).mono ?_; rintro e w1 ⟨v1, rfl, ho1, hb1⟩)
  go_loopw [3, 4] (fun o i wr => ∃ k : Nat, k ≤ s.size ∧ i = .int .i64 k ∧ Own wr w.heap.size o (numL s.size ++ (strL s).take k) ∧ Below w.heap.size w wr) (fun _ i _ => s.size - (intOf i).toNat)
  case atStart => exact ⟨0, Nat.zero_le _, rfl, by simpa using ho1, hb1⟩
  case round =>
    obtain ⟨k, hk, rfl, ho, hb⟩ := hrel
    have hz := hb.size
    have hl : ((strL s).take k).length ≤ k := List.length_take_le _ _
    clear ho1 hb1
    by_cases hlt : k < s.size
    · have HS : Hid ((strL s).take (k + 1) = (strL s).take k ++ [((s[k]'hlt).toNat : Int)]) := strL_get s k hlt
      have h8 : ((s[k]'hlt).toNat : Int) ≤ 255 := by have := (s[k]'hlt).toNat_lt; omega
      go_wp2_with (at_builtin; refine wpl_append rfl (.tmp 14) (.tmp 18) rfl (ho.below ((Below.refl _ _).alloc (Nat.le_refl _) _)) rfl (Bs.one _ ((s[k]'hlt).toNat : Int) (by omega)) rfl (by simp) (by simp; omega) (by simp; omega) ?_; intro v2 w2 ho2 hg2)
      go_roundw
      case rel => exact ⟨k + 1, by omega, by go_num, by rw [HS.out, ← List.append_assoc]; exact ho2, hb.trans (((Below.refl _ _).alloc (by omega) _).trans (hg2.below (ho.below ((Below.refl _ _).alloc (Nat.le_refl _) _)) (by simp; omega)))⟩
      case measure => simp [intOf]; omega
    · have e : (strL s).take k = strL s := List.take_of_length_le (by rw [strL_len]; omega)
      rw [e] at ho
      go_wp2
      go_ret
      exact ⟨_, rfl, ho, hb⟩

theorem wordL_int (x : Nat) (hx : x < 4294967296) : wordL x = [(x : Int) % 256, (x : Int) / 256 % 256, (x : Int) / 65536 % 256, (x : Int) / 16777216] := by
  unfold wordL
  congr 4 <;> omega

set_option maxHeartbeats 1000000 in
theorem specFour_any (x : Nat) (w : World) (hx : x < 4294967296) :
    Calls Tryd.prog 121 #[.int .u32 x] w fun e w' => ∃ v', e = .returned v' ∧ Own w' w.heap.size v' (wordL x) ∧ Below w.heap.size w w' := by
  have hO := Own.lit w [(x : Int) % 256, (x : Int) / 256 % 256, (x : Int) / 65536 % 256, (x : Int) / 16777216] #[.int .u8 ((x : Int) % 256), .int .u8 ((x : Int) / 256 % 256), .int .u8 ((x : Int) / 65536 % 256), .int .u8 ((x : Int) / 16777216)] rfl (by intro y hy; simp only [List.mem_cons, List.not_mem_nil, or_false] at hy; omega) (by simp [maxLen])
  have HO : Hid _ := hO
  clear hO
  rw [wordL_int x hx]
  go_enter Tryd.func121, Tryd.ntmps121
  go_wp2
  go_ret
  exact ⟨_, rfl, HO.out, (Below.refl _ _).alloc (Nat.le_refl _) _⟩

end Go.Proofs.YtjoflnnomebkpaaDoor

/-
  spec.l1frame.
-/
namespace Go.Proofs.YtjoflnnomebkpaaDoor
open Go.RowKit
set_option linter.unusedVariables false

set_option maxHeartbeats 200000 in
set_option maxRecDepth 100000 in
theorem specFrame_any (v : Value) (l : List Int) (w : World) (hv : Bs w v l) (hpos : 0 < l.length) (hl : l.length ≤ 100000) :
    Calls Tryd.prog 100 #[v] w fun e w' => ∃ v', e = .returned v' ∧ Own w' w.heap.size v' (frameL l) ∧ Below w.heap.size w w' := by
  have hV : Hid (Bs w v l) := hv
  have hcrc := crcOf_lt l hv.2.1
  obtain ⟨hml, h8, a, cap, rfl, hc⟩ := hv
  clear hc
  have hw4 : ∀ x, (wordL x).length = 4 := fun x => rfl
  have hF : frameL l = wordL l.length ++ wordL (crcOf l) ++ l := rfl
  rw [hF]
  clear hF
  generalize hc : crcOf l = c at hcrc
  have HC : Hid (crcOf l = c) := hc
  clear hc
  have hfirst : True := trivial
  go_enter Tryd.func100, Tryd.ntmps100
  go_wp2_with (first
    | (go_at_call 122; refine (specCrc_any _ l _ (hV.out.below hB)).mono ?_; rw [HC.out]; rintro e w' ⟨rfl, rfl⟩)
    | (go_at_call 121; clear hfirst; refine (specFour_any l.length _ (by omega)).mono ?_; rintro e w1 ⟨v1, rfl, ho1, hb1⟩; have hB := hb1; have hz1 := hb1.size)
    | (go_at_call 121; refine (specFour_any c _ hcrc).mono ?_; rintro e w2 ⟨v2, rfl, ho2, hb2⟩; replace hB := hB.trans (hb2.mono hz1); have hz2 := hB.size; have hp1 := ho1.below hb2)
    | (at_builtin; refine wpl_append rfl (.tmp 8) (.tmp 11) rfl hp1 rfl (ho2.bs (by unfold maxLen; rw [hw4]; omega)) rfl (by rw [hw4]; omega) (by simp [hw4]) hz2 ?_; intro v3 w3 ho3 hg3; replace hB := hB.trans (hg3.below hp1 hz2); have hz3 := hB.size)
    | (at_builtin; refine wpl_append rfl (.tmp 13) (.tmp 14) rfl ho3 rfl (hV.out.below hB) rfl hpos (by simp [hw4]; omega) hz3 ?_; intro v4 w4 ho4 hg4; replace hB := hB.trans (hg4.below ho3 hz3)))
  go_ret
  exact ⟨_, rfl, by simpa using ho4, hB⟩
end Go.Proofs.YtjoflnnomebkpaaDoor

/-
  impl.putCmd.
-/
namespace Go.Proofs.YtjoflnnomebkpaaDoor
open Go.RowKit
set_option linter.unusedVariables false

def cmdL (cl sq op : Nat) (k v o : ByteArray) : List Int := numsL [cl, sq, op] ++ textL k ++ textL v ++ textL o

theorem Ints.three (w : World) (a b c : Nat) : ∀ j, j < [a, b, c].length → (w.alloc (.cells #[.int .i64 a, .int .i64 b, .int .i64 c] 3)).cell? ⟨w.heap.size, j, none⟩ = some (.int .i64 ([a, b, c][j]?.getD 0 : Nat)) := by
  intro j hj
  rw [World.cell?_alloc_new]
  match j, hj with
  | 0, _ => rfl
  | 1, _ => rfl
  | 2, _ => rfl

set_option maxHeartbeats 1000000 in
set_option maxRecDepth 100000 in
theorem putCmd_any (v : Value) (l : List Int) (cl sq op : Nat) (k vl o : ByteArray) (w : World) (B : Nat) (hv : Own w B v l) (hB : B ≤ w.heap.size) (hl : l.length ≤ 100000)
    (h1 : cl < 9223372036854775808) (h2 : sq < 9223372036854775808) (h3 : op < 9223372036854775808) (hk : k.size ≤ 64) (hvl : vl.size ≤ 64) (ho : o.size ≤ 64) :
    Calls Tryd.prog 172 #[v, .agg #[.int .i64 cl, .int .i64 sq, .int .i64 op, .string k, .string vl, .string o]] w fun e w' => ∃ v', e = .returned v' ∧ Own w' B v' (l ++ cmdL cl sq op k vl o) ∧ Grew w v w' v' := by
  have n0 := hv.ne (Nat.le_refl _)
  have n1 : v.ownBlock ≠ some (w.heap.size + 1) := hv.ne (Nat.le_succ w.heap.size)
  have hb0 : ∀ o1 o2 : Obj, Below w.heap.size w ((w.alloc o1).alloc o2) := fun o1 o2 => ((Below.refl _ _).alloc (Nat.le_refl _) _).alloc (by simp) _
  have hA : ∀ o1 o2 : Obj, Own ((w.alloc o1).alloc o2) B v l := fun o1 o2 => hv.below (hb0 o1 o2)
  have hn : (numsL [cl, sq, op]).length ≤ 27 := numsL_len [cl, sq, op] (by simp; omega)
  have t1 := textL_len k (by omega)
  have t2 := textL_len vl (by omega)
  have hI := Ints.three (w.alloc (.cells #[.int .i64 cl, .int .i64 sq, .int .i64 op, .string k, .string vl, .string o] 90)) cl sq op
  have hC := putNumbers_any v l [cl, sq, op] (w.heap.size + 1) 3 _ B (hA (.cells #[.int .i64 cl, .int .i64 sq, .int .i64 op, .string k, .string vl, .string o] 90) (.cells #[.int .i64 cl, .int .i64 sq, .int .i64 op] 3)) (by simp; omega) (by omega) (by simp; omega) (by simp) (by simpa using hI) n1
  have HC : Hid _ := hC
  clear hA hI hb0 hC
  go_enter Tryd.func172, Tryd.ntmps172
  go_wp2_with (first
    | (go_at_call 159; (refine Calls.mono HC.out ?_; clear HC; rintro e w1 ⟨v1, rfl, ho1, hg1⟩; have hz : w.heap.size < w1.heap.size := (by have := hg1.g.size; simp at this; omega); have c3 := hg1.held (b := w.heap.size) (o := 3) (x := .string k) (by simp [go_sem]) n0; have c4 := hg1.held (b := w.heap.size) (o := 4) (x := .string vl) (by simp [go_sem]) n0; have c5 := hg1.held (b := w.heap.size) (o := 5) (x := .string o) (by simp [go_sem]) n0; have f1 : v1.ownBlock ≠ some w.heap.size := hg1.far (by simp; omega) n0))
    | (go_at_call 173; refine (putText_any _ _ k _ B ho1 (by omega) (by simp; omega) (by omega)).mono ?_; rintro e w2 ⟨v2, rfl, ho2, hg2⟩; have hz2 := hg2.g.size; have d4 := hg2.held c4 f1; have d5 := hg2.held c5 f1; have f2 := hg2.far hz f1; clear ho1 c4 c5)
    | (go_at_call 173; refine (putText_any _ _ vl _ B ho2 (by omega) (by simp; omega) (by omega)).mono ?_; rintro e w3 ⟨v3, rfl, ho3, hg3⟩; have hz3 := hg3.g.size; have e5 := hg3.held d5 f2; clear ho2 d5)
    | (go_at_call 173; refine (putText_any _ _ o _ B ho3 (by omega) (by simp; omega) (by omega)).mono ?_; rintro e w4 ⟨v4, rfl, ho4, hg4⟩))
  go_ret
  refine ⟨_, rfl, ?_, ((((Grew.refl _ _).alloc _).alloc _).trans (hg1.trans (hg2.trans (hg3.trans hg4))))⟩
  simpa [cmdL, List.append_assoc] using ho4
end Go.Proofs.YtjoflnnomebkpaaDoor

/-
  spec.l1cmdBytes.
-/
namespace Go.Proofs.YtjoflnnomebkpaaDoor
open Go.RowKit
set_option linter.unusedVariables false

set_option maxHeartbeats 2000000 in
set_option maxRecDepth 100000 in
theorem specCmdBytes_any (cl sq op : Nat) (k vl o : ByteArray) (w : World)
    (h1 : cl < 9223372036854775808) (h2 : sq < 9223372036854775808) (h3 : op < 9223372036854775808) (hk : k.size ≤ 64) (hvl : vl.size ≤ 64) (hol : o.size ≤ 64) :
    Calls Tryd.prog 120 #[.agg #[.int .i64 cl, .int .i64 sq, .int .i64 op, .string k, .string vl, .string o]] w fun e w' =>
      ∃ v', e = .returned v' ∧ Own w' w.heap.size v' (cmdL cl sq op k vl o) ∧ Below w.heap.size w w' := by
  have l1 := numL_len9 cl h1
  have l2 := numL_len9 sq h2
  have l3 := numL_len9 op h3
  have l4 := textL_len k (by omega)
  have l5 := textL_len vl (by omega)
  have l6 := textL_len o (by omega)
  have p2 := numL_pos sq
  have p3 := numL_pos op
  have p4 := textL_pos k
  have p5 := textL_pos vl
  have p6 := textL_pos o
  have g1 : True := trivial
  have g2 : True := trivial
  have g3 : True := trivial
  have g4 : True := trivial
  have g5 : True := trivial
  have g6 : True := trivial
  go_enter Tryd.func120, Tryd.ntmps120
  go_wp2_with (first
    | (go_at_call 98; clear g1; refine (specNum_any cl h1 _).mono ?_; rintro e w1 ⟨v1, rfl, ho, hb⟩; have hB : Below (w.heap.size + 1) (w.alloc (.cells #[.int .i64 cl, .int .i64 sq, .int .i64 op, .string k, .string vl, .string o] 90)) w1 := hb.mono (by simp); replace ho := ho.le (B' := w.heap.size + 1) (by simp); have hz := hB.size; simp at hz; have cc := fun (o : Nat) => hB.cell (p := ⟨w.heap.size, o, none⟩) (by simp))
    | (go_at_call 98; clear g2; refine (specNum_any sq h2 _).mono ?_; rintro e w2 ⟨v2, rfl, hr, hb⟩; replace hB := hB.trans (hb.mono (by omega)); replace ho := ho.below hb; replace hz := hB.size; simp at hz; have cc := fun (o : Nat) => hB.cell (p := ⟨w.heap.size, o, none⟩) (by simp))
    | (at_builtin; refine wpl_append rfl (.tmp 7) (.tmp 10) rfl ho rfl (hr.bs (by unfold maxLen; omega)) rfl (by omega) (by (try simp only [List.length_append]); omega) (by omega) ?_; intro u2 x2 hn hg; replace hB := hB.trans (hg.below ho (by omega)); replace ho := hn; clear hn hr; replace hz := hB.size; simp at hz; have cc := fun (o : Nat) => hB.cell (p := ⟨w.heap.size, o, none⟩) (by simp))
    | (go_at_call 98; clear g3; refine (specNum_any op h3 _).mono ?_; rintro e w3 ⟨v3, rfl, hr, hb⟩; replace hB := hB.trans (hb.mono (by omega)); replace ho := ho.below hb; replace hz := hB.size; simp at hz; have cc := fun (o : Nat) => hB.cell (p := ⟨w.heap.size, o, none⟩) (by simp))
    | (at_builtin; refine wpl_append rfl (.tmp 12) (.tmp 15) rfl ho rfl (hr.bs (by unfold maxLen; omega)) rfl (by omega) (by (try simp only [List.length_append]); omega) (by omega) ?_; intro u3 x3 hn hg; replace hB := hB.trans (hg.below ho (by omega)); replace ho := hn; clear hn hr; replace hz := hB.size; simp at hz; have cc := fun (o : Nat) => hB.cell (p := ⟨w.heap.size, o, none⟩) (by simp))
    | (go_at_call 135; clear g4; refine (specText_any k _ (by omega)).mono ?_; rintro e w4 ⟨v4, rfl, hr, hb⟩; replace hB := hB.trans (hb.mono (by omega)); replace ho := ho.below hb; replace hz := hB.size; simp at hz; have cc := fun (o : Nat) => hB.cell (p := ⟨w.heap.size, o, none⟩) (by simp))
    | (at_builtin; refine wpl_append rfl (.tmp 17) (.tmp 20) rfl ho rfl (hr.bs (by unfold maxLen; omega)) rfl (by omega) (by (try simp only [List.length_append]); omega) (by omega) ?_; intro u4 x4 hn hg; replace hB := hB.trans (hg.below ho (by omega)); replace ho := hn; clear hn hr; replace hz := hB.size; simp at hz; have cc := fun (o : Nat) => hB.cell (p := ⟨w.heap.size, o, none⟩) (by simp))
    | (go_at_call 135; clear g5; refine (specText_any vl _ (by omega)).mono ?_; rintro e w5 ⟨v5, rfl, hr, hb⟩; replace hB := hB.trans (hb.mono (by omega)); replace ho := ho.below hb; replace hz := hB.size; simp at hz; have cc := fun (o : Nat) => hB.cell (p := ⟨w.heap.size, o, none⟩) (by simp))
    | (at_builtin; refine wpl_append rfl (.tmp 22) (.tmp 25) rfl ho rfl (hr.bs (by unfold maxLen; omega)) rfl (by omega) (by (try simp only [List.length_append]); omega) (by omega) ?_; intro u5 x5 hn hg; replace hB := hB.trans (hg.below ho (by omega)); replace ho := hn; clear hn hr; replace hz := hB.size; simp at hz; have cc := fun (o : Nat) => hB.cell (p := ⟨w.heap.size, o, none⟩) (by simp))
    | (go_at_call 135; clear g6; refine (specText_any o _ (by omega)).mono ?_; rintro e w6 ⟨v6, rfl, hr, hb⟩; replace hB := hB.trans (hb.mono (by omega)); replace ho := ho.below hb; replace hz := hB.size; simp at hz; have cc := fun (o : Nat) => hB.cell (p := ⟨w.heap.size, o, none⟩) (by simp))
    | (at_builtin; refine wpl_append rfl (.tmp 27) (.tmp 30) rfl ho rfl (hr.bs (by unfold maxLen; omega)) rfl (by omega) (by (try simp only [List.length_append]); omega) (by omega) ?_; intro u6 x6 hn hg; replace hB := hB.trans (hg.below ho (by omega)); replace ho := hn; clear hn hr; replace hz := hB.size; simp at hz; have cc := fun (o : Nat) => hB.cell (p := ⟨w.heap.size, o, none⟩) (by simp)))
  go_ret
  refine ⟨_, rfl, ?_, ((Below.refl _ _).alloc (Nat.le_refl _) _).trans (hB.mono (by omega))⟩
  have := ho.le (B' := w.heap.size) (by omega)
  simpa [cmdL, numsL, List.append_assoc] using this
end Go.Proofs.YtjoflnnomebkpaaDoor

/-
  append at a step of a region that draws its order.
-/
namespace Go.Proofs.YtjoflnnomebkpaaDoor
open Go.RowKit
set_option linter.unusedVariables false

theorem Bs.cell1 {w : World} {b : Nat} {x : Int} (h : w.cell? ⟨b, 0, none⟩ = some (.int .u8 x)) (h8 : 0 ≤ x ∧ x ≤ 255) : Bs w (.slice (some ⟨b, 0, none⟩) 1 1) [x] :=
  ⟨by simp [maxLen], by simpa using h8, _, _, rfl, fun i hi => ⟨b, 0, rfl, fun j hj => by
    have : j = 0 := by simp at hj; omega
    subst this
    simpa using h⟩⟩

set_option maxRecDepth 100000 in
theorem wp_append {w : World} {o : Oper} {a : Act} {K : Act → World → Prop} {Q : Exit → Act → World → Prop} (s x : Operand)
    (ho : o.op = .call { callee := .builtin .append, args := #[s, x], argTypes := #[22, 22] })
    {B : Nat} {v u : Value} {l l2 : List Int} (hown : Own w B v l) (hs : a.eval s = v) (hu : Bs w u l2) (hx : a.eval x = u) (hne : 0 < l2.length) (hlen : l.length + l2.length ≤ 1073741824) (hB : B ≤ w.heap.size)
    (h : ∀ v' w', Own w' B v' (l ++ l2) → Grew w v w' v' → K (a.put o.dst v') w') : o.wp Tryd.prog a w K Q := by
  obtain ⟨i0, hi, hz0, hz1, hz2⟩ := info_parts infoU8
  obtain ⟨_, h8, au, cu, rfl, hc⟩ := hu
  obtain ⟨b, off, rfl, hcell⟩ := hc 0 hne
  refine wp_append_lies w s x 22 ho B 5 i0 (.int .u8 0) 1 1 Tryd.underlying22 hi hz0 hz1 hz2 rfl (by decide) v l.length _ hs hown.2 ⟨b, off, none⟩ l2.length cu (l2.map (Value.int .u8)) hx (by simp) ?_ ?_ hne (by unfold maxLen; omega) (by omega) hB _ rfl ?_
  · intro j u hj
    rw [cell_add]
    rw [List.getElem?_map] at hj
    cases hk : l2[j]? with
    | none => rw [hk] at hj; cases hj
    | some y =>
      rw [hk] at hj
      have hjl : j < l2.length := by
        rcases Nat.lt_or_ge j l2.length with h' | h'
        · exact h'
        · rw [List.getElem?_eq_none h'] at hk; cases hk
      rw [hcell j hjl, hk]
      exact hj
  · intro u hu
    simp only [List.mem_map] at hu
    obtain ⟨y, _, rfl⟩ := hu
    rfl
  · intro g cap w' h2 h3 h5 _
    refine h _ w' ⟨fun y hy => ?_, by simpa using h2⟩ ⟨h3, h5.imp (fun e => e.symm) fun e => ⟨_, rfl, by show w.heap.size ≤ g; omega⟩⟩
    rcases List.mem_append.1 hy with hy | hy
    · exact hown.1 y hy
    · exact h8 y hy
set_option maxRecDepth 100000 in
theorem stp_append {w : World} {ops : Array Oper} {o : Oper} {a : Act} {K : Act → World → Prop} {Q : Exit → Act → World → Prop} {E : Prop} (hgd : o.guard = none) (s x : Operand)
    (ho : o.op = .call { callee := .builtin .append, args := #[s, x], argTypes := #[22, 22] })
    {B : Nat} {v u : Value} {l l2 : List Int} (hown : Own w B v l) (hs : a.eval s = v) (hu : Bs w u l2) (hx : a.eval x = u) (hne : 0 < l2.length) (hlen : l.length + l2.length ≤ 1073741824) (hB : B ≤ w.heap.size)
    (h : ∀ v' w', Own w' B v' (l ++ l2) → Grew w v w' v' → K (a.put o.dst v') w') : if Region.wanted o (yielded ops a.tmps) = true then Oper.wp Tryd.prog o a w K Q else E := by
  have hw : Region.wanted o (yielded ops a.tmps) = true := by simp [Region.wanted, hgd]
  rw [if_pos hw]
  exact wp_append s x ho hown hs hu hx hne hlen hB h
end Go.Proofs.YtjoflnnomebkpaaDoor

/-
  impl.putEntry; the bytes of entries.
-/
namespace Go.Proofs.YtjoflnnomebkpaaDoor
open Go.RowKit
set_option linter.unusedVariables false

def entN (t cl sq op : Nat) (k v o : ByteArray) : List Int := numL t ++ cmdL cl sq op k v o
def entL (e : Ent) : List Int := entN e.t.toNat e.cl.toNat e.sq.toNat e.op.toNat e.k e.v e.o
def entsL (l : List Ent) : List Int := l.flatMap entL

set_option maxHeartbeats 4000000 in
set_option maxRecDepth 100000 in
theorem putEntry_nat (v : Value) (l : List Int) (t cl sq op : Nat) (k vl o : ByteArray) (w : World) (B : Nat) (hv : Own w B v l) (hB : B ≤ w.heap.size) (hl : l.length ≤ 90000) (h0 : t < 9223372036854775808) (h1 : cl < 9223372036854775808) (h2 : sq < 9223372036854775808) (h3 : op < 9223372036854775808) (hk : k.size ≤ 64) (hvl : vl.size ≤ 64) (ho : o.size ≤ 64) :
    Calls Tryd.prog 170 #[v, .agg #[.int .i64 t, .int .i64 cl, .int .i64 sq, .int .i64 op, .string k, .string vl, .string o]] w fun e w' => ∃ v', e = .returned v' ∧ Own w' B v' (l ++ entN t cl sq op k vl o) ∧ Grew w v w' v' := by
  have n0 := hv.ne (Nat.le_refl _)
  have h9 := numL_len9 t h0
  have hv1 : Own (w.alloc (.cells #[.int .i64 t, .int .i64 cl, .int .i64 sq, .int .i64 op, .string k, .string vl, .string o] 92)).drew B v l := hv.below (((Below.refl _ _).alloc (Nat.le_refl _) _).drew)
  go_enter Tryd.func170, Tryd.ntmps170
  go_wp2
  go_region_held3 (fun w' => w'.cell? ⟨w.heap.size, 0, none⟩ = some (.int .i64 t) ∧ w'.cell? ⟨w.heap.size, 1, none⟩ = some (.int .i64 cl) ∧ w'.cell? ⟨w.heap.size, 2, none⟩ = some (.int .i64 sq) ∧ w'.cell? ⟨w.heap.size, 3, none⟩ = some (.int .i64 op) ∧ w'.cell? ⟨w.heap.size, 4, none⟩ = some (.string k) ∧ w'.cell? ⟨w.heap.size, 5, none⟩ = some (.string vl) ∧ w'.cell? ⟨w.heap.size, 6, none⟩ = some (.string o)) (simp [*, go_sem])
    (first
      | (go_at_call 160; refine (putNumber_any _ _ t _ B hv1 (by simp; omega) (by omega) h0).mono ?_; rintro e w1 ⟨v1, rfl, ho1, hg1⟩; have hz1 : w.heap.size < w1.heap.size := (by have := hg1.g.size; simp at this; omega); have q1 := fun (o : Nat) => hg1.cell (k := w.heap.size) (o := o) (by simp) n0; have f1 : v1.ownBlock ≠ some w.heap.size := hg1.far (by simp) n0)
      | (go_at_call 172; refine (putCmd_any _ _ cl sq op k vl o _ B ho1 (by omega) (by simp; omega) h1 h2 h3 hk hvl ho).mono ?_; rintro e w2 ⟨v2, rfl, ho2, hg2⟩; have q2 := fun (o : Nat) => hg2.cell (k := w.heap.size) (o := o) hz1 f1))
  all_goals go_wp2
  all_goals go_ret
  all_goals refine ⟨_, rfl, by simpa [entN, List.append_assoc] using ho2, Grew.trans (Grew.of_below (((Below.refl _ _).alloc (Nat.le_refl _) _).drew)) (hg1.trans hg2)⟩

theorem entN_len (t cl sq op : Nat) (k vl o : ByteArray) (h0 : t < 9223372036854775808) (h1 : cl < 9223372036854775808) (h2 : sq < 9223372036854775808) (h3 : op < 9223372036854775808) (hk : k.size ≤ 64) (hvl : vl.size ≤ 64) (ho : o.size ≤ 64) : 0 < (entN t cl sq op k vl o).length ∧ (entN t cl sq op k vl o).length ≤ 320 := by
  have h9 := numL_len9 t h0
  have hp := numL_pos t
  have hn : (numsL [cl, sq, op]).length ≤ 27 := numsL_len [cl, sq, op] (by simp; omega)
  have t1 := textL_len k (by omega)
  have t2 := textL_len vl (by omega)
  have t3 := textL_len o (by omega)
  simp only [entN, cmdL, List.length_append]
  omega

theorem cmdF_fits {cl sq op k v o : Int} (h : cmdF cl sq op k v o = 0) : 0 ≤ cl ∧ cl ≤ 8 ∧ 0 ≤ sq ∧ sq ≤ 1073741824 ∧ 0 ≤ op ∧ op ≤ 4 ∧ k ≤ 64 ∧ v ≤ 64 ∧ o ≤ 64 := by
  unfold cmdF at h
  by_cases h1 : op < 0 ∨ 4 < op
  · rw [if_pos h1] at h; omega
  rw [if_neg h1] at h
  by_cases h2 : op = 0
  · rw [if_pos h2] at h
    repeat' split at h
    all_goals omega
  · rw [if_neg h2] at h
    repeat' split at h
    all_goals omega
/-- a well-formed entry, in plain numbers -/
theorem entB_nat {e : Ent} (h : entB e = true) : ∃ (t cl sq op : Nat) (k vl o : ByteArray), e = ⟨t, cl, sq, op, k, vl, o⟩ ∧ t < 9223372036854775808 ∧ cl < 9223372036854775808 ∧ sq < 9223372036854775808 ∧ op < 9223372036854775808 ∧ k.size ≤ 64 ∧ vl.size ≤ 64 ∧ o.size ≤ 64 ∧ entL e = entN t cl sq op k vl o := by
  obtain ⟨t, cl, sq, op, k, vl, o⟩ := e
  simp only [entB, Bool.and_eq_true, inB_iff, beq_iff_eq] at h
  obtain ⟨⟨ht, ht'⟩, hc⟩ := h
  obtain ⟨a1, a2, a3, a4, a5, a6, a7, a8, a9⟩ := cmdF_fits hc
  obtain ⟨t, rfl⟩ := Int.eq_ofNat_of_zero_le (show 0 ≤ t by omega)
  obtain ⟨cl, rfl⟩ := Int.eq_ofNat_of_zero_le a1
  obtain ⟨sq, rfl⟩ := Int.eq_ofNat_of_zero_le a3
  obtain ⟨op, rfl⟩ := Int.eq_ofNat_of_zero_le a5
  exact ⟨t, cl, sq, op, k, vl, o, rfl, by omega, by omega, by omega, by omega, by omega, by omega, by omega, by simp [entL]⟩

theorem fitL_all {high : Int} : ∀ (l : List Ent) (low : Int), fitL high low l = true → ∀ e ∈ l, entB e = true
  | [], _, _, e, he => by cases he
  | x :: r, low, h, e, he => by
    simp only [fitL, Bool.and_eq_true] at h
    rcases List.mem_cons.1 he with rfl | he
    · exact h.1.1
    · exact fitL_all r x.t h.2 e he

theorem entsL_snoc (l : List Ent) (k : Nat) (h : k < l.length) : entsL (l.take (k + 1)) = entsL (l.take k) ++ entL l[k] := by
  rw [List.take_succ_eq_append_getElem h, entsL, entsL, List.flatMap_append]
  simp
theorem entsL_len (l : List Ent) (h : ∀ e ∈ l, entB e = true) : (entsL l).length ≤ 320 * l.length := by
  induction l with
  | nil => simp [entsL]
  | cons e r ih =>
    have h2 := ih (fun m hm => h m (by simp [hm]))
    obtain ⟨t, cl, sq, op, k, vl, o, rfl, b0, b1, b2, b3, b4, b5, b6, hE⟩ := entB_nat (h e (by simp))
    have h3 := (entN_len t cl sq op k vl o b0 b1 b2 b3 b4 b5 b6).2
    simp only [entsL, List.flatMap_cons, List.length_append, List.length_cons, hE] at h2 ⊢
    omega
end Go.Proofs.YtjoflnnomebkpaaDoor

/-
  spec.l1entryBytes.
-/
namespace Go.Proofs.YtjoflnnomebkpaaDoor
open Go.RowKit
set_option linter.unusedVariables false

set_option maxHeartbeats 2000000 in
set_option maxRecDepth 100000 in
theorem specEntryBytes_nat (t cl sq op : Nat) (k vl o : ByteArray) (w : World) (h0 : t < 9223372036854775808) (h1 : cl < 9223372036854775808) (h2 : sq < 9223372036854775808) (h3 : op < 9223372036854775808) (hk : k.size ≤ 64) (hvl : vl.size ≤ 64) (ho : o.size ≤ 64) :
    Calls Tryd.prog 99 #[.agg #[.int .i64 t, .int .i64 cl, .int .i64 sq, .int .i64 op, .string k, .string vl, .string o]] w fun e w' => ∃ v', e = .returned v' ∧ Own w' w.heap.size v' (entN t cl sq op k vl o) ∧ Below w.heap.size w w' := by
  have h9 := numL_len9 t h0
  have hn : (numsL [cl, sq, op]).length ≤ 27 := numsL_len [cl, sq, op] (by simp; omega)
  have t1 := textL_len k (by omega)
  have t2 := textL_len vl (by omega)
  have t3 := textL_len o (by omega)
  have p3 := textL_pos o
  have hcl : (cmdL cl sq op k vl o).length ≤ 300 := by simp only [cmdL, List.length_append]; omega
  have hcp : 0 < (cmdL cl sq op k vl o).length := by simp only [cmdL, List.length_append]; omega
  clear hn t1 t2 t3 p3
  go_enter Tryd.func99, Tryd.ntmps99
  go_wp2_with (first
    | (go_at_call 98; refine (specNum_any t h0 _).mono ?_; rintro e w1 ⟨v1, rfl, ho1, hb⟩; have hB : Below (w.heap.size + 1) (w.alloc (.cells #[.int .i64 t, .int .i64 cl, .int .i64 sq, .int .i64 op, .string k, .string vl, .string o] 92)) w1 := hb.mono (by simp); replace ho1 := ho1.le (B' := w.heap.size + 1) (by simp); have hz : w.heap.size < w1.heap.size := (by have := hB.size; simp at this; omega); have cc := fun (o : Nat) => hB.cell (p := ⟨w.heap.size, o, none⟩) (by simp))
    | (go_at_call 120; refine (specCmdBytes_any cl sq op k vl o _ h1 h2 h3 hk hvl ho).mono ?_; rintro e w2 ⟨v2, rfl, ho2, hb2⟩; replace ho1 := ho1.below hb2; replace hB := hB.trans (hb2.mono (by omega)); have hz2 : w.heap.size < w2.heap.size := (by have := hb2.size; omega))
    | (at_builtin; refine wpl_append rfl (.tmp 7) (.tmp 10) rfl ho1 rfl (ho2.bs (by unfold maxLen; omega)) rfl hcp (by omega) (by omega) ?_; intro v3 w3 ho3 hg3; replace hB := hB.trans (hg3.below ho1 (by omega))))
  go_ret
  exact ⟨_, rfl, ho3.le (by omega), ((Below.refl _ _).alloc (Nat.le_refl _) _).trans (hB.mono (by omega))⟩

end Go.Proofs.YtjoflnnomebkpaaDoor

/-
  spec.l2recordBytes.
-/
namespace Go.Proofs.YtjoflnnomebkpaaDoor
open Go.RowKit
set_option linter.unusedVariables false

/-- a record's body -/
def recL (r : Rec) : List Int :=
  if r.ki = 1 then 11 :: (numL r.tm.toNat ++ numL r.vo.toNat) else if r.ki = 2 then 12 :: (numL r.ix.toNat ++ entL r.e) else 13 :: numL r.ix.toNat

theorem recB_kinds {r : Rec} (h : recB r = true) :
    (r.ki = 1 ∧ r.ix = 0 ∧ r.e = Ent.zero ∧ 0 ≤ r.tm ∧ r.tm ≤ 1073741824 ∧ 0 ≤ r.vo ∧ r.vo ≤ 7 ∧ (0 < r.tm ∨ r.vo = 0)) ∨
    (r.ki = 2 ∧ r.tm = 0 ∧ r.vo = 0 ∧ 1 ≤ r.ix ∧ r.ix ≤ 4096 ∧ entB r.e = true) ∨
    (r.ki = 3 ∧ r.tm = 0 ∧ r.vo = 0 ∧ r.e = Ent.zero ∧ 0 ≤ r.ix ∧ r.ix ≤ 4096) := by
  unfold recB at h
  by_cases k1 : r.ki = 1
  · rw [if_pos k1] at h
    simp only [hardB, Bool.and_eq_true, beq_iff_eq, inB_iff, noEnt_iff, Bool.or_eq_true, decide_eq_true_eq] at h
    obtain ⟨h1, h2, ⟨h3, h4⟩, ⟨h5, h6⟩, h7⟩ := h
    exact .inl ⟨k1, h1, h2, h3, h4, h5, h6, h7⟩
  · rw [if_neg k1] at h
    by_cases hz : r.tm ≠ 0 ∨ r.vo ≠ 0
    · rw [if_pos hz] at h; cases h
    · rw [if_neg hz] at h
      have h0 : r.tm = 0 := Classical.not_not.1 (fun e => hz (.inl e))
      have h1 : r.vo = 0 := Classical.not_not.1 (fun e => hz (.inr e))
      by_cases k2 : r.ki = 2
      · rw [if_pos k2] at h
        simp only [Bool.and_eq_true, inB_iff] at h
        exact .inr (.inl ⟨k2, h0, h1, h.1.1, h.1.2, h.2⟩)
      · rw [if_neg k2] at h
        simp only [Bool.and_eq_true, beq_iff_eq, inB_iff, noEnt_iff] at h
        exact .inr (.inr ⟨h.1, h0, h1, h.2.1, h.2.2.1, h.2.2.2⟩)

set_option maxHeartbeats 4000000 in
set_option maxRecDepth 100000 in
theorem recBytes_hard (tm vo : Nat) (h1 : tm ≤ 1073741824) (h2 : vo ≤ 7) (w : World) :
    Calls Tryd.prog 64 #[.agg #[.int .i64 1, .int .i64 tm, .int .i64 vo, .int .i64 0, .int .i64 0, .int .i64 0, .int .i64 0, .int .i64 0, .string .empty, .string .empty, .string .empty]] w fun e w' =>
      ∃ v', e = .returned v' ∧ Own w' w.heap.size v' (frameL (11 :: (numL tm ++ numL vo))) ∧ Below w.heap.size w w' := by
  have n1 := numL_len9 tm (by omega)
  have n2 := numL_len9 vo (by omega)
  have p1 := numL_pos tm
  have p2 := numL_pos vo
  have hL := Own.lit (w.alloc (.cells #[.int .i64 1, .int .i64 tm, .int .i64 vo, .int .i64 0, .int .i64 0, .int .i64 0, .int .i64 0, .int .i64 0, .string .empty, .string .empty, .string .empty] 94)) [11] #[.int .u8 11] rfl (by simp) (by simp [maxLen])
  simp only [World.size_alloc, List.length_cons, List.length_nil, Nat.zero_add] at hL
  have hB0 := ((Below.refl w.heap.size w).alloc (Nat.le_refl _) (.cells #[.int .i64 1, .int .i64 tm, .int .i64 vo, .int .i64 0, .int .i64 0, .int .i64 0, .int .i64 0, .int .i64 0, .string .empty, .string .empty, .string .empty] 94)).alloc (by simp) (.cells #[.int .u8 11] 5)
  have g1 : True := trivial
  have g2 : True := trivial
  go_enter Tryd.func64, Tryd.ntmps64
  go_wp2_with (first
    | (go_at_call 98; clear g1; refine (specNum_any tm (by omega) _).mono ?_; rintro e w1 ⟨v1, rfl, ho1, hb1⟩; replace hL := hL.below hb1; have c2 : w1.cell? ⟨w.heap.size, 2, none⟩ = some (.int .i64 vo) := ((bcell hb1).1 w.heap.size 2 (by simp; omega)).trans (by simp [go_sem]); have z1 : w.heap.size + 1 < w1.heap.size := (by have := hb1.size; simp at this; omega); replace hB0 := hB0.trans (hb1.mono (by simp; omega)))
    | (at_builtin; clear g2; refine wpl_append rfl (.tmp 12) (.tmp 15) rfl hL rfl (ho1.bs (by unfold maxLen; omega)) rfl p1 (by simp; omega) (by omega) ?_; intro v2 w2 ho2 hg2; have f2 : v2.ownBlock ≠ some w.heap.size := hg2.far (by omega) (by simp [Value.ownBlock]); replace c2 : w2.cell? ⟨w.heap.size, 2, none⟩ = some (.int .i64 vo) := (hg2.cell (k := w.heap.size) (o := 2) (by omega) (by simp [Value.ownBlock])).trans c2; have hb2 := hg2.below hL (by omega); have z2 := hb2.size; replace hB0 := hB0.trans (hb2.mono (by omega)))
    | (go_at_call 98; refine (specNum_any vo (by omega) _).mono ?_; rintro e w3 ⟨v3, rfl, ho3, hb3⟩; replace ho2 := ho2.below hb3; have z3 := hb3.size; replace hB0 := hB0.trans (hb3.mono (by omega)))
    | (at_builtin; refine wpl_append rfl (.tmp 17) (.tmp 20) rfl ho2 rfl (ho3.bs (by unfold maxLen; omega)) rfl p2 (by simp; omega) (by omega) ?_; intro v4 w4 ho4 hg4; have hb4 := hg4.below ho2 (by omega); have z4 := hb4.size; replace hB0 := hB0.trans (hb4.mono (by omega)))
    | (go_at_call 100; refine (specFrame_any _ _ _ (ho4.bs (by unfold maxLen; simp; omega)) (by simp) (by simp; omega)).mono ?_; rintro e w5 ⟨v5, rfl, ho5, hb5⟩; replace hB0 := hB0.trans (hb5.mono (by omega))))
  go_ret
  exact ⟨_, rfl, by have h := ho5.le (B' := w.heap.size) (by omega); simpa using h, hB0⟩

set_option maxHeartbeats 4000000 in
set_option maxRecDepth 100000 in
theorem recBytes_cut (ix : Nat) (h1 : ix ≤ 4096) (w : World) :
    Calls Tryd.prog 64 #[.agg #[.int .i64 3, .int .i64 0, .int .i64 0, .int .i64 ix, .int .i64 0, .int .i64 0, .int .i64 0, .int .i64 0, .string .empty, .string .empty, .string .empty]] w fun e w' =>
      ∃ v', e = .returned v' ∧ Own w' w.heap.size v' (frameL (13 :: numL ix)) ∧ Below w.heap.size w w' := by
  have n1 := numL_len9 ix (by omega)
  have p1 := numL_pos ix
  have hL := Own.lit (w.alloc (.cells #[.int .i64 3, .int .i64 0, .int .i64 0, .int .i64 ix, .int .i64 0, .int .i64 0, .int .i64 0, .int .i64 0, .string .empty, .string .empty, .string .empty] 94)) [13] #[.int .u8 13] rfl (by simp) (by simp [maxLen])
  simp only [World.size_alloc, List.length_cons, List.length_nil, Nat.zero_add] at hL
  have hB0 := ((Below.refl w.heap.size w).alloc (Nat.le_refl _) (.cells #[.int .i64 3, .int .i64 0, .int .i64 0, .int .i64 ix, .int .i64 0, .int .i64 0, .int .i64 0, .int .i64 0, .string .empty, .string .empty, .string .empty] 94)).alloc (by simp) (.cells #[.int .u8 13] 5)
  go_enter Tryd.func64, Tryd.ntmps64
  go_wp2_with (first
    | (go_at_call 98; refine (specNum_any ix (by omega) _).mono ?_; rintro e w1 ⟨v1, rfl, ho1, hb1⟩; replace hL := hL.below hb1; have c0 : w1.cell? ⟨w.heap.size, 0, none⟩ = some (.int .i64 3) := ((bcell hb1).1 w.heap.size 0 (by simp; omega)).trans (by simp [go_sem]); have z1 : w.heap.size + 1 < w1.heap.size := (by have := hb1.size; simp at this; omega); replace hB0 := hB0.trans (hb1.mono (by simp; omega)))
    | (at_builtin; refine wpl_append rfl (.tmp 22) (.tmp 25) rfl hL rfl (ho1.bs (by unfold maxLen; omega)) rfl p1 (by simp; omega) (by omega) ?_; intro v2 w2 ho2 hg2; replace c0 : w2.cell? ⟨w.heap.size, 0, none⟩ = some (.int .i64 3) := (hg2.cell (k := w.heap.size) (o := 0) (by omega) (by simp [Value.ownBlock])).trans c0; have hb2 := hg2.below hL (by omega); have z2 := hb2.size; replace hB0 := hB0.trans (hb2.mono (by omega)))
    | (go_at_call 100; refine (specFrame_any _ _ _ (ho2.bs (by unfold maxLen; simp; omega)) (by simp) (by simp; omega)).mono ?_; rintro e w5 ⟨v5, rfl, ho5, hb5⟩; replace hB0 := hB0.trans (hb5.mono (by omega))))
  go_ret
  exact ⟨_, rfl, by have h := ho5.le (B' := w.heap.size) (by omega); simpa using h, hB0⟩

set_option maxHeartbeats 4000000 in
set_option maxRecDepth 100000 in
theorem recBytes_add (ix t cl sq op : Nat) (k v o : ByteArray) (h1 : ix ≤ 4096) (h0 : t < 9223372036854775808) (h2 : cl < 9223372036854775808) (h3 : sq < 9223372036854775808) (h4 : op < 9223372036854775808) (hk : k.size ≤ 64) (hv : v.size ≤ 64) (ho : o.size ≤ 64) (w : World) :
    Calls Tryd.prog 64 #[.agg #[.int .i64 2, .int .i64 0, .int .i64 0, .int .i64 ix, .int .i64 t, .int .i64 cl, .int .i64 sq, .int .i64 op, .string k, .string v, .string o]] w fun e w' =>
      ∃ v', e = .returned v' ∧ Own w' w.heap.size v' (frameL (12 :: (numL ix ++ entN t cl sq op k v o))) ∧ Below w.heap.size w w' := by
  have n1 := numL_len9 ix (by omega)
  have p1 := numL_pos ix
  obtain ⟨q1, q2⟩ := entN_len t cl sq op k v o h0 h2 h3 h4 hk hv ho
  have hL := Own.lit (w.alloc (.cells #[.int .i64 2, .int .i64 0, .int .i64 0, .int .i64 ix, .int .i64 t, .int .i64 cl, .int .i64 sq, .int .i64 op, .string k, .string v, .string o] 94)) [12] #[.int .u8 12] rfl (by simp) (by simp [maxLen])
  simp only [World.size_alloc, List.length_cons, List.length_nil, Nat.zero_add] at hL
  have hB0 := ((Below.refl w.heap.size w).alloc (Nat.le_refl _) (.cells #[.int .i64 2, .int .i64 0, .int .i64 0, .int .i64 ix, .int .i64 t, .int .i64 cl, .int .i64 sq, .int .i64 op, .string k, .string v, .string o] 94)).alloc (by simp) (.cells #[.int .u8 12] 5)
  have g2 : True := trivial
  go_enter Tryd.func64, Tryd.ntmps64
  go_wp2_with (first
    | (go_at_call 98; refine (specNum_any ix (by omega) _).mono ?_; rintro e w1 ⟨v1, rfl, ho1, hb1⟩; replace hL := hL.below hb1; have hcc := (bcell hb1).1; have c0 : w1.cell? ⟨w.heap.size, 0, none⟩ = some (.int .i64 2) := (hcc w.heap.size 0 (by simp; omega)).trans (by simp [go_sem]); have c4 : w1.cell? ⟨w.heap.size, 4, none⟩ = some (.int .i64 t) := (hcc w.heap.size 4 (by simp; omega)).trans (by simp [go_sem]); have c5 : w1.cell? ⟨w.heap.size, 5, none⟩ = some (.int .i64 cl) := (hcc w.heap.size 5 (by simp; omega)).trans (by simp [go_sem]); have c6 : w1.cell? ⟨w.heap.size, 6, none⟩ = some (.int .i64 sq) := (hcc w.heap.size 6 (by simp; omega)).trans (by simp [go_sem]); have c7 : w1.cell? ⟨w.heap.size, 7, none⟩ = some (.int .i64 op) := (hcc w.heap.size 7 (by simp; omega)).trans (by simp [go_sem]); have c8 : w1.cell? ⟨w.heap.size, 8, none⟩ = some (.string k) := (hcc w.heap.size 8 (by simp; omega)).trans (by simp [go_sem]); have c9 : w1.cell? ⟨w.heap.size, 9, none⟩ = some (.string v) := (hcc w.heap.size 9 (by simp; omega)).trans (by simp [go_sem]); have c10 : w1.cell? ⟨w.heap.size, 10, none⟩ = some (.string o) := (hcc w.heap.size 10 (by simp; omega)).trans (by simp [go_sem]); have z1 : w.heap.size + 1 < w1.heap.size := (by have := hb1.size; simp at this; omega); replace hB0 := hB0.trans (hb1.mono (by simp; omega)); clear hcc)
    | (at_builtin; clear g2; refine wpl_append rfl (.tmp 22) (.tmp 25) rfl hL rfl (ho1.bs (by unfold maxLen; omega)) rfl p1 (by simp; omega) (by omega) ?_; intro v2 w2 ho2 hg2; have hcc := fun (o : Nat) => hg2.cell (k := w.heap.size) (o := o) (by omega) (by simp [Value.ownBlock]); replace c0 : w2.cell? ⟨w.heap.size, 0, none⟩ = some (.int .i64 2) := (hcc 0).trans c0; replace c4 : w2.cell? ⟨w.heap.size, 4, none⟩ = some (.int .i64 t) := (hcc 4).trans c4; replace c5 : w2.cell? ⟨w.heap.size, 5, none⟩ = some (.int .i64 cl) := (hcc 5).trans c5; replace c6 : w2.cell? ⟨w.heap.size, 6, none⟩ = some (.int .i64 sq) := (hcc 6).trans c6; replace c7 : w2.cell? ⟨w.heap.size, 7, none⟩ = some (.int .i64 op) := (hcc 7).trans c7; replace c8 : w2.cell? ⟨w.heap.size, 8, none⟩ = some (.string k) := (hcc 8).trans c8; replace c9 : w2.cell? ⟨w.heap.size, 9, none⟩ = some (.string v) := (hcc 9).trans c9; replace c10 : w2.cell? ⟨w.heap.size, 10, none⟩ = some (.string o) := (hcc 10).trans c10; have hb2 := hg2.below hL (by omega); have z2 := hb2.size; replace hB0 := hB0.trans (hb2.mono (by omega)); clear hcc)
    | (go_at_call 99; refine (specEntryBytes_nat t cl sq op k v o _ h0 h2 h3 h4 hk hv ho).mono ?_; rintro e w3 ⟨v3, rfl, ho3, hb3⟩; replace ho2 := ho2.below hb3; have z3 := hb3.size; replace hB0 := hB0.trans (hb3.mono (by omega)))
    | (at_builtin; refine wpl_append rfl (.tmp 30) (.tmp 33) rfl ho2 rfl (ho3.bs (by unfold maxLen; omega)) rfl q1 (by simp; omega) (by omega) ?_; intro v4 w4 ho4 hg4; have hb4 := hg4.below ho2 (by omega); have z4 := hb4.size; replace hB0 := hB0.trans (hb4.mono (by omega)))
    | (go_at_call 100; refine (specFrame_any _ _ _ (ho4.bs (by unfold maxLen; simp; omega)) (by simp) (by simp; omega)).mono ?_; rintro e w5 ⟨v5, rfl, ho5, hb5⟩; replace hB0 := hB0.trans (hb5.mono (by omega))))
  go_ret
  exact ⟨_, rfl, by have h := ho5.le (B' := w.heap.size) (by omega); simpa using h, hB0⟩

theorem recL_len {r : Rec} (h : recB r = true) : 0 < (recL r).length ∧ (recL r).length ≤ 400 ∧ (frameL (recL r)).length ≤ 408 := by
  have hh : 0 < (recL r).length ∧ (recL r).length ≤ 400 := by
    rcases recB_kinds h with ⟨k1, h1, h2, h3, h4, h5, h6, h7⟩ | ⟨k2, h1, h2, h3, h4, h5⟩ | ⟨k3, h1, h2, h3, h4, h5⟩
    · have n1 := numL_len9 r.tm.toNat (by omega)
      have n2 := numL_len9 r.vo.toNat (by omega)
      unfold recL; rw [if_pos k1]; simp; omega
    · have n1 := numL_len9 r.ix.toNat (by omega)
      obtain ⟨t, cl, sq, op, k, vl, o, e, a1, a2, a3, a4, a5, a6, a7, _⟩ := entB_nat h5
      obtain ⟨q1, q2⟩ := entN_len t cl sq op k vl o a1 a2 a3 a4 a5 a6 a7
      unfold recL; rw [if_neg (by omega), if_pos k2, e]; simp [entL]; omega
    · have n1 := numL_len9 r.ix.toNat (by omega)
      unfold recL; rw [if_neg (by omega), if_neg (by omega)]; simp; omega
  refine ⟨hh.1, hh.2, ?_⟩
  simp [frameL, wordL]; omega

theorem recBytes_any (r : Rec) (h : recB r = true) (w : World) :
    Calls Tryd.prog 64 #[.agg r.cells.toArray] w fun e w' => ∃ v', e = .returned v' ∧ Own w' w.heap.size v' (frameL (recL r)) ∧ Below w.heap.size w w' := by
  rcases recB_kinds h with ⟨k1, h1, h2, h3, h4, h5, h6, h7⟩ | ⟨k2, h1, h2, h3, h4, h5⟩ | ⟨k3, h1, h2, h3, h4, h5⟩
  · obtain ⟨ki, tm, vo, ix, e⟩ := r
    simp only at k1 h1 h2 h3 h4 h5 h6
    subst k1 h1 h2
    obtain ⟨tm, rfl⟩ := Int.eq_ofNat_of_zero_le h3
    obtain ⟨vo, rfl⟩ := Int.eq_ofNat_of_zero_le h5
    exact recBytes_hard tm vo (by omega) (by omega) w
  · obtain ⟨ki, tm, vo, ix, e⟩ := r
    simp only at k2 h1 h2 h3 h4 h5
    subst k2 h1 h2
    obtain ⟨ix, rfl⟩ := Int.eq_ofNat_of_zero_le (show 0 ≤ ix by omega)
    obtain ⟨t, cl, sq, op, k, vl, o, rfl, a1, a2, a3, a4, a5, a6, a7, _⟩ := entB_nat h5
    exact recBytes_add ix t cl sq op k vl o (by omega) a1 a2 a3 a4 a5 a6 a7 w
  · obtain ⟨ki, tm, vo, ix, e⟩ := r
    simp only at k3 h1 h2 h3 h4 h5
    subst k3 h1 h2 h3
    obtain ⟨ix, rfl⟩ := Int.eq_ofNat_of_zero_le h4
    exact recBytes_cut ix (by omega) w

end Go.Proofs.YtjoflnnomebkpaaDoor

/-
  Numbers: what is laid is read, and what is read was laid.
-/
namespace Go.Proofs.YtjoflnnomebkpaaDoor
open Go.RowKit
set_option linter.unusedVariables false
set_option linter.unusedSimpArgs false

/-- a number at the head of a list, in at most f bytes; b: not at its first byte -/
def numS : Nat → Bool → List Int → Option (Nat × Nat)
  | 0, _, _ => none
  | _ + 1, _, [] => none
  | f + 1, b, x :: t =>
    if 128 ≤ x then (numS f true t).map fun p => (x.toNat % 128 + 128 * p.1, p.2 + 1)
    else if x = 0 ∧ b = true then none
    else some (x.toNat % 128, 1)

theorem numAt_numS (l : List Int) (f : Nat) : ∀ k, numAt l f k = (numS f (decide (0 < k)) (l.drop k)).map fun p => (valL l k + 128 ^ k * p.1, k + p.2) := by
  induction f with
  | zero => intro k; rfl
  | succ f ih =>
    intro k
    by_cases hk : k < l.length
    · have hd : l.drop k = l[k] :: l.drop (k + 1) := List.drop_eq_getElem_cons hk
      have hg : l[k]?.getD 0 = l[k] := by rw [List.getElem?_eq_getElem hk]; rfl
      rw [hd, numAt, if_pos hk, hg]
      have hv : valL l (k + 1) = valL l k + l[k].toNat % 128 * 128 ^ k := by rw [valL, hg]
      by_cases h1 : 128 ≤ l[k]
      · rw [if_pos h1, ih (k + 1), numS, if_pos h1, Option.map_map, show decide (0 < k + 1) = true by simp]
        congr 1
        funext p
        simp only [Function.comp, hv, Nat.pow_succ]
        congr 1
        · rw [Nat.mul_add, Nat.mul_comm (l[k].toNat % 128), Nat.mul_assoc, Nat.add_assoc]
        · omega
      · rw [if_neg h1, numS, if_neg h1]
        by_cases h2 : l[k] = 0 ∧ 0 < k
        · rw [if_pos h2, if_pos (by simpa using h2)]; rfl
        · rw [if_neg h2, if_neg (by simpa using h2), hv]
          simp [Nat.mul_comm]
    · have hd : l.drop k = [] := List.drop_eq_nil_of_le (by omega)
      rw [hd, numAt, if_neg hk]
      rfl
theorem numR_numS (l : List Int) : numR l = numS 5 false l := by
  unfold numR
  rw [numAt_numS, List.drop_zero]
  simp [valL]

theorem numS_numL (f : Nat) : ∀ (n : Nat) (b : Bool) (r : List Int), 0 < f → n < 128 ^ f → (b = true → n ≠ 0) → numS f b (numL n ++ r) = some (n, (numL n).length) := by
  induction f with
  | zero => intro n b r h0; omega
  | succ f ih =>
    intro n b r _ h hb
    by_cases hn : n < 128
    · rw [numL_small hn, List.singleton_append, numS, if_neg (by omega), if_neg (by rintro ⟨h1, h2⟩; exact hb h2 (by omega))]
      simp; omega
    · have hq : n / 128 < 128 ^ f := by rw [Nat.pow_succ] at h; omega
      have hf : 0 < f := by
        rcases Nat.eq_zero_or_pos f with rfl | h'
        · simp at hq; omega
        · exact h'
      rw [numL_big hn, List.cons_append, numS, if_pos (by omega), ih (n / 128) true r hf hq (fun _ => by omega)]
      simp; omega

theorem numS_read (f : Nat) : ∀ (b : Bool) (l : List Int) (v n : Nat), (∀ x ∈ l, 0 ≤ x ∧ x ≤ 255) → numS f b l = some (v, n) → l = numL v ++ l.drop n ∧ n = (numL v).length ∧ (b = true → v ≠ 0) := by
  induction f with
  | zero => intro b l v n _ h; cases h
  | succ f ih =>
    intro b l v n h8 h
    cases l with
    | nil => cases h
    | cons x t =>
      have hx := h8 x (List.mem_cons_self ..)
      rw [numS] at h
      by_cases h1 : 128 ≤ x
      · rw [if_pos h1, Option.map_eq_some_iff] at h
        obtain ⟨⟨v', n'⟩, hp, he⟩ := h
        injection he with e1 e2
        simp only at e1 e2
        obtain ⟨ht, hn, hv⟩ := ih true t v' n' (fun y hy => h8 y (List.mem_cons_of_mem _ hy)) hp
        have hv0 := hv rfl
        have hbig : ¬ v < 128 := by omega
        have hdv : v / 128 = v' := by omega
        have hmv : ((v % 128 + 128 : Nat) : Int) = x := by omega
        rw [numL_big hbig, hdv, hmv, ← e2, List.drop_succ_cons, List.cons_append, List.length_cons, ← ht, ← hn]
        exact ⟨rfl, rfl, fun _ => by omega⟩
      · rw [if_neg h1] at h
        by_cases h2 : x = 0 ∧ b = true
        · rw [if_pos h2] at h; cases h
        · rw [if_neg h2] at h
          injection h with h
          injection h with e1 e2
          have hs : v < 128 := by omega
          have hxv : (v : Int) = x := by omega
          rw [numL_small hs, hxv, ← e2]
          refine ⟨rfl, rfl, fun hb hv => h2 ⟨by omega, hb⟩⟩

theorem rdNum_numL (n : Nat) (r : List Int) (h : n < 34359738368) : rdNum (some (numL n ++ r)) = (n, some r) := by
  have e : numR (numL n ++ r) = some (n, (numL n).length) := by rw [numR_numS]; exact numS_numL 5 n false r (by decide) (by simpa using h) (fun h => by cases h)
  simp [rdNum, e]
theorem rdNum_read {l : List Int} (h8 : ∀ x ∈ l, 0 ≤ x ∧ x ≤ 255) {r : List Int} (h : (rdNum (some l)).2 = some r) : l = numL (rdNum (some l)).1 ++ r := by
  unfold rdNum at h ⊢
  cases e : numR l with
  | none => simp [e] at h
  | some p =>
    obtain ⟨v, n⟩ := p
    simp only [e, Option.some.injEq] at h ⊢
    rw [numR_numS] at e
    obtain ⟨h1, _, _⟩ := numS_read 5 false l v n h8 e
    rw [← h]
    exact h1

/-- the bytes of a text -/
theorem strOf_strL (s : ByteArray) : strOfNums (strL s) = s := by
  obtain ⟨d⟩ := s
  obtain ⟨l⟩ := d
  unfold strOfNums strL
  congr 1
  simp [List.map_map, Function.comp_def]
theorem strL_strOf (l : List Int) (h8 : ∀ x ∈ l, 0 ≤ x ∧ x ≤ 255) : strL (strOfNums l) = l := by
  unfold strL
  rw [strOfNums_data, List.map_map]
  induction l with
  | nil => rfl
  | cons x l ih =>
    rw [List.map_cons, ih (fun y hy => h8 y (List.mem_cons_of_mem _ hy))]
    have hx := h8 x (List.mem_cons_self ..)
    have e : ((UInt8.ofNat x.toNat).toNat : Int) = x := by
      rw [UInt8.toNat_ofNat']
      omega
    show ((UInt8.ofNat x.toNat).toNat : Int) :: l = x :: l
    rw [e]

/-- a text as it is laid, and read -/
theorem rdText_lay (s : ByteArray) (r : List Int) (h : s.size ≤ 64) : rdText (some (numL s.size ++ strL s ++ r)) = (s, some r) := by
  have e : rdNum (some (numL s.size ++ (strL s ++ r))) = (s.size, some (strL s ++ r)) := rdNum_numL s.size (strL s ++ r) (by omega)
  unfold rdText
  rw [List.append_assoc, e]
  have hl := strL_len s
  simp only
  rw [if_neg (by simp; omega), List.take_append_of_le_length (by omega), List.take_of_length_le (by omega), strOf_strL, List.drop_append_of_le_length (by omega), List.drop_of_length_le (by omega)]
  rfl
theorem rdText_read {l : List Int} (h8 : ∀ x ∈ l, 0 ≤ x ∧ x ≤ 255) {r : List Int} (h : (rdText (some l)).2 = some r) : l = numL (rdText (some l)).1.size ++ strL (rdText (some l)).1 ++ r := by
  unfold rdText at h ⊢
  cases e : (rdNum (some l)).2 with
  | none => simp [e] at h
  | some t =>
    have hl := rdNum_read h8 e
    simp only [e] at h ⊢
    by_cases hlong : 64 < (rdNum (some l)).1 ∨ t.length < (rdNum (some l)).1
    · rw [if_pos hlong] at h; cases h
    · rw [if_neg hlong] at h ⊢
      simp only [Option.some.injEq] at h
      have ht8 : ∀ x ∈ t, 0 ≤ x ∧ x ≤ 255 := fun x hx => h8 x (by rw [hl]; exact List.mem_append_right _ hx)
      simp only
      rw [strOfNums_size, strL_strOf _ (fun x hx => ht8 x (List.mem_of_mem_take hx)), List.length_take, ← h, Nat.min_eq_left (by omega), List.append_assoc, List.take_append_drop]
      exact hl
end Go.Proofs.YtjoflnnomebkpaaDoor

/-
  Records: what is laid is read.
-/
namespace Go.Proofs.YtjoflnnomebkpaaDoor
open Go.RowKit
set_option linter.unusedVariables false
set_option linter.unusedSimpArgs false

theorem rdCmd_layR (cl sq op : Nat) (k v o : ByteArray) (r : List Int) (h1 : cl < 34359738368) (h2 : sq < 34359738368) (h3 : op < 34359738368) (hk : k.size ≤ 64) (hv : v.size ≤ 64) (ho : o.size ≤ 64) :
    rdCmd (some (cmdL cl sq op k v o ++ r)) = ⟨cl, sq, op, k, v, o, some r⟩ := by
  unfold rdCmd cmdL textL
  simp only [numsL, List.flatMap_cons, List.flatMap_nil, List.append_assoc, List.nil_append, List.append_nil]
  have hT : ∀ (s : ByteArray) (r : List Int), s.size ≤ 64 → rdText (some (numL s.size ++ (strL s ++ r))) = (s, some r) := fun s r h => by
    have := rdText_lay s r h
    rwa [List.append_assoc] at this
  simp only [rdNum_numL _ _ h1, rdNum_numL _ _ h2, rdNum_numL _ _ h3, hT _ _ hk, hT _ _ hv, hT _ _ ho]
theorem rdEnt_layR (e : Ent) (he : entB e = true) (r : List Int) : rdEnt (some (entL e ++ r)) = (e, some r) := by
  obtain ⟨t, cl, sq, op, k, vl, o, rfl, b0, b1, b2, b3, b4, b5, b6, hE⟩ := entB_nat he
  have h := he
  simp only [entB, Bool.and_eq_true, inB_iff, beq_iff_eq] at h
  obtain ⟨⟨ht, ht'⟩, hc⟩ := h
  obtain ⟨a1, a2, a3, a4, a5, a6, a7, a8, a9⟩ := cmdF_fits hc
  have hN := rdNum_numL t (cmdL cl sq op k vl o ++ r) (by omega)
  have hC := rdCmd_layR cl sq op k vl o r (by omega) (by omega) (by omega) b4 b5 b6
  rw [hE]
  unfold entN rdEnt
  rw [List.append_assoc, hN]
  dsimp only
  rw [hC]
/-- a record's body is read as the record -/
theorem rdRec_lay (r : Rec) (h : recB r = true) : rdRec ((recL r)[0]?.getD 0) (some ((recL r).drop 1)) = (r, some []) := by
  obtain ⟨ki, tm, vo, ix, e⟩ := r
  rcases recB_kinds h with ⟨h1, h2, h3, h4, h5, h6, h7, _⟩ | ⟨h1, h2, h3, h4, h5, h6⟩ | ⟨h1, h2, h3, h4, h5, h6⟩
  · simp only at h1 h2 h3 h4 h5 h6 h7
    subst h1 h2 h3
    obtain ⟨tm, rfl⟩ := Int.eq_ofNat_of_zero_le h4
    obtain ⟨vo, rfl⟩ := Int.eq_ofNat_of_zero_le h6
    have hA := rdNum_numL tm (numL vo) (by omega)
    have hB := rdNum_numL vo [] (by omega)
    rw [List.append_nil] at hB
    simp [recL, rdRec, hA, hB, ent0, Ent.zero]
    rfl
  · simp only at h1 h2 h3 h4 h5 h6
    subst h1 h2 h3
    obtain ⟨ix, rfl⟩ := Int.eq_ofNat_of_zero_le (show 0 ≤ ix by omega)
    have hA := rdNum_numL ix (entL e) (by omega)
    have hB := rdEnt_layR e h6 []
    rw [List.append_nil] at hB
    simp [recL, rdRec, hA, hB]
  · simp only at h1 h2 h3 h4 h5 h6
    subst h1 h2 h3 h4
    obtain ⟨ix, rfl⟩ := Int.eq_ofNat_of_zero_le h5
    have hA := rdNum_numL ix [] (by omega)
    rw [List.append_nil] at hA
    simp [recL, rdRec, hA, ent0, Ent.zero]
    rfl
theorem wordL_len (n : Nat) : (wordL n).length = 4 := by simp [wordL]
theorem wordN_word (n : Nat) (h : n < 4294967296) (r : List Int) : wordN (wordL n ++ r) 0 = n := by
  unfold wordN wordL
  simp
  omega
theorem wordN_word4 (m n : Nat) (h : n < 4294967296) (r : List Int) : wordN (wordL m ++ (wordL n ++ r)) 4 = n := by
  unfold wordN wordL
  simp
  omega
theorem frameL_len (b : List Int) : (frameL b).length = 8 + b.length := by
  unfold frameL
  simp [wordL_len]
  omega
theorem cut_frame (b r : List Int) (h1 : 0 < b.length) (h2 : b.length ≤ 400) : cutC (frameL b ++ r) = 0 ∧ cutN (frameL b ++ r) = (frameL b).length := by
  have hw : wordN (frameL b ++ r) 0 = b.length := by
    unfold frameL
    rw [List.append_assoc, List.append_assoc]
    exact wordN_word b.length (by omega) _
  have hl := frameL_len b
  unfold cutC cutN
  rw [hw]
  refine ⟨?_, by omega⟩
  rw [if_neg (by rw [List.length_append]; omega), if_neg (by simp [inB]; omega), if_neg (by rw [List.length_append]; omega)]
/-- a frame that is cut short is torn -/
theorem cut_short (b : List Int) (n : Nat) (h1 : 0 < b.length) (h2 : b.length ≤ 400) (hn : n < (frameL b).length) : cutC ((frameL b).take n) = 1 := by
  have hl := frameL_len b
  have hlt : ((frameL b).take n).length = n := by rw [List.length_take]; omega
  unfold cutC
  by_cases h8 : n ≤ 8
  · rw [if_pos (by omega)]
  · have hw : wordN ((frameL b).take n) 0 = b.length := by
      have e : (frameL b).take n = wordL b.length ++ (wordL (crcOf b) ++ b).take (n - 4) := by
        unfold frameL
        rw [List.append_assoc, List.take_append, wordL_len]
        congr 1
        exact List.take_of_length_le (by rw [wordL_len]; omega)
      rw [e]
      exact wordN_word b.length (by omega) _
    rw [if_neg (by omega), hw, if_neg (by simp [inB]; omega), if_pos (by omega)]
theorem sum_frame (b : List Int) (h8 : ∀ x ∈ b, 0 ≤ x ∧ x ≤ 255) (h1 : 0 < b.length) (h2 : b.length ≤ 400) : sumC (frameL b) = 0 := by
  have hl := frameL_len b
  have hw : wordN (frameL b) 0 = b.length := by
    unfold frameL
    rw [List.append_assoc]
    exact wordN_word b.length (by omega) _
  have hc : wordN (frameL b) 4 = crcOf b := by
    unfold frameL
    rw [List.append_assoc]
    exact wordN_word4 b.length (crcOf b) (crcOf_lt b h8) _
  have hd : (frameL b).drop 8 = b := by
    unfold frameL
    rw [List.drop_append_of_le_length (by simp [wordL_len]), List.drop_of_length_le (by simp [wordL_len])]
    rfl
  unfold sumC
  rw [hd, hw, hc, if_neg (by omega), if_neg (by omega), if_neg (by simp)]
theorem frame_8 (b : List Int) (h1 : 0 < b.length) : (frameL b)[8]?.getD 0 = b[0]?.getD 0 ∧ (frameL b).drop 9 = b.drop 1 := by
  have hl : (wordL b.length ++ wordL (crcOf b)).length = 8 := by simp [wordL_len]
  refine ⟨?_, ?_⟩
  · unfold frameL
    rw [List.getElem?_append_right (by omega), hl]
  · unfold frameL
    rw [List.drop_append, hl, List.drop_of_length_le (by omega)]
    simp
theorem recL_head (r : Rec) (h : recB r = true) : inB ((recL r)[0]?.getD 0) 11 13 = true := by
  unfold recL
  split
  · rfl
  · split <;> rfl
/-- a record's frame is read as the record -/
theorem read_frame (r : Rec) (h : recB r = true) (h8 : ∀ x ∈ recL r, 0 ≤ x ∧ x ≤ 255) : readE (frameL (recL r)) = 0 ∧ frec (frameL (recL r)) = r := by
  obtain ⟨p1, p2, _⟩ := recL_len h
  have hs := sum_frame (recL r) h8 p1 p2
  obtain ⟨e1, e2⟩ := frame_8 (recL r) p1
  have hr := rdRec_lay r h
  have hf : frec (frameL (recL r)) = r := by unfold frec; rw [e1, e2, hr]
  have hl : fleft (frameL (recL r)) = some [] := by unfold fleft; rw [e1, e2, hr]
  refine ⟨?_, hf⟩
  unfold readE
  rw [hs, e1, recL_head r h, hl, hf, h]
  simp
end Go.Proofs.YtjoflnnomebkpaaDoor

/-
  spec.l2recordsOk, spec.EncodeRecords.
-/
namespace Go.Proofs.YtjoflnnomebkpaaDoor
open Go.RowKit
set_option linter.unusedVariables false

def recsB (l : List Rec) : Bool := decide (l.length ≤ 8192) && l.all recB
def framesL (l : List Rec) : List Int := l.flatMap fun r => frameL (recL r)
/-- what EncodeRecords answers -/
def encRecs (l : List Rec) : List Int := if recsB l = true then framesL l else []

theorem framesL_len {l : List Rec} (h : l.all recB = true) : (framesL l).length ≤ 408 * l.length := by
  induction l with
  | nil => simp [framesL]
  | cons r l ih =>
    simp only [List.all_cons, Bool.and_eq_true] at h
    have h1 := (recL_len h.1).2.2
    have h2 := ih h.2
    simp only [framesL, List.flatMap_cons, List.length_append, List.length_cons] at h2 ⊢
    omega
theorem encRecs_len (l : List Rec) : (encRecs l).length ≤ 3400000 := by
  unfold encRecs
  split
  · next h =>
    simp only [recsB, Bool.and_eq_true, decide_eq_true_eq] at h
    have := framesL_len h.2
    omega
  · simp
theorem all_take_succ (l : List Rec) (k : Nat) (h : k < l.length) : (l.take (k + 1)).all recB = ((l.take k).all recB && recB l[k]) := by
  rw [List.take_succ_eq_append_getElem h, List.all_append]; simp
theorem all_take_false {l : List Rec} {k : Nat} (h : k < l.length) (hk : recB l[k] = false) : l.all recB = false := by
  cases e : l.all recB
  · rfl
  · rw [List.all_eq_true] at e
    rw [e _ (List.getElem_mem h)] at hk
    cases hk
theorem framesL_take (l : List Rec) (k : Nat) (h : k < l.length) : framesL (l.take (k + 1)) = framesL (l.take k) ++ frameL (recL l[k]) := by
  rw [List.take_succ_eq_append_getElem h, framesL, framesL, List.flatMap_append]; simp

set_option maxHeartbeats 4000000 in
set_option maxRecDepth 100000 in
theorem l2recordsOk_any (v : Value) (l : List Rec) (w : World) (hv : Sl Rec.cells 11 w v l) (hf : ∀ r ∈ l, r.e.fits) :
    Calls Tryd.prog 47 #[v] w fun x w' => x = .returned (.bool (recsB l)) ∧ Below w.heap.size w w' := by
  obtain ⟨hl, a, cap, rfl, hc⟩ := hv
  unfold maxLen at hl
  by_cases h8 : (8192 : Int) < l.length
  · have e : recsB l = false := by simp [recsB]; omega
    rw [e]
    go_enter Tryd.func47, Tryd.ntmps47
    go_wp2
    go_ret
    exact ⟨rfl, Below.refl _ _⟩
  · have e : recsB l = l.all recB := by
      have : l.length ≤ 8192 := by omega
      simp [recsB, this]
    rw [e]
    go_enter Tryd.func47, Tryd.ntmps47
    go_wp2
    go_loopw [3] (fun i wr => ∃ k : Nat, k ≤ l.length ∧ i = .int .i64 k ∧ (l.take k).all recB = true ∧ Below w.heap.size w wr) (fun i _ => l.length - (intOf i).toNat)
    case atStart => exact ⟨0, Nat.zero_le _, rfl, rfl, Below.refl _ _⟩
    case round =>
      obtain ⟨k, hk, rfl, hal, hB⟩ := hrel
      have HA : Hid ((l.take k).all recB = true) := hal
      clear hal
      by_cases hlt : k < l.length
      · obtain ⟨b, off, rfl, hj⟩ := hc k hlt
        have hra := range_below (hj k hlt) hB
        have hfk := hf l[k] (List.getElem_mem hlt)
        have hz := hB.size
        clear hc hj
        cases hr : recB l[k]
        · have HF : Hid (l.all recB = false) := all_take_false hlt hr
          go_wp2_with (first
            | (refine gate_load' 94 (.tmp 15) rfl ?_; refine wpList_load_mid rfl 94 (.tmp 15) rfl b (off + k * 11) rfl l[k].cells _ hra Tryd.underlying94 rfl sizeRec ?_)
            | (go_at_call 81; refine (l2recordOk_any l[k] hfk _).mono ?_; rintro x w1 ⟨rfl, hb⟩; rw [hr]))
          go_ret
          exact ⟨ret_bool HF.out.symm, hB.trans (hb.mono hz)⟩
        · have HS : Hid ((l.take (k + 1)).all recB = true) := by
            show _ = _
            rw [all_take_succ l k hlt, HA.out, hr]; rfl
          go_wp2_with (first
            | (refine gate_load' 94 (.tmp 15) rfl ?_; refine wpList_load_mid rfl 94 (.tmp 15) rfl b (off + k * 11) rfl l[k].cells _ hra Tryd.underlying94 rfl sizeRec ?_)
            | (go_at_call 81; refine (l2recordOk_any l[k] hfk _).mono ?_; rintro x w1 ⟨rfl, hb⟩; rw [hr]))
          go_roundw
          case rel => exact ⟨k + 1, by omega, by go_num, HS.out, hB.trans (hb.mono hz)⟩
          case measure => simp [intOf]; omega
      · have e : l.take k = l := List.take_of_length_le (by omega)
        rw [e] at HA
        go_wp2
        go_ret
        exact ⟨ret_bool HA.out.symm, hB⟩

set_option maxHeartbeats 4000000 in
set_option maxRecDepth 100000 in
theorem sEncodeRecords_any (v : Value) (l : List Rec) (w : World) (hv : Sl Rec.cells 11 w v l) (hf : ∀ r ∈ l, r.e.fits) :
    Calls Tryd.prog 23 #[v] w fun e w' => ∃ v', e = .returned v' ∧ Own w' w.heap.size v' (encRecs l) ∧ Below w.heap.size w w' := by
  have HV : Hid (Sl Rec.cells 11 w v l) := hv
  obtain ⟨hl, a, cap, rfl, hc⟩ := hv
  unfold maxLen at hl
  have h0 := Own.lit0 w
  have hb0 : Below w.heap.size w (w.alloc (.cells #[] 5)) := (Below.refl _ _).alloc (Nat.le_refl _) _
  cases hR : recsB l
  · have e : encRecs l = [] := by simp [encRecs, hR]
    rw [e]
    go_enter Tryd.func23, Tryd.ntmps23
    go_wp2_with (go_at_call 47; refine (l2recordsOk_any _ l _ (HV.out.below hb0) hf).mono ?_; rintro x w1 ⟨rfl, hb⟩; rw [hR])
    go_ret
    exact ⟨_, rfl, h0.below hb, hb0.trans (hb.mono (by simp))⟩
  · have e : encRecs l = framesL l := by simp [encRecs, hR]
    rw [e]
    have hR' := hR
    simp only [recsB, Bool.and_eq_true, decide_eq_true_eq, List.all_eq_true] at hR'
    obtain ⟨h8, hall⟩ := hR'
    have HA : Hid (∀ r ∈ l, recB r = true) := hall
    clear hall
    go_enter Tryd.func23, Tryd.ntmps23
    go_wp2_with (go_at_call 47; refine (l2recordsOk_any _ l _ (HV.out.below hb0) hf).mono ?_; rintro x w1 ⟨rfl, hb⟩; rw [hR]; replace h0 := h0.below hb; replace hb0 := hb0.trans (hb.mono (by simp)))
    go_loopw [3, 4] (fun o i wr => ∃ k : Nat, k ≤ l.length ∧ i = .int .i64 k ∧ Own wr w.heap.size o (framesL (l.take k)) ∧ Below w.heap.size w wr) (fun _ i _ => l.length - (intOf i).toNat)
    case atStart => exact ⟨0, Nat.zero_le _, rfl, h0, hb0⟩
    case round =>
      obtain ⟨k, hk, rfl, ho, hB⟩ := hrel
      have hz := hB.size
      by_cases hlt : k < l.length
      · obtain ⟨b, off, rfl, hj⟩ := hc k hlt
        have hra := range_below (hj k hlt) hB
        have hrk := HA.out l[k] (List.getElem_mem hlt)
        obtain ⟨_, _, q3⟩ := recL_len hrk
        have q1 : 0 < (frameL (recL l[k])).length := by simp [frameL, wordL]
        have hfl : (framesL (l.take k)).length ≤ 408 * 8192 := by
          have h := framesL_len (l := l.take k) (by rw [List.all_eq_true]; exact fun r hr => HA.out r (List.mem_of_mem_take hr))
          have h2 : (l.take k).length ≤ 8192 := by rw [List.length_take]; omega
          omega
        have HT : Hid (framesL (l.take (k + 1)) = framesL (l.take k) ++ frameL (recL l[k])) := framesL_take l k hlt
        clear hc hj h0 hb0
        go_wp2_with (first
          | (refine gate_load' 94 (.tmp 19) rfl ?_; refine wpList_load_mid rfl 94 (.tmp 19) rfl b (off + k * 11) rfl l[k].cells _ hra Tryd.underlying94 rfl sizeRec ?_)
          | (go_at_call 64; refine (recBytes_any l[k] hrk _).mono ?_; rintro x w2 ⟨v2, rfl, ho2, hb2⟩; have ho' := ho.below hb2; have hz2 := hb2.size)
          | (at_builtin; refine wpl_append rfl (.tmp 16) (.tmp 21) rfl ho' rfl (ho2.bs (by unfold maxLen; omega)) rfl q1 (by omega) (by omega) ?_; intro v3 w3 ho3 hg3))
        go_roundw
        case rel => exact ⟨k + 1, by omega, by go_num, by rw [HT.out]; exact ho3, hB.trans ((hb2.mono hz).trans (hg3.below ho' (by omega)))⟩
        case measure => simp [intOf]; omega
      · have e : l.take k = l := List.take_of_length_le (by omega)
        rw [e] at ho
        go_wp2
        go_ret
        exact ⟨_, rfl, ho, hB⟩
end Go.Proofs.YtjoflnnomebkpaaDoor

/-
  A journal of records that fit, run.
-/
namespace Go.Proofs.YtjoflnnomebkpaaDoor
open Go.RowKit
set_option linter.unusedVariables false
set_option linter.unusedSimpArgs false

theorem numsL_byte (ns : List Nat) : ∀ x ∈ numsL ns, 0 ≤ x ∧ x ≤ 255 := fun x hx => by
  obtain ⟨n, _, hn⟩ := List.mem_flatMap.1 hx
  exact numL_byte n x hn
theorem textL_byte (s : ByteArray) : ∀ x ∈ textL s, 0 ≤ x ∧ x ≤ 255 := fun x hx => by
  rcases List.mem_append.1 hx with h | h
  · exact numL_byte _ x h
  · exact strL_byte s x h
theorem entL_byte (e : Ent) : ∀ x ∈ entL e, 0 ≤ x ∧ x ≤ 255 := fun x hx => by
  unfold entL entN cmdL at hx
  simp only [List.mem_append] at hx
  rcases hx with h | ((h | h) | h) | h
  · exact numL_byte _ x h
  · exact numsL_byte _ x h
  · exact textL_byte _ x h
  · exact textL_byte _ x h
  · exact textL_byte _ x h
theorem recL_byte (r : Rec) : ∀ x ∈ recL r, 0 ≤ x ∧ x ≤ 255 := fun x hx => by
  unfold recL at hx
  split at hx
  · rcases List.mem_cons.1 hx with h | h
    · omega
    · rcases List.mem_append.1 h with h | h
      · exact numL_byte _ x h
      · exact numL_byte _ x h
  · split at hx
    · rcases List.mem_cons.1 hx with h | h
      · omega
      · rcases List.mem_append.1 h with h | h
        · exact numL_byte _ x h
        · exact entL_byte _ x h
    · rcases List.mem_cons.1 hx with h | h
      · omega
      · exact numL_byte _ x h
/-- each record fits behind those ahead of it -/
def okS : Stt → List Rec → Bool
  | _, [] => true
  | s, r :: rs => recB r && (fitsB s r && okS (thenS s r) rs)
theorem one_frame (r : Rec) (s : Stt) (rest : List Int) (h : recB r = true) (hf : fitsB s r = true) : oneE (frameL (recL r) ++ rest) s = 0 ∧ cutN (frameL (recL r) ++ rest) = (frameL (recL r)).length ∧ frec ((frameL (recL r) ++ rest).take (cutN (frameL (recL r) ++ rest))) = r := by
  obtain ⟨p1, p2, _⟩ := recL_len h
  obtain ⟨c1, c2⟩ := cut_frame (recL r) rest p1 p2
  obtain ⟨r1, r2⟩ := read_frame r h (recL_byte r)
  have ht : (frameL (recL r) ++ rest).take (cutN (frameL (recL r) ++ rest)) = frameL (recL r) := by rw [c2, List.take_left]
  refine ⟨?_, c2, by rw [ht, r2]⟩
  unfold oneE
  rw [ht, c1, r1, r2, hf]
  simp
/-- all records of a row of frames are run, one after the other -/
theorem run_frames : ∀ (rs : List Rec) (A rest : List Int) (f n : Nat) (s : Stt), okS s rs = true →
    runR (A ++ (framesL rs ++ rest)) (f + rs.length) A.length n s = runR (A ++ (framesL rs ++ rest)) f (A.length + (framesL rs).length) (n + rs.length) (rs.foldl thenS s)
  | [], A, rest, f, n, s, _ => by simp [framesL]
  | r :: rs, A, rest, f, n, s, h => by
    simp only [okS, Bool.and_eq_true] at h
    obtain ⟨h1, h2, h3⟩ := h
    have hF : framesL (r :: rs) = frameL (recL r) ++ framesL rs := by simp [framesL]
    obtain ⟨o1, o2, o3⟩ := one_frame r s (framesL rs ++ rest) h1 h2
    have hd : (A ++ (framesL (r :: rs) ++ rest)).drop A.length = frameL (recL r) ++ (framesL rs ++ rest) := by rw [List.drop_left, hF, List.append_assoc]
    have hl := frameL_len (recL r)
    have ih := run_frames rs (A ++ frameL (recL r)) rest f (n + 1) (thenS s r) h3
    have hA : A ++ frameL (recL r) ++ (framesL rs ++ rest) = A ++ (framesL (r :: rs) ++ rest) := by rw [hF]; simp [List.append_assoc]
    rw [hA, List.length_append] at ih
    rw [List.length_cons, show f + (rs.length + 1) = (f + rs.length) + 1 by omega, runR, hd]
    rw [if_pos (by rw [hF]; simp only [List.length_append]; omega), if_neg (by rw [o1]; simp), o3, o2, ih]
    rw [hF, List.length_append, List.foldl_cons]
    congr 1
    · omega
    · omega
theorem framesL_ge : ∀ (rs : List Rec), rs.length ≤ (framesL rs).length
  | [] => by simp
  | r :: rs => by
    have ih := framesL_ge rs
    have hl := frameL_len (recL r)
    have hF : framesL (r :: rs) = frameL (recL r) ++ framesL rs := by simp [framesL]
    rw [hF, List.length_append, List.length_cons]
    omega
/-- behind the frames lies nothing, or a frame that is cut short: what stands ahead is recovered -/
theorem rcv_tail (rs : List Rec) (t : List Int) (h : okS ⟨0, 0, []⟩ rs = true) (ht : t = [] ∨ (t ≠ [] ∧ cutC t = 1)) :
    (rcv (framesL rs ++ t)).2.1 = (framesL rs).length ∧ (rcv (framesL rs ++ t)).2.2.2 = rs.foldl thenS ⟨0, 0, []⟩ := by
  have hge := framesL_ge rs
  have hr := run_frames rs [] t ((framesL rs ++ t).length - rs.length) 0 ⟨0, 0, []⟩ h
  simp only [List.nil_append, List.length_nil, Nat.zero_add] at hr
  unfold rcv
  have hlen : (framesL rs ++ t).length - rs.length + rs.length = (framesL rs ++ t).length := by rw [List.length_append]; omega
  rw [hlen] at hr
  rw [hr]
  generalize rs.foldl thenS ⟨0, 0, []⟩ = s
  generalize (framesL rs ++ t).length - rs.length = f
  rcases ht with rfl | ⟨hne, hc⟩
  · cases f with
    | zero => exact ⟨rfl, rfl⟩
    | succ f => rw [runR, if_neg (by simp)]; exact ⟨rfl, rfl⟩
  · cases f with
    | zero => exact ⟨rfl, rfl⟩
    | succ f =>
      have hd : (framesL rs ++ t).drop (framesL rs).length = t := List.drop_left
      have ho : oneE t s = 7 := by unfold oneE; rw [hc]; simp
      have hp : 0 < t.length := List.length_pos_iff.2 hne
      rw [runR, hd, if_pos (by rw [List.length_append]; omega), if_pos (by rw [ho]; decide)]
      exact ⟨rfl, rfl⟩
/-- so many bytes of a row of frames: whole frames, and perhaps one that is cut short -/
theorem take_frames : ∀ (ps : List Rec) (m : Nat), (∀ r ∈ ps, recB r = true) → ∃ j t, j ≤ ps.length ∧ (framesL ps).take m = framesL (ps.take j) ++ t ∧ (t = [] ∨ (t ≠ [] ∧ cutC t = 1)) ∧ ((framesL ps).length ≤ m → j = ps.length ∧ t = [])
  | [], m, _ => ⟨0, [], Nat.le_refl _, by simp [framesL], .inl rfl, fun _ => ⟨rfl, rfl⟩⟩
  | r :: ps, m, h => by
    have hF : framesL (r :: ps) = frameL (recL r) ++ framesL ps := by simp [framesL]
    have hr := h r (List.mem_cons_self ..)
    obtain ⟨p1, p2, _⟩ := recL_len hr
    have hl := frameL_len (recL r)
    by_cases hm : m < (frameL (recL r)).length
    · refine ⟨0, (frameL (recL r)).take m, Nat.zero_le _, ?_, ?_, fun hh => ?_⟩
      · rw [hF, List.take_append_of_le_length (by omega)]; simp [framesL]
      · rcases Nat.eq_zero_or_pos m with h0 | h0
        · left; rw [h0]; rfl
        · right
          refine ⟨fun e => ?_, cut_short (recL r) m p1 p2 hm⟩
          have := congrArg List.length e
          rw [List.length_take, List.length_nil] at this
          omega
      · rw [hF, List.length_append] at hh; omega
    · obtain ⟨j, t, h1, h2, h3, h4⟩ := take_frames ps (m - (frameL (recL r)).length) (fun x hx => h x (List.mem_cons_of_mem _ hx))
      refine ⟨j + 1, t, by simp; omega, ?_, h3, fun hh => ?_⟩
      · rw [hF, List.take_append, List.take_of_length_le (by omega), h2, List.take_succ_cons]
        have : framesL (r :: ps.take j) = frameL (recL r) ++ framesL (ps.take j) := by simp [framesL]
        rw [this, List.append_assoc]
      · rw [hF, List.length_append] at hh
        obtain ⟨e1, e2⟩ := h4 (by omega)
        exact ⟨by simp [e1], e2⟩
end Go.Proofs.YtjoflnnomebkpaaDoor

/-
  impl.entriesRise, spec.l1rising.
-/
namespace Go.Proofs.YtjoflnnomebkpaaDoor
open Go.RowKit
set_option linter.unusedVariables false

set_option maxHeartbeats 8000000 in
set_option maxRecDepth 100000 in
theorem entriesRise_any (ev : Value) (lt tm : Int) (l : List Ent) (w : World) (hv : Es w ev l) (hll : l.length ≤ 1048576) :
    Calls Tryd.prog 91 #[ev, .int .i64 lt, .int .i64 tm] w fun r w' => r = .returned (.bool (fitL tm lt l)) ∧ Below w.heap.size w w' := by
  obtain ⟨hl, hf, a, cap, rfl, hc⟩ := hv
  go_enter Tryd.func91, Tryd.ntmps91
  go_wp2
  go_loopw [1, 11] (fun t i wr => ∃ (k : Nat) (x : Int), k ≤ l.length ∧ i = .int .i64 k ∧ t = .int .i64 x ∧ fitL tm lt l = fitL tm x (l.drop k) ∧ Below w.heap.size w wr) (fun _ i _ => l.length - (intOf i).toNat)
  case atStart => exact ⟨0, lt, Nat.zero_le _, rfl, rfl, by simp, Below.refl _ _⟩
  case round =>
    obtain ⟨k, x, hk, rfl, rfl, hfl, hB⟩ := hrel
    have HF : Hid (fitL tm lt l = fitL tm x (l.drop k)) := hfl
    have hz := hB.size
    clear hfl
    by_cases hlt : k < l.length
    · obtain ⟨b, off, rfl, hj⟩ := hc k hlt
      obtain ⟨c0, c1, c2, c3, c4, c5, c6⟩ := (hj k hlt).below hB
      have hfk := hf l[k] (List.getElem_mem hlt)
      have HD : Hid (fitL tm x (l.drop k) = (entB l[k] && inB l[k].t x tm && fitL tm l[k].t (l.drop (k + 1)))) := fitL_drop tm x l k hlt
      clear hc hj
      generalize l[k] = e at *
      go_wp2_with (first
        | (go_at_call 115; refine (entryFits_any e hfk _).mono ?_; rintro r w1 ⟨rfl, hb⟩; obtain ⟨hc1, hf1⟩ := bcell hb; have hz1 : wr.heap.size < w1.heap.size := (by have := hb.size; simp at this; omega))
        | (go_at_call 84; refine (within_any _ _ _ _).mono ?_; rintro r w' ⟨rfl, rfl⟩))
      · go_ret
        exact ⟨ret_bool (by rw [HF.out, HD.out]; go_light; simp_all), hB.trans (((Below.refl _ _).alloc (by omega) _).trans (hb.mono (by simp; omega)))⟩
      · go_roundw
        case rel => exact ⟨k + 1, e.t, by omega, by go_num, rfl, by rw [HF.out, HD.out]; go_light; simp_all, hB.trans (((Below.refl _ _).alloc (by omega) _).trans (hb.mono (by simp; omega)))⟩
        case measure => simp [intOf]; omega
      · go_ret
        exact ⟨ret_bool (by rw [HF.out, HD.out]; go_light; simp_all), hB.trans (((Below.refl _ _).alloc (by omega) _).trans (hb.mono (by simp; omega)))⟩
    · have hd : l.drop k = [] := List.drop_of_length_le (by omega)
      go_wp2
      go_ret
      exact ⟨ret_bool (by rw [HF.out, hd]; rfl), hB⟩

theorem fit_no {e : Ent} {low high : Int} (X : Bool) (h : entB e = false ∨ e.t < low ∨ high < e.t) : (entB e && inB e.t low high && X) = false := by
  rcases h with h | h
  · rw [h]; rfl
  · rw [(inB_not _ _ _).2 h]; simp
theorem fit_yes {e : Ent} {low high : Int} (X : Bool) (h : entB e = true) (h1 : low ≤ e.t) (h2 : e.t ≤ high) : (entB e && inB e.t low high && X) = X := by
  rw [h, (inB_iff _ _ _).2 ⟨h1, h2⟩]; rfl
theorem prev_step (low : Int) (l : List Ent) (k : Nat) (h : k < l.length) : (if k + 1 = 0 then low else (l[k + 1 - 1]?.map Ent.t).getD 0) = l[k].t := by simp [h]

set_option maxHeartbeats 8000000 in
set_option maxRecDepth 100000 in
theorem l1rising_any (ev : Value) (low high : Int) (l : List Ent) (w : World) (hv : Es w ev l) (hll : l.length ≤ 1048576) :
    Calls Tryd.prog 89 #[ev, .int .i64 low, .int .i64 high] w fun r w' => r = .returned (.bool (fitL high low l)) ∧ Below w.heap.size w w' := by
  obtain ⟨hl, hf, a, cap, rfl, hc⟩ := hv
  go_enter Tryd.func89, Tryd.ntmps89
  go_wp2
  go_loopw [7] (fun i wr => ∃ k : Nat, k ≤ l.length ∧ i = .int .i64 k ∧ fitL high low l = fitL high (if k = 0 then low else (l[k - 1]?.map Ent.t).getD 0) (l.drop k) ∧ Below w.heap.size w wr) (fun i _ => l.length - (intOf i).toNat)
  case atStart => exact ⟨0, Nat.zero_le _, rfl, by simp, Below.refl _ _⟩
  case round =>
    obtain ⟨k, hk, rfl, hfl, hB⟩ := hrel
    have HF : Hid (fitL high low l = fitL high (if k = 0 then low else (l[k - 1]?.map Ent.t).getD 0) (l.drop k)) := hfl
    have hz := hB.size
    clear hfl
    by_cases hlt : k < l.length
    · obtain ⟨b, off, rfl, hj⟩ := hc k hlt
      have hfk := hf l[k] (List.getElem_mem hlt)
      have HD : ∀ x, Hid (fitL high x (l.drop k) = (entB l[k] && inB l[k].t x high && fitL high l[k].t (l.drop (k + 1)))) := fun x => fitL_drop high x l k hlt
      have HP : Hid ((if k + 1 = 0 then low else (l[k + 1 - 1]?.map Ent.t).getD 0) = l[k].t) := prev_step low l k hlt
      by_cases h0 : k = 0
      · subst h0
        obtain ⟨c0, c1, c2, c3, c4, c5, c6⟩ := (hj 0 hlt).below hB
        have hlow : (if (0 : Nat) = 0 then low else (l[0 - 1]?.map Ent.t).getD 0) = low := rfl
        rw [hlow] at HF
        clear hc hj hlow
        simp only [Nat.zero_mul, Nat.add_zero] at c0 c1 c2 c3 c4 c5 c6
        generalize l[0] = e at *
        go_wp2_with (go_at_call 108; refine (entryOk_any e hfk _).mono ?_; rintro r w1 ⟨rfl, hb⟩; obtain ⟨hc1, hf1⟩ := bcell hb; have hbl := cell_lt c0)
        · go_ret
          exact ⟨ret_bool (by rw [HF.out, (HD _).out, fit_no]; go_light; cases hE : entB e <;> simp_all <;> omega), hB.trans (hb.mono hz)⟩
        · go_ret
          exact ⟨ret_bool (by rw [HF.out, (HD _).out, fit_no]; go_light; cases hE : entB e <;> simp_all <;> omega), hB.trans (hb.mono hz)⟩
        · go_quiet (fail)
          go_wp2
          go_roundw
          case rel => exact ⟨0 + 1, by omega, by go_num, by rw [HF.out, (HD _).out, HP.out, fit_yes] <;> (go_light; cases hE : entB e <;> simp_all <;> omega), hB.trans ((hb.mono hz).trans ⟨rfl, rfl, rfl, Nat.le_refl _, fun _ _ => rfl⟩)⟩
          case measure => simp [intOf]; omega
        · go_ret
          exact ⟨ret_bool (by rw [HF.out, (HD _).out, fit_no]; go_light; cases hE : entB e <;> simp_all <;> omega), hB.trans (hb.mono hz)⟩
      · obtain ⟨j, rfl⟩ : ∃ j, k = j + 1 := ⟨k - 1, by omega⟩
        have hp : j < l.length := by omega
        have hprev : (if j + 1 = 0 then low else (l[j + 1 - 1]?.map Ent.t).getD 0) = l[j].t := prev_step low l j hp
        rw [hprev] at HF
        obtain ⟨c0, c1, c2, c3, c4, c5, c6⟩ := (hj (j + 1) hlt).below hB
        obtain ⟨p0, _⟩ := (hj j hp).below hB
        have hbl := cell_lt c0
        clear hc hj hprev h0
        generalize l[j] = pe at *
        generalize l[j + 1] = e at *
        go_wp2_with (go_at_call 108; refine (entryOk_any e hfk _).mono ?_; rintro r w1 ⟨rfl, hb⟩; obtain ⟨hc1, hf1⟩ := bcell hb)
        · go_ret
          exact ⟨ret_bool (by rw [HF.out, (HD _).out, fit_no]; go_light; cases hE : entB e <;> simp_all <;> omega), hB.trans (hb.mono hz)⟩
        · go_quiet (fail)
          go_wp2
          · go_ret
            exact ⟨ret_bool (by rw [HF.out, (HD _).out, fit_no]; go_light; cases hE : entB e <;> simp_all <;> omega), hB.trans ((hb.mono hz).trans ⟨rfl, rfl, rfl, Nat.le_refl _, fun _ _ => rfl⟩)⟩
          · go_roundw
            case rel => exact ⟨j + 1 + 1, by omega, by go_num, by rw [HF.out, (HD _).out, HP.out, fit_yes] <;> (go_light; cases hE : entB e <;> simp_all <;> omega), hB.trans ((hb.mono hz).trans ⟨rfl, rfl, rfl, Nat.le_refl _, fun _ _ => rfl⟩)⟩
            case measure => simp [intOf]; omega
        · go_ret
          exact ⟨ret_bool (by rw [HF.out, (HD _).out, fit_no]; go_light; cases hE : entB e <;> simp_all <;> omega), hB.trans (hb.mono hz)⟩
    · have hd : l.drop k = [] := List.drop_of_length_le (by omega)
      go_wp2
      go_ret
      exact ⟨ret_bool (by rw [HF.out, hd]; rfl), hB⟩
end Go.Proofs.YtjoflnnomebkpaaDoor

/-
  hardChange.fits.
-/
namespace Go.Proofs.YtjoflnnomebkpaaDoor
open Go.RowKit
set_option linter.unusedVariables false
set_option linter.unusedSimpArgs false

set_option maxHeartbeats 2000000 in
set_option maxRecDepth 100000 in
theorem hardFits_any (tm vo : Int) (w : World) :
    Calls Tryd.prog 90 #[.agg #[.int .i64 tm, .int .i64 vo]] w fun e w' => e = .returned (.bool (inB tm 0 1073741824 && (inB vo 0 7 && (decide (0 < tm) || vo == 0)))) ∧ Below w.heap.size w w' := by
  have hb := (Below.refl w.heap.size w).alloc (Nat.le_refl _) (.cells #[.int .i64 tm, .int .i64 vo] 97)
  cases ha : inB tm 0 1073741824
  · go_enter Tryd.func90, Tryd.ntmps90
    go_wp2_with (go_at_call 84; refine (within_any _ _ _ _).mono ?_; rintro r w1 ⟨rfl, hw⟩; obtain rfl := hw.symm)
    go_ret
    exact ⟨ret_bool (by simp [ha]), hb⟩
  · cases hc : inB vo 0 7
    · go_enter Tryd.func90, Tryd.ntmps90
      go_wp2_with (go_at_call 84; refine (within_any _ _ _ _).mono ?_; rintro r w1 ⟨rfl, hw⟩; obtain rfl := hw.symm)
      go_ret
      exact ⟨ret_bool (by simp [ha, hc]), hb⟩
    · cases hv : (vo == 0)
      · go_enter Tryd.func90, Tryd.ntmps90
        go_wp2_with (go_at_call 84; refine (within_any _ _ _ _).mono ?_; rintro r w1 ⟨rfl, hw⟩; obtain rfl := hw.symm)
        go_ret
        exact ⟨ret_bool (by simp [ha, hc, hv]), hb⟩
      · go_enter Tryd.func90, Tryd.ntmps90
        go_wp2_with (go_at_call 84; refine (within_any _ _ _ _).mono ?_; rintro r w1 ⟨rfl, hw⟩; obtain rfl := hw.symm)
        go_ret
        exact ⟨ret_bool (by simp [ha, hc, hv]), hb⟩
end Go.Proofs.YtjoflnnomebkpaaDoor

/-
  A stable state's form, both.
-/
namespace Go.Proofs.YtjoflnnomebkpaaDoor
open Go.RowKit
set_option linter.unusedVariables false
set_option linter.unusedSimpArgs false

def hardOk (t v : Int) : Bool := inB t 0 1073741824 && (inB v 0 7 && (decide (0 < t) || v == 0))
/-- a stable state is well-formed -/
def stB (t v : Int) (l : List Ent) : Bool := hardOk t v && (decide (l.length ≤ 4096) && fitL t 1 l)
set_option maxHeartbeats 4000000 in
set_option maxRecDepth 100000 in
theorem stableFits_any (t v : Int) (u : Value) (l : List Ent) (w : World) (hv : Es w u l) (hll : l.length ≤ 1048576) :
    Calls Tryd.prog 58 #[.agg #[.int .i64 t, .int .i64 v, u]] w fun e w' => e = .returned (.bool (stB t v l)) ∧ Below w.heap.size w w' := by
  have HV : Hid (Es w u l) := hv
  obtain ⟨hl, hf, a, cap, rfl, hc⟩ := hv
  clear hc hf
  have hb0 : Hid (Below w.heap.size w (w.alloc (.cells #[.int .i64 t, .int .i64 v, .slice a l.length cap] 39))) := (Below.refl _ _).alloc (Nat.le_refl _) _
  have HH : Hid (∀ u, Calls Tryd.prog 90 #[.agg #[.int .i64 t, .int .i64 v]] u fun e w' => e = .returned (.bool (hardOk t v)) ∧ Below u.heap.size u w') := fun u => hardFits_any t v u
  cases hA : hardOk t v
  · have e : stB t v l = false := by simp [stB, hA]
    rw [e]
    go_enter Tryd.func58, Tryd.ntmps58
    go_wp2_with (go_at_call 90; refine (HH.out _).mono ?_; rintro e w1 ⟨rfl, hb⟩; rw [hA])
    go_ret
    exact ⟨rfl, hb0.out.trans (hb.mono (by simp))⟩
  · by_cases hn : l.length ≤ 4096
    · have e : stB t v l = fitL t 1 l := by simp [stB, hA, hn]
      rw [e]
      go_enter Tryd.func58, Tryd.ntmps58
      go_wp2_with (first
        | (go_at_call 90; refine (HH.out _).mono ?_; rintro e w1 ⟨rfl, hb⟩; rw [hA]; obtain ⟨hc, _⟩ := bcell hb; have z1 : w.heap.size < w1.heap.size := (by have := hb.size; simp at this; omega); have c0 : w1.cell? ⟨w.heap.size, 0, none⟩ = some (.int .i64 t) := (hc _ 0 (by simp)).trans (by simp); have c2 : w1.cell? ⟨w.heap.size, 2, none⟩ = some (.slice a l.length cap) := (hc _ 2 (by simp)).trans (by simp); have HB : Hid (Below w.heap.size w w1) := hb0.out.trans (hb.mono (by simp)); clear hb hc)
        | (go_at_call 91; refine (entriesRise_any _ 1 t l _ (HV.out.below HB.out) hll).mono ?_; rintro e w2 ⟨rfl, hb⟩; replace HB : Hid (Below w.heap.size w w2) := HB.out.trans (hb.mono (by omega)); clear hb))
      go_ret
      exact ⟨rfl, HB.out⟩
    · have e : stB t v l = false := by simp [stB, hn]
      rw [e]
      go_enter Tryd.func58, Tryd.ntmps58
      go_wp2_with (go_at_call 90; refine (HH.out _).mono ?_; rintro e w1 ⟨rfl, hb⟩; rw [hA]; obtain ⟨hc, _⟩ := bcell hb; have z1 : w.heap.size < w1.heap.size := (by have := hb.size; simp at this; omega); have c0 : w1.cell? ⟨w.heap.size, 0, none⟩ = some (.int .i64 t) := (hc _ 0 (by simp)).trans (by simp); have c2 : w1.cell? ⟨w.heap.size, 2, none⟩ = some (.slice a l.length cap) := (hc _ 2 (by simp)).trans (by simp); have HB : Hid (Below w.heap.size w w1) := hb0.out.trans (hb.mono (by simp)); clear hb hc)
      go_ret
      exact ⟨rfl, HB.out⟩

set_option maxHeartbeats 4000000 in
set_option maxRecDepth 100000 in
theorem stableOk_any (t v : Int) (u : Value) (l : List Ent) (w : World) (hv : Es w u l) (hll : l.length ≤ 1048576) :
    Calls Tryd.prog 56 #[.agg #[.int .i64 t, .int .i64 v, u]] w fun e w' => e = .returned (.bool (stB t v l)) ∧ Below w.heap.size w w' := by
  have HV : Hid (Es w u l) := hv
  obtain ⟨hl, hf, a, cap, rfl, hc⟩ := hv
  clear hc hf
  have hb0 : Hid (Below w.heap.size w (w.alloc (.cells #[.int .i64 t, .int .i64 v, .slice a l.length cap] 39))) := (Below.refl _ _).alloc (Nat.le_refl _) _
  have g1 : True := trivial
  cases h1 : inB t 0 1073741824
  · have e : stB t v l = false := by simp [stB, hardOk, h1]
    rw [e]
    go_enter Tryd.func56, Tryd.ntmps56
    go_wp2_with (go_at_call 80; refine (l1in_any t 0 1073741824 _).mono ?_; rintro e w1 ⟨rfl, rfl⟩; rw [h1])
    go_ret
    exact ⟨rfl, hb0.out⟩
  · cases h2 : inB v 0 7
    · have e : stB t v l = false := by simp [stB, hardOk, h1, h2]
      rw [e]
      go_enter Tryd.func56, Tryd.ntmps56
      go_wp2_with (first
        | (go_at_call 80; clear g1; refine (l1in_any t 0 1073741824 _).mono ?_; rintro e w1 ⟨rfl, rfl⟩; rw [h1])
        | (go_at_call 80; refine (l1in_any v 0 7 _).mono ?_; rintro e w1 ⟨rfl, rfl⟩; rw [h2]))
      go_ret
      exact ⟨rfl, hb0.out⟩
    · by_cases h3 : t = 0 ∧ v ≠ 0
      · obtain ⟨rfl, h3⟩ := h3
        have e : stB 0 v l = false := by simp [stB, hardOk, h3]
        rw [e]
        go_enter Tryd.func56, Tryd.ntmps56
        go_wp2_with (first
          | (go_at_call 80; clear g1; refine (l1in_any 0 0 1073741824 _).mono ?_; rintro e w1 ⟨rfl, rfl⟩; rw [h1])
          | (go_at_call 80; refine (l1in_any v 0 7 _).mono ?_; rintro e w1 ⟨rfl, rfl⟩; rw [h2]))
        go_ret
        exact ⟨rfl, hb0.out⟩
      · have hA : hardOk t v = true := by
          have := (inB_iff _ _ _).1 h1
          simp only [hardOk, h1, h2, Bool.true_and, Bool.or_eq_true, decide_eq_true_eq, beq_iff_eq]
          omega
        have e : stB t v l = (decide (l.length ≤ 4096) && fitL t 1 l) := by simp [stB, hA]
        rw [e]
        by_cases hn : l.length ≤ 4096
        · rw [decide_eq_true hn, Bool.true_and]
          have h3' : t = 0 → v = 0 := fun h => Decidable.byContradiction fun h' => h3 ⟨h, h'⟩
          clear h3
          by_cases h0 : t = 0
          · obtain rfl := h0
            obtain rfl := h3' rfl
            clear h3'
            go_enter Tryd.func56, Tryd.ntmps56
            go_wp2_with (first
              | (go_at_call 80; clear g1; refine (l1in_any 0 0 1073741824 _).mono ?_; rintro e w1 ⟨rfl, rfl⟩; rw [h1])
              | (go_at_call 80; refine (l1in_any 0 0 7 _).mono ?_; rintro e w1 ⟨rfl, rfl⟩; rw [h2])
              | (go_at_call 89; refine (l1rising_any _ 1 0 l _ (HV.out.below hb0.out) hll).mono ?_; rintro e w2 ⟨rfl, hb⟩))
            go_ret
            exact ⟨rfl, hb0.out.trans (hb.mono (by simp))⟩
          · clear h3'
            go_enter Tryd.func56, Tryd.ntmps56
            go_wp2_with (first
              | (go_at_call 80; clear g1; refine (l1in_any t 0 1073741824 _).mono ?_; rintro e w1 ⟨rfl, rfl⟩; rw [h1])
              | (go_at_call 80; refine (l1in_any v 0 7 _).mono ?_; rintro e w1 ⟨rfl, rfl⟩; rw [h2])
              | (go_at_call 89; refine (l1rising_any _ 1 t l _ (HV.out.below hb0.out) hll).mono ?_; rintro e w2 ⟨rfl, hb⟩))
            go_ret
            exact ⟨rfl, hb0.out.trans (hb.mono (by simp))⟩
        · rw [decide_eq_false hn, Bool.false_and]
          have h3' : t = 0 → v = 0 := fun h => Decidable.byContradiction fun h' => h3 ⟨h, h'⟩
          clear h3
          by_cases h0 : t = 0
          · obtain rfl := h0
            obtain rfl := h3' rfl
            clear h3'
            go_enter Tryd.func56, Tryd.ntmps56
            go_wp2_with (first
              | (go_at_call 80; clear g1; refine (l1in_any 0 0 1073741824 _).mono ?_; rintro e w1 ⟨rfl, rfl⟩; rw [h1])
              | (go_at_call 80; refine (l1in_any 0 0 7 _).mono ?_; rintro e w1 ⟨rfl, rfl⟩; rw [h2]))
            go_ret
            exact ⟨rfl, hb0.out⟩
          · clear h3'
            go_enter Tryd.func56, Tryd.ntmps56
            go_wp2_with (first
              | (go_at_call 80; clear g1; refine (l1in_any t 0 1073741824 _).mono ?_; rintro e w1 ⟨rfl, rfl⟩; rw [h1])
              | (go_at_call 80; refine (l1in_any v 0 7 _).mono ?_; rintro e w1 ⟨rfl, rfl⟩; rw [h2]))
            go_ret
            exact ⟨rfl, hb0.out⟩

end Go.Proofs.YtjoflnnomebkpaaDoor

/-
  The changes of impl: record; fits of a hard change.
-/
namespace Go.Proofs.YtjoflnnomebkpaaDoor
open Go.RowKit
set_option linter.unusedVariables false
set_option linter.unusedSimpArgs false

abbrev zCells : List Value := [.int .i64 0, .int .i64 0, .int .i64 0, .int .i64 0, .int .i64 0, .int .i64 0, .int .i64 0, .int .i64 0, .string ⟨#[]⟩, .string ⟨#[]⟩, .string ⟨#[]⟩]

set_option maxHeartbeats 2000000 in
set_option maxRecDepth 100000 in
theorem hardRecord_any (tm vo : Int) (w : World) :
    Calls Tryd.prog 92 #[.agg #[.int .i64 tm, .int .i64 vo]] w fun e w' => e = .returned (.agg #[.int .i64 1, .int .i64 tm, .int .i64 vo, .int .i64 0, .int .i64 0, .int .i64 0, .int .i64 0, .int .i64 0, .string ⟨#[]⟩, .string ⟨#[]⟩, .string ⟨#[]⟩]) ∧ Below w.heap.size w w' := by
  go_enter Tryd.func92, Tryd.ntmps92
  go_wp2
  exact bodyPost_ret (v := .agg #[.int .i64 1, .int .i64 tm, .int .i64 vo, .int .i64 0, .int .i64 0, .int .i64 0, .int .i64 0, .int .i64 0, .string ⟨#[]⟩, .string ⟨#[]⟩, .string ⟨#[]⟩]) (by simp [results, Tryd.results92, go_sem]) rfl
    ⟨rfl, ((Below.refl _ _).alloc (Nat.le_refl _) _).alloc (by simp) _⟩

set_option maxHeartbeats 2000000 in
set_option maxRecDepth 100000 in
theorem addRecord_any (ix : Int) (e : Ent) (w : World) :
    Calls Tryd.prog 94 #[.agg #[.int .i64 ix, .int .i64 e.t, .int .i64 e.cl, .int .i64 e.sq, .int .i64 e.op, .string e.k, .string e.v, .string e.o]] w fun x w' => x = .returned (.agg #[.int .i64 2, .int .i64 0, .int .i64 0, .int .i64 ix, .int .i64 e.t, .int .i64 e.cl, .int .i64 e.sq, .int .i64 e.op, .string e.k, .string e.v, .string e.o]) ∧ Below w.heap.size w w' := by
  go_enter Tryd.func94, Tryd.ntmps94
  go_wp2
  exact bodyPost_ret (v := .agg #[.int .i64 2, .int .i64 0, .int .i64 0, .int .i64 ix, .int .i64 e.t, .int .i64 e.cl, .int .i64 e.sq, .int .i64 e.op, .string e.k, .string e.v, .string e.o]) (by simp [results, Tryd.results94, go_sem]) rfl
    ⟨rfl, ((Below.refl _ _).alloc (Nat.le_refl _) _).alloc (by simp) _⟩

set_option maxHeartbeats 2000000 in
set_option maxRecDepth 100000 in
theorem cutRecord_any (ix : Int) (w : World) :
    Calls Tryd.prog 93 #[.agg #[.int .i64 ix]] w fun e w' => e = .returned (.agg #[.int .i64 3, .int .i64 0, .int .i64 0, .int .i64 ix, .int .i64 0, .int .i64 0, .int .i64 0, .int .i64 0, .string ⟨#[]⟩, .string ⟨#[]⟩, .string ⟨#[]⟩]) ∧ Below w.heap.size w w' := by
  go_enter Tryd.func93, Tryd.ntmps93
  go_wp2
  exact bodyPost_ret (v := .agg #[.int .i64 3, .int .i64 0, .int .i64 0, .int .i64 ix, .int .i64 0, .int .i64 0, .int .i64 0, .int .i64 0, .string ⟨#[]⟩, .string ⟨#[]⟩, .string ⟨#[]⟩]) (by simp [results, Tryd.results93, go_sem]) rfl
    ⟨rfl, ((Below.refl _ _).alloc (Nat.le_refl _) _).alloc (by simp) _⟩

end Go.Proofs.YtjoflnnomebkpaaDoor

/-
  A stable state's form; hardChange.follows, commonLength.
-/
namespace Go.Proofs.YtjoflnnomebkpaaDoor
open Go.RowKit
set_option linter.unusedVariables false
set_option linter.unusedSimpArgs false

/-- a change to term t', vote v' may follow term t, vote v -/
def folB (t v t' v' : Int) : Bool := if t' = t then v == 0 || v == v' else decide (t < t')
def entEqB (a b : Ent) : Bool := a.t == b.t && cmdEqB a b
/-- how many entries the two lists have in common at their beginning -/
def comK : List Ent → List Ent → Nat
  | a :: l, b :: l' => if entEqB a b then comK l l' + 1 else 0
  | _, _ => 0
theorem comK_le : ∀ (l l' : List Ent), comK l l' ≤ l.length ∧ comK l l' ≤ l'.length
  | [], l' => by simp [comK]
  | a :: l, [] => by simp [comK]
  | a :: l, b :: l' => by
    have := comK_le l l'
    unfold comK
    split <;> simp <;> omega
theorem comK_step (l l' : List Ent) (k : Nat) (h : k < l.length) (h' : k < l'.length) : comK (l.drop k) (l'.drop k) = if entEqB l[k] l'[k] then comK (l.drop (k + 1)) (l'.drop (k + 1)) + 1 else 0 := by
  rw [List.drop_eq_getElem_cons h, List.drop_eq_getElem_cons h']
  rfl
theorem comK_end (l l' : List Ent) (k : Nat) (h : ¬ (k < l.length ∧ k < l'.length)) : comK (l.drop k) (l'.drop k) = 0 := by
  rcases Nat.lt_or_ge k l.length with h1 | h1
  · have h2 : l'.drop k = [] := List.drop_of_length_le (by omega)
    rw [h2]
    cases l.drop k <;> rfl
  · rw [List.drop_of_length_le h1]
    rfl

set_option maxHeartbeats 2000000 in
set_option maxRecDepth 100000 in
theorem follows_any (t v t' v' : Int) (a : Option Addr) (n cap : Nat) (w : World) :
    Calls Tryd.prog 59 #[.agg #[.int .i64 t', .int .i64 v'], .agg #[.int .i64 t, .int .i64 v, .slice a n cap]] w fun e w' => e = .returned (.bool (folB t v t' v')) ∧ Below w.heap.size w w' := by
  have hb0 : Hid (Below w.heap.size w ((w.alloc (.cells #[.int .i64 t', .int .i64 v'] 97)).alloc (.cells #[.int .i64 t, .int .i64 v, .slice a n cap] 39))) := ((Below.refl _ _).alloc (Nat.le_refl _) _).alloc (by simp) _
  by_cases h : t' = t
  · subst h
    by_cases h0 : v = 0
    · subst h0
      go_enter Tryd.func59, Tryd.ntmps59
      go_wp2
      go_ret
      exact ⟨by simp [folB], hb0.out⟩
    · go_enter Tryd.func59, Tryd.ntmps59
      go_wp2
      go_ret
      exact ⟨by simp [folB, h0], hb0.out⟩
  · go_enter Tryd.func59, Tryd.ntmps59
    go_wp2
    go_ret
    exact ⟨by simp [folB, h], hb0.out⟩

set_option maxHeartbeats 4000000 in
set_option maxRecDepth 100000 in
theorem fitsHard_any (t v t' v' : Int) (a : Option Addr) (n cap : Nat) (hn : n ≤ 1048576) (w : World) :
    Calls Tryd.prog 57 #[.agg #[.int .i64 t, .int .i64 v, .slice a n cap], .agg #[.int .i64 1, .int .i64 t', .int .i64 v', .int .i64 0, .int .i64 0, .int .i64 0, .int .i64 0, .int .i64 0, .string ⟨#[]⟩, .string ⟨#[]⟩, .string ⟨#[]⟩]] w fun e w' => e = .returned (.bool (folB t v t' v')) ∧ Below w.heap.size w w' := by
  have hb0 : Hid (Below w.heap.size w ((w.alloc (.cells #[.int .i64 t, .int .i64 v, .slice a n cap] 39)).alloc (.cells #[.int .i64 1, .int .i64 t', .int .i64 v', .int .i64 0, .int .i64 0, .int .i64 0, .int .i64 0, .int .i64 0, .string ⟨#[]⟩, .string ⟨#[]⟩, .string ⟨#[]⟩] 94))) := ((Below.refl _ _).alloc (Nat.le_refl _) _).alloc (by simp) _
  by_cases h : t' = t
  · subst h
    by_cases h0 : v = 0
    · subst h0
      go_enter Tryd.func57, Tryd.ntmps57
      go_wp2
      go_ret
      exact ⟨by simp [folB], hb0.out⟩
    · go_enter Tryd.func57, Tryd.ntmps57
      go_wp2
      go_ret
      exact ⟨by simp [folB, h0], hb0.out⟩
  · by_cases h1 : t < t'
    · go_enter Tryd.func57, Tryd.ntmps57
      go_wp2
      go_ret
      exact ⟨by simp [folB, h, h1], hb0.out⟩
    · go_enter Tryd.func57, Tryd.ntmps57
      go_wp2
      go_ret
      exact ⟨by simp [folB, h, h1], hb0.out⟩

set_option maxHeartbeats 8000000 in
set_option maxRecDepth 100000 in
theorem commonLength_any (v u : Value) (l l' : List Ent) (w : World) (hv : Es w v l) (hu : Es w u l') (hll : l.length ≤ 1048576) (hll' : l'.length ≤ 1048576) :
    Calls Tryd.prog 61 #[v, u] w fun e w' => e = .returned (.int .i64 (comK l l' : Nat)) ∧ Below w.heap.size w w' := by
  obtain ⟨hl, hf, a, cap, rfl, hc⟩ := hv
  obtain ⟨hl', hf', a', cap', rfl, hc'⟩ := hu
  go_enter Tryd.func61, Tryd.ntmps61
  go_wp2
  go_loopw [5] (fun i wr => ∃ k : Nat, k ≤ l.length ∧ k ≤ l'.length ∧ i = .int .i64 k ∧ comK l l' = k + comK (l.drop k) (l'.drop k) ∧ Below w.heap.size w wr) (fun i _ => l.length - (intOf i).toNat)
  case atStart => exact ⟨0, Nat.zero_le _, Nat.zero_le _, rfl, by simp, Below.refl _ _⟩
  case round =>
    obtain ⟨k, hk, hk', rfl, hcom, hB⟩ := hrel
    have HC : Hid (comK l l' = k + comK (l.drop k) (l'.drop k)) := hcom
    have hz := hB.size
    clear hcom
    by_cases hlt : k < l.length ∧ k < l'.length
    · obtain ⟨hlt, hlt'⟩ := hlt
      obtain ⟨b, off, rfl, hj⟩ := hc k hlt
      obtain ⟨b', off', rfl, hj'⟩ := hc' k hlt'
      obtain ⟨c0, c1, c2, c3, c4, c5, c6⟩ := (hj k hlt).below hB
      obtain ⟨d0, d1, d2, d3, d4, d5, d6⟩ := (hj' k hlt').below hB
      have HS : Hid (comK (l.drop k) (l'.drop k) = if entEqB l[k] l'[k] then comK (l.drop (k + 1)) (l'.drop (k + 1)) + 1 else 0) := comK_step l l' k hlt hlt'
      clear hc hj hc' hj'
      generalize l[k] = e at *
      generalize l'[k] = e' at *
      have hE : ∀ u : World, (Op.equalIn 10000 92 (.agg #[.int .i64 e.t, .int .i64 e.cl, .int .i64 e.sq, .int .i64 e.op, .string e.k, .string e.v, .string e.o]) (.agg #[.int .i64 e'.t, .int .i64 e'.cl, .int .i64 e'.sq, .int .i64 e'.op, .string e'.k, .string e'.v, .string e'.o])).run Tryd.prog u = .ok (entEqB e e') u := fun u => eqEnt_run 9997 e e' u
      cases hq : entEqB e e'
      · rw [hq] at hE HS
        by_cases hs : l'.length < l.length
        all_goals
          go_wp2
          go_quiet (fail)
          go_wp2
          go_ret
          exact ⟨by rw [HC.out, HS.out]; simp, hB.trans ⟨rfl, rfl, rfl, Nat.le_refl _, fun _ _ => rfl⟩⟩
      · rw [hq] at hE HS
        by_cases hs : l'.length < l.length
        all_goals
          go_wp2
          go_quiet (fail)
          go_wp2
          go_roundw
          case rel => exact ⟨k + 1, by omega, by omega, by go_num, by rw [HC.out, HS.out]; simp; omega, hB.trans ⟨rfl, rfl, rfl, Nat.le_refl _, fun _ _ => rfl⟩⟩
          case measure => simp [intOf]; omega
    · have hend : Hid (comK (l.drop k) (l'.drop k) = 0) := comK_end l l' k hlt
      by_cases hs : l'.length < l.length
      · have hk2 : ¬ k < l'.length := by omega
        go_wp2
        go_quiet (fail)
        go_wp2
        go_ret
        exact ⟨by rw [HC.out, hend.out]; simp, hB.trans ⟨rfl, rfl, rfl, Nat.le_refl _, fun _ _ => rfl⟩⟩
      · have hk2 : ¬ k < l.length := by omega
        go_wp2
        go_quiet (fail)
        go_wp2
        go_ret
        exact ⟨by rw [HC.out, hend.out]; simp, hB.trans ⟨rfl, rfl, rfl, Nat.le_refl _, fun _ _ => rfl⟩⟩
end Go.Proofs.YtjoflnnomebkpaaDoor

/-
  Records in memory of one's own: append.
-/
namespace Go.Proofs.YtjoflnnomebkpaaDoor
open Go.RowKit
set_option linter.unusedVariables false

theorem infoRecO : (Tryd.prog.info? 94).map (fun i => (i.zero, i.size, i.bytes)) = some (some (.agg #[.int .i64 0, .int .i64 0, .int .i64 0, .int .i64 0, .int .i64 0, .int .i64 0, .int .i64 0, .int .i64 0, .string ⟨#[]⟩, .string ⟨#[]⟩, .string ⟨#[]⟩]), 11, 112) := by kernel_rfl
def recCells : List Rec → List Value
  | [] => []
  | e :: l => e.cells ++ recCells l
theorem recCells_app (l k : List Rec) : recCells (l ++ k) = recCells l ++ recCells k := by
  induction l with
  | nil => rfl
  | cons e l ih => simp [recCells, ih]
theorem recCells_len (l : List Rec) : (recCells l).length = l.length * 11 := by
  induction l with
  | nil => rfl
  | cons e l ih => simp [recCells, ih, Rec.cells]; omega
theorem recCells_get (l : List Rec) : ∀ (j : Nat) (h : j < l.length) (i : Nat), i < 11 → (recCells l)[j * 11 + i]? = l[j].cells[i]? := by
  induction l with
  | nil => intro j h; simp at h
  | cons e l ih =>
    intro j h i hi
    cases j with
    | zero => simp only [recCells, Nat.zero_mul, Nat.zero_add, List.getElem_cons_zero]; rw [List.getElem?_append_left (by rw [Rec.cells_len]; exact hi)]
    | succ j =>
      simp only [recCells, List.getElem_cons_succ]
      rw [List.getElem?_append_right (by rw [Rec.cells_len]; omega), Rec.cells_len, show (j + 1) * 11 + i - 11 = j * 11 + i by omega]
      exact ih j (by simpa using h) i hi
/-- records in memory of one's own, from block B on -/
def OwnR (w : World) (B : Nat) (v : Value) (l : List Rec) : Prop := w.ownsRow B 94 11 v l.length (recCells l)
theorem OwnR.nil (w : World) (B : Nat) : OwnR w B (.slice none 0 0) [] := World.ownsRow_nil w B _ 11
theorem OwnR.made (w : World) (B : Nat) (hB : B ≤ w.heap.size) : OwnR (w.alloc (.cells #[] 94)) B (.slice (some ⟨w.heap.size, 0, none⟩) 0 0) [] :=
  World.ownsRow_made w #[] 0 hB (by decide) (by simp)
theorem OwnR.shape {w : World} {B : Nat} {v : Value} {l : List Rec} (h : OwnR w B v l) : ∃ a cap, v = .slice a l.length cap := by
  rcases h.2 with ⟨rfl, h0⟩ | ⟨g, cap, cur, rfl, _⟩
  · exact ⟨none, 0, by rw [h0]⟩
  · exact ⟨_, _, rfl⟩
theorem OwnR.shape' {w : World} {B : Nat} {v : Value} {l : List Rec} (h : OwnR w B v l) (hl : 0 < l.length) : ∃ g cap, v = .slice (some ⟨g, 0, none⟩) l.length cap := by
  rcases h.2 with ⟨rfl, h0⟩ | ⟨g, cap, cur, rfl, _⟩
  · omega
  · exact ⟨_, _, rfl⟩
theorem OwnR.keep {w w' : World} {B : Nat} {v : Value} {l : List Rec} (h : OwnR w B v l) (hb : ∀ k, v.ownBlock = some k → w'.heap[k]? = w.heap[k]?) : OwnR w' B v l := by
  refine ⟨h.1, ?_⟩
  rcases h.2 with h | ⟨g, cap, cur, hv, hg, hh, r⟩
  · exact .inl h
  · exact .inr ⟨g, cap, cur, hv, hg, (hb g (by rw [hv]; rfl)).trans hh, r⟩
theorem OwnR.below {w w' : World} {B : Nat} {v : Value} {l : List Rec} (h : OwnR w B v l) (hb : Below w.heap.size w w') : OwnR w' B v l :=
  h.keep fun k hk => hb.block k (h.lt k hk).2
theorem growR {B : Nat} {w w' : World} {v v' : Value} {l : List Rec} (h : Grew w v w' v') (hown : OwnR w B v l) (hB : B ≤ w.heap.size) : Below B w w' :=
  (Below.refl _ _).grown h.g hB (fun k hk => (hown.lt k hk).1)
theorem OwnR.sl {w : World} {B : Nat} {v : Value} {l : List Rec} (h : OwnR w B v l) (hl : l.length ≤ maxLen) : Sl Rec.cells 11 w v l := by
  obtain ⟨a, cap, rfl⟩ := h.shape
  refine ⟨hl, a, cap, rfl, fun i hi => ?_⟩
  obtain ⟨g, cap', e⟩ := h.shape' (by omega)
  simp only [Value.slice.injEq] at e
  obtain ⟨rfl, _, rfl⟩ := e
  refine ⟨g, 0, rfl, fun j hj t v ht => ?_⟩
  have ht11 : t < 11 := by have := (List.getElem?_eq_some_iff.1 ht).1; rwa [Rec.cells_len] at this
  rw [Nat.zero_add, h.cellAt (j * 11 + t) (by omega), recCells_get l j hj t ht11]
  exact ht

set_option maxRecDepth 100000 in
/-- append of one record -/
theorem wpl_appendR {w : World} {ops : Array Oper} {rest : List Oper} {o : Oper} {a : Act} {Q : Exit → Act → World → Prop} (hgd : o.guard = none) (s x : Operand)
    (ho : o.op = .call { callee := .builtin .append, args := #[s, x], argTypes := #[25, 25] })
    {B : Nat} {v : Value} {l : List Rec} (e : Rec) (hown : OwnR w B v l) (hs : a.eval s = v) (b c : Nat) (hu : w.rangeAt b 0 e.cells) (hx : a.eval x = .slice (some ⟨b, 0, none⟩) 1 c) (hlen : l.length ≤ 1000000) (hB : B ≤ w.heap.size)
    (h : ∀ v' w', OwnR w' B v' (l ++ [e]) → Grew w v w' v' → wpList Tryd.prog ops Q rest (a.put o.dst v') w') : wpList Tryd.prog ops Q (o :: rest) a w := by
  obtain ⟨i0, hi, hz0, hz1, hz2⟩ := info_parts infoRecO
  refine wpList_append_own_at w hgd s x 25 ho B 94 i0 _ 11 112 Tryd.underlying25 hi hz0 hz1 hz2 rfl (by decide) v l.length _ hs hown ⟨b, 0, none⟩ 1 c e.cells hx rfl ?_ ?_ (by unfold maxLen; omega) (by omega) hB ?_
  · intro j u hj
    rw [cell_add, Nat.zero_add]
    have := hu j u hj
    rwa [Nat.zero_add] at this
  · intro u hu
    simp only [Rec.cells, List.mem_cons, List.not_mem_nil, or_false] at hu
    rcases hu with rfl | rfl | rfl | rfl | rfl | rfl | rfl | rfl | rfl | rfl | rfl <;> rfl
  · intro v' w' h2 h3 _ h5
    exact h v' w' (by have e : recCells (l ++ [e]) = recCells l ++ e.cells := by rw [recCells_app]; simp [recCells]
                      unfold OwnR; rw [e]; simpa using h2) ⟨h3, h5.imp id fun e => ⟨_, e, Nat.le_refl _⟩⟩
end Go.Proofs.YtjoflnnomebkpaaDoor

/-
  What PlanRecords answers.
-/
namespace Go.Proofs.YtjoflnnomebkpaaDoor
open Go.RowKit
set_option linter.unusedVariables false
set_option linter.unusedSimpArgs false

def zeroE : Ent := ⟨0, 0, 0, 0, ⟨#[]⟩, ⟨#[]⟩, ⟨#[]⟩⟩
def difB (t v t' v' : Int) : Bool := t' != t || v' != v
def hardL (t v t' v' : Int) : List Rec := if difB t v t' v' then [⟨1, t', v', 0, zeroE⟩] else []
def cutL (l l' : List Ent) : List Rec := if comK l l' < l.length then [⟨3, 0, 0, (comK l l' : Nat), zeroE⟩] else []
def addsL : Nat → List Ent → List Rec
  | _, [] => []
  | i, e :: es => ⟨2, 0, 0, ((i + 1 : Nat) : Int), e⟩ :: addsL (i + 1) es
theorem addsL_len : ∀ (i : Nat) (es : List Ent), (addsL i es).length = es.length
  | _, [] => rfl
  | i, e :: es => by simp [addsL, addsL_len (i + 1) es]
def planAll (t v : Int) (l : List Ent) (t' v' : Int) (l' : List Ent) : List Rec := hardL t v t' v' ++ cutL l l' ++ addsL (comK l l') (l'.drop (comK l l'))
/-- what PlanRecords answers -/
def planC (t v : Int) (l : List Ent) (t' v' : Int) (l' : List Ent) : Int := if stB t v l = false then 1 else if stB t' v' l' = false then 2 else if folB t v t' v' = false then 3 else 0
def planL (t v : Int) (l : List Ent) (t' v' : Int) (l' : List Ent) : List Rec := if planC t v l t' v' l' = 0 then planAll t v l t' v' l' else []
theorem stB_len {t v : Int} {l : List Ent} (h : stB t v l = true) : l.length ≤ 4096 := by
  simp only [stB, Bool.and_eq_true, decide_eq_true_eq] at h
  exact h.2.1
theorem hardL_len (t v t' v' : Int) : (hardL t v t' v').length ≤ 1 := by unfold hardL; split <;> simp
theorem cutL_len (l l' : List Ent) : (cutL l l').length ≤ 1 := by unfold cutL; split <;> simp
theorem planL_len (t v : Int) (l : List Ent) (t' v' : Int) (l' : List Ent) (h : l'.length ≤ 1048576) : (planL t v l t' v' l').length ≤ 1048578 := by
  unfold planL planAll
  split
  · have h1 := hardL_len t v t' v'
    have h2 := cutL_len l l'
    simp only [List.length_append, addsL_len, List.length_drop]
    omega
  · simp
theorem zeroRec (k t v i : Int) : (⟨k, t, v, i, zeroE⟩ : Rec).cells = [.int .i64 k, .int .i64 t, .int .i64 v, .int .i64 i, .int .i64 0, .int .i64 0, .int .i64 0, .int .i64 0, .string ⟨#[]⟩, .string ⟨#[]⟩, .string ⟨#[]⟩] := rfl

/-- the answer -/
def PlanAt (w w' : World) (x : Ending) (C : Int) (L : List Rec) : Prop := ∃ a cap, x = .returned (.agg #[.int .i64 C, .slice a L.length cap]) ∧ OwnR w' w.heap.size (.slice a L.length cap) L ∧ Below w.heap.size w w'
theorem OwnR.le {w : World} {B B' : Nat} {v : Value} {l : List Rec} (h : OwnR w B v l) (hb : B' ≤ B) : OwnR w B' v l := by
  refine ⟨h.1, ?_⟩
  rcases h.2 with h | ⟨g, cap, cur, hv, hg, r⟩
  · exact .inl h
  · exact .inr ⟨g, cap, cur, hv, Nat.le_trans hb hg, r⟩
theorem OwnR.setLow {w : World} {B : Nat} {v : Value} {l : List Rec} (h : OwnR w B v l) {b i : Nat} (hb : b < B) (x : Value) : OwnR (w.setCell ⟨b, i, none⟩ x) B v l :=
  h.keep fun k hk => Below.heap_setCell _ _ _ _ (fun e => by have := (h.lt k hk).1; simp only at e; omega)

end Go.Proofs.YtjoflnnomebkpaaDoor

/-
  FnTorn, plain: a plan's records fit, and lead to the new state.
-/
namespace Go.Proofs.YtjoflnnomebkpaaDoor
open Go.RowKit
set_option linter.unusedVariables false
set_option linter.unusedSimpArgs false

theorem lastT_snoc (log : List Ent) (e : Ent) : lastT 1 (log ++ [e]) = e.t := by
  unfold lastT
  rw [if_neg (by simp)]
  simp
/-- the records that add entries -/
theorem adds_ok : ∀ (es log : List Ent) (t v : Int), log.length + es.length ≤ 4096 → fitL t (lastT 1 log) es = true →
    okS ⟨t, v, log⟩ (addsL log.length es) = true ∧ (addsL log.length es).foldl thenS ⟨t, v, log⟩ = ⟨t, v, log ++ es⟩
  | [], log, t, v, _, _ => by simp [addsL, okS]
  | e :: es, log, t, v, hl, hf => by
    simp only [fitL, Bool.and_eq_true] at hf
    obtain ⟨⟨h1, h2⟩, h3⟩ := hf
    simp only [List.length_cons] at hl
    have ih := adds_ok es (log ++ [e]) t v (by simp; omega) (by rw [lastT_snoc]; exact h3)
    rw [List.length_append, List.length_singleton] at ih
    have hth : thenS ⟨t, v, log⟩ ⟨2, 0, 0, ((log.length + 1 : Nat) : Int), e⟩ = ⟨t, v, log ++ [e]⟩ := by simp [thenS]
    have hrec : recB ⟨2, 0, 0, ((log.length + 1 : Nat) : Int), e⟩ = true := by
      simp [recB, h1, inB]
      omega
    have hfit : fitsB ⟨t, v, log⟩ ⟨2, 0, 0, ((log.length + 1 : Nat) : Int), e⟩ = true := by
      simp [fitsB, h2]
    refine ⟨?_, ?_⟩
    · rw [addsL, okS, hrec, hfit, hth, ih.1]; rfl
    · rw [addsL, List.foldl_cons, hth, ih.2, List.append_assoc]; rfl
end Go.Proofs.YtjoflnnomebkpaaDoor
