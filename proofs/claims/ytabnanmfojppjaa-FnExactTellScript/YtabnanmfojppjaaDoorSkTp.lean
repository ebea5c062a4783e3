/-
  A script's text, in plain words; small laws on bytes for spec.TellScript.
-/
import Derived.Test.YtabnanmfojppjaaDoorSkAsk
import Derived.Test.YtabnanmfojppjaaDoorSkScA
import Derived.Test.YtabnanmfojppjaaDoorSkBytes
import Derived.Lib.ConvBytes
import Derived.Laws.BytesArg
import Derived.Lib.SlBytesConst
namespace Go.Proofs.YtabnanmfojppjaaDoor
open Go.RowKit
set_option linter.unusedVariables false
set_option linter.unusedSimpArgs false

def clusterW : List UInt8 := [99, 108, 117, 115, 116, 101, 114]
def drawsW : List UInt8 := [100, 114, 97, 119, 115]
def sup6 (u : Sup) : List Int := [u.s, u.c, u.el, u.b, u.r, u.d]
def stepsL (ss : List Stp) : List UInt8 := ss.flatMap fun x => stepL x ++ [10]
def headL (u : Sup) (ds : List Int) : List UInt8 := clusterW ++ numsL (sup6 u) ++ [10] ++ drawsW ++ numsL ds ++ [10]
def tellL (u : Sup) (ds : List Int) (ss : List Stp) : List UInt8 := headL u ds ++ stepsL ss
def tOkS (x : Stp) : Bool := if x.kd = 11 then askOk x else true
def tellA (u : Sup) (ds : List Int) (ss : List Stp) : ByteArray :=
  if (scOk u ds ss && ss.all tOkS && decide ((tellL u ds ss).length ≤ 65536)) = true then sOf (tellL u ds ss) else ⟨#[]⟩
theorem stepsL_take {l : List Stp} {k : Nat} (h : k < l.length) : stepsL (l.take (k + 1)) = stepsL (l.take k) ++ (stepL l[k] ++ [10]) := by
  unfold stepsL
  rw [List.take_succ_eq_append_getElem h, List.flatMap_append, List.flatMap_cons, List.flatMap_nil, List.append_nil]

structure ScP (u : Sup) (ds : List Int) (ss : List Stp) : Prop where
  six : ∀ n ∈ sup6 u, 0 ≤ n ∧ n < 10000000000
  s7 : u.s ≤ 7
  c8 : u.c ≤ 8
  dl : ds.length ≤ 4096
  sl : ss.length ≤ 4096
  ds : ∀ n ∈ ds, 0 ≤ n ∧ n < 10000000000
  ss : ∀ x ∈ ss, stOk u.s u.c x = true
theorem scOk_parts {u : Sup} {ds : List Int} {ss : List Stp} (h : scOk u ds ss = true) : ScP u ds ss := by
  unfold scOk at h
  simp only [Bool.and_eq_true, decide_eq_true_eq, List.all_eq_true] at h
  obtain ⟨⟨⟨⟨h1, h2⟩, h3⟩, h4⟩, h5⟩ := h
  have hu : (u.s = 3 ∨ u.s = 5 ∨ u.s = 7) ∧ (1 ≤ u.c ∧ u.c ≤ 8) ∧ (2 ≤ u.el ∧ u.el ≤ 1000) ∧ (1 ≤ u.b ∧ u.b ≤ u.el) ∧ (1 ≤ u.r ∧ u.r ≤ 1000) ∧ (0 ≤ u.d ∧ u.d ≤ 1048576) := by
    unfold setF at h1
    split at h1
    · cases h1
    split at h1
    · cases h1
    split at h1
    · cases h1
    split at h1
    · cases h1
    split at h1
    · cases h1
    split at h1
    · cases h1
    rename_i a1 a2 a3 a4 a5 a6
    simp only [Bool.not_eq_false, inB_iff] at a1 a2 a3 a4 a5 a6
    refine ⟨?_, a2, a3, a4, a5, a6⟩
    unfold sizB at a1
    simp at a1
    omega
  obtain ⟨e1, e2, e3, e4, e5, e6⟩ := hu
  refine ⟨?_, by omega, by omega, h2, h3, fun n hn => ?_, h5⟩
  · intro n hn
    simp only [sup6, List.mem_cons, List.not_mem_nil, or_false] at hn
    rcases hn with rfl | rfl | rfl | rfl | rfl | rfl <;> omega
  · have := (inB_iff _ _ _).1 (h4 n hn)
    omega
structure StP (x : Stp) : Prop where
  k1 : 1 ≤ x.kd
  k2 : x.kd ≤ 14
  a : 0 ≤ x.a ∧ x.a < 10000000000
  b : 0 ≤ x.b ∧ x.b < 10000000000
  c : 0 ≤ x.c ∧ x.c < 10000000000
  op0 : x.kd ≠ 11 → x.op = 0
  op : x.kd = 11 → 1 ≤ x.op ∧ x.op ≤ 4 ∧ x.k.size ≤ 64 ∧ x.v.size ≤ 64 ∧ x.o.size ≤ 64
theorem nIn_b {sv cc x n : Int} (h7 : sv ≤ 7) (h8 : cc ≤ 8) (h : nIn sv cc x n = true) : 0 ≤ x ∧ x < 10000000000 := by
  unfold nIn at h
  have h1 := (inB_iff _ _ _).1 h
  have h2 : 0 ≤ nLo n := by unfold nLo; split <;> omega
  have h3 : nHi sv cc n ≤ 1048576 := by unfold nHi; (repeat' split) <;> omega
  omega
theorem stOk_parts {sv cc : Int} {x : Stp} (h7 : sv ≤ 7) (h8 : cc ≤ 8) (h : stOk sv cc x = true) : StP x := by
  unfold stOk at h
  simp only [Bool.and_eq_true] at h
  obtain ⟨⟨⟨⟨h1, h2⟩, h3⟩, h4⟩, h5⟩ := h
  have hk := (inB_iff _ _ _).1 h1
  refine ⟨hk.1, hk.2, nIn_b h7 h8 h2, nIn_b h7 h8 h3, nIn_b h7 h8 h4, fun h11 => ?_, fun h11 => ?_⟩
  · unfold cmOk at h5
    rw [if_neg h11] at h5
    simp only [Bool.and_eq_true, decide_eq_true_eq] at h5
    omega
  unfold cmOk at h5
  rw [if_pos h11] at h5
  simp only [Bool.and_eq_true, decide_eq_true_eq] at h5
  obtain ⟨h6, h9⟩ := (callF_zero _ _ _ _).1 h5.2
  unfold cmdF at h6
  have r5 : (if x.op = 2 ∨ x.op = 4 then (64 : Int) else 0) ≤ 64 := by split <;> omega
  have r6 : (if x.op = 4 then (64 : Int) else 0) ≤ 64 := by split <;> omega
  generalize (if x.op = 2 ∨ x.op = 4 then (64 : Int) else 0) = m5 at h6 r5
  generalize (if x.op = 4 then (64 : Int) else 0) = m6 at h6 r6
  rw [if_neg h9] at h6
  by_cases q1 : x.op < 0 ∨ 4 < x.op
  · rw [if_pos q1] at h6; omega
  rw [if_neg q1, if_neg (by omega), if_neg (by omega)] at h6
  by_cases q4 : (x.k.size : Int) < 1 ∨ 64 < (x.k.size : Int)
  · rw [if_pos q4] at h6; omega
  rw [if_neg q4] at h6
  by_cases q5 : m5 < (x.v.size : Int)
  · rw [if_pos q5] at h6; omega
  rw [if_neg q5] at h6
  by_cases q6 : m6 < (x.o.size : Int)
  · rw [if_pos q6] at h6; omega
  omega
theorem wordK_len (kd : Int) : (wordK kd).length ≤ 7 := by
  by_cases h : 1 ≤ kd ∧ kd ≤ 14
  · rcases kd_cases h.1 h.2 with rfl | rfl | rfl | rfl | rfl | rfl | rfl | rfl | rfl | rfl | rfl | rfl | rfl | rfl <;> decide
  · have e : wordK kd = [] := by
      unfold wordK
      simp only [show ¬ kd = 1 by omega, show ¬ kd = 2 by omega, show ¬ kd = 3 by omega, show ¬ kd = 4 by omega, show ¬ kd = 5 by omega, show ¬ kd = 6 by omega, show ¬ kd = 7 by omega, show ¬ kd = 8 by omega, show ¬ kd = 9 by omega, show ¬ kd = 10 by omega, show ¬ kd = 11 by omega, show ¬ kd = 12 by omega, show ¬ kd = 13 by omega, show ¬ kd = 14 by omega, if_false]
    rw [e]
    simp
theorem stepL_len {x : Stp} (h : StP x) : (stepL x).length ≤ 1000 := by
  unfold stepL
  split
  · rename_i h11
    obtain ⟨o1, o2, o3, o4, o5⟩ := h.op h11
    have h1 := askH_len x h.a.1 h.a.2
    have h2 : (txsL (askT x)).length ≤ 300 := by
      unfold askT
      (repeat' split) <;> simp [txsL, textsL, ByteArray.size_data] <;> omega
    simp
    omega
  · have h1 := wordK_len x.kd
    have h2 := numsL_len ([x.a, x.b, x.c].take (cntK x.kd)) (fun n hn => by
      have := List.mem_of_mem_take hn
      simp only [List.mem_cons, List.not_mem_nil, or_false] at this
      rcases this with rfl | rfl | rfl
      · exact h.a
      · exact h.b
      · exact h.c)
    have h3 : ([x.a, x.b, x.c].take (cntK x.kd)).length ≤ 3 := by rw [List.length_take]; simp; omega
    simp
    omega
theorem stepsL_len : ∀ {l : List Stp}, (∀ x ∈ l, StP x) → (stepsL l).length ≤ 1001 * l.length
  | [], _ => by simp [stepsL]
  | x :: r, h => by
    have h1 := stepsL_len (l := r) fun y hy => h y (List.mem_cons_of_mem _ hy)
    have h2 := stepL_len (h x (List.mem_cons_self ..))
    have e : stepsL (x :: r) = stepL x ++ [10] ++ stepsL r := by simp [stepsL]
    rw [e]
    simp
    omega

theorem itoa_pos {v : Int} (h0 : 0 ≤ v) : 0 < (Lib.itoa v).length := by
  have e : Lib.itoa v = Lib.decDigits v.toNat := by unfold Lib.itoa; rw [if_neg (by omega)]
  rw [e]
  by_cases h : v.toNat < 10
  · rw [dec_lt h]; simp
  · rw [dec_ge h]; simp
/-- what []byte(text) makes -/
theorem below_bytesS (w : World) (s : ByteArray) : Below w.heap.size w (Lib.bytesWorld w 5 s) :=
  ⟨rfl, rfl, rfl, by rw [Lib.bytesWorld_size]; omega, fun k hk => Lib.bytesWorld_at_old w 5 s k hk⟩
theorem bs_bytesS (w : World) (l : List UInt8) (hn : l.length ≤ 100000) (cap : Nat) : Bs (Lib.bytesWorld w 5 (sOf l)) (.slice (some ⟨w.heap.size, 0, none⟩) l.length cap) (bL l) := by
  refine ⟨by rw [bL_len]; simp [maxLen]; omega, bL_byte l, _, cap, by rw [bL_len], fun i hi => ⟨w.heap.size, 0, rfl, fun j hj => ?_⟩⟩
  rw [bL_len] at hj
  rw [Nat.zero_add, Lib.bytesWorld_cell w 5 _ j (by rw [sOf_size]; exact hj)]
  unfold sOf bL
  simp [hj]
theorem convS (u : World) (l : List UInt8) : (convert 9 40 (.string (sOf l))).run Tryd.prog u = .ok (.slice (some ⟨u.heap.size, 0, none⟩) l.length (grownCap u l.length 0 5)) (Lib.bytesWorld u 5 (sOf l)) := by
  have := Lib.run_convert_string_bytes (P := Tryd.prog) u 9 40 5 (sOf l) Tryd.underlying9 Tryd.underlying40 Tryd.underlying5
  rw [sOf_size] at this
  exact this
theorem nums_bL (l : List UInt8) : strOfNums (bL l) = sOf l := by
  unfold strOfNums sOf bL
  congr 2
  rw [List.map_map]
  conv => rhs; rw [← List.map_id l]
  apply List.map_congr_left
  intro c _
  simp
set_option maxRecDepth 100000 in
theorem conv_bsS {w : World} {a : Option Addr} {n c : Nat} {l : List Int} (h : Bs w (.slice a n c) l) (hn : 0 < l.length) : (convert 40 9 (.slice a n c)).run Tryd.prog w = .ok (.string (strOfNums l)) w := by
  obtain ⟨hl, h8, a', cap, e, hcell⟩ := h
  injection e with e1 e2 e3
  subst e1 e2 e3
  obtain ⟨b, off, rfl, hj⟩ := hcell 0 hn
  refine run_convert_bytes_arg w 40 5 Tryd.underlying40 Tryd.underlying5 b off l.length c l rfl (fun i hi => ?_) 9 Tryd.underlying9
  rw [hj i hi]
  simp [List.getD, hi]
theorem bs_mark (w : World) (l : List Int) (c : Array Value) (hc : c.toList = l.map (Value.int .u8)) (h8 : ∀ x ∈ l, 0 ≤ x ∧ x ≤ 255) (hl : l.length ≤ maxLen) (fz : Nat × Nat) (n : Nat) (hn : n = l.length) : Bs (w.alloc (.cells c 5 fz)) (.slice (some ⟨w.heap.size, 0, none⟩) n n) l := by
  subst hn
  refine ⟨hl, h8, _, _, rfl, fun i hi => ⟨w.heap.size, 0, rfl, fun j hj => ?_⟩⟩
  have h1 : c[j]? = some (.int .u8 l[j]) := by rw [← Array.getElem?_toList, hc]; simp [hj]
  rw [cell_of_row (w.alloc (.cells c 5 fz)) w.heap.size (0 + j) c 5 fz (heap_alloc_last w _), Nat.zero_add]
  rw [h1]
  simp [hj]
/-- ints that a call has laid -/
theorem ix_lit (w : World) (l : List Int) (c : Array Value) (hc : c.toList = l.map (Value.int .i64)) (hl : l.length ≤ 1000) (t : TypeId) (n : Nat) (hn : n = l.length) : Ix (w.alloc (.cells c t)) (.slice (some ⟨w.heap.size, 0, none⟩) n n) l := by
  subst hn
  refine ⟨by simp [maxLen]; omega, _, _, rfl, fun i hi => ⟨w.heap.size, 0, rfl, fun j hj => ?_⟩⟩
  have h1 : c[j]? = some (.int .i64 l[j]) := by rw [← Array.getElem?_toList, hc]; simp [hj]
  rw [cell_of_row (w.alloc (.cells c t)) w.heap.size (0 + j) c t (0, 0) (heap_alloc_last w _), Nat.zero_add]
  exact h1
theorem ix_cells (w : World) (q : Nat) (l : List Int) (hl : l.length ≤ 1000) (h : ∀ j (hj : j < l.length), w.cell? ⟨q, j, none⟩ = some (.int .i64 l[j])) (n m : Nat) (hn : n = l.length) : Ix w (.slice (some ⟨q, 0, none⟩) n m) l := by
  subst hn
  exact ⟨by simp [maxLen]; omega, _, _, rfl, fun i hi => ⟨q, 0, rfl, fun j hj => by rw [Nat.zero_add]; exact h j hj⟩⟩
end Go.Proofs.YtabnanmfojppjaaDoor
