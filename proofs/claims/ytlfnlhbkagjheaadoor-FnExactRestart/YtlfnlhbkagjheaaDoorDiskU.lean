/-
  A disk and a disk's answer as a law takes them: sz, to, eq, mark, held.
-/
import Derived.Test.YtlfnlhbkagjheaaDoorLawBase
import Derived.Test.YtlfnlhbkagjheaaDoorDiskLaw
namespace Go.Proofs.YtlfnlhbkagjheaaDoor
open Go.RowKit
set_option linter.unusedVariables false

theorem szDisk_u (c y : Int) (a : Option Addr) (n cap : Nat) (hn : n ≤ maxLen) (left : Int) (h0 : 0 ≤ left) (h1 : left ≤ 1048576) (w : World) :
    Calls Tryd.prog 13 #[.agg #[.int .i64 c, .int .i64 y, .slice a n cap], .int .i64 left] w fun e w' => (∃ s : Int, e = .returned (.int .i64 s) ∧ s ≤ 1048576 ∧ (0 ≤ s → n ≤ 1048576)) ∧ Below w.heap.size w w' := by
  obtain ⟨k, rfl⟩ := Int.eq_ofNat_of_zero_le h0
  refine (szDisk_any c y a n cap k (by omega) hn w).mono ?_
  rintro e w' ⟨rfl, hb⟩
  refine ⟨⟨_, rfl, ?_, ?_⟩, hb⟩ <;> split <;> omega
theorem toDisk_u (c y : Int) (v : Value) (l : List Int) (w : World) (hv : Bs w v l) (hl : l.length ≤ 1048576) :
    Calls Tryd.prog 15 #[.agg #[.int .i64 c, .int .i64 y, v]] w fun e w' => ∃ q, e = .returned (.agg #[.int .i64 c, .int .i64 y, .slice (some ⟨q, 0, none⟩) l.length l.length]) ∧ BytesN w.heap.size w'.heap.size w' (.slice (some ⟨q, 0, none⟩) l.length l.length) l ∧ Below w.heap.size w w' :=
  (toDisk_own c y v l w hv hl).mono fun e w' ⟨q, h1, _, _, ho, hb⟩ => ⟨q, h1, .of ho, hb⟩
theorem eqDisk_u (c y : Int) (a a' : Option Addr) (n n' cap cap' : Nat) (l : List Int) (w : World) {lo hi lo' hi' : Nat} (hv : BytesN lo hi w (.slice a n cap) l) (hu : BytesN lo' hi' w (.slice a' n' cap') l) (hl : l.length ≤ maxLen) :
    Calls Tryd.prog 18 #[.agg #[.int .i64 c, .int .i64 y, .slice a n cap], .agg #[.int .i64 c, .int .i64 y, .slice a' n' cap']] w fun e w' => e = .returned (.bool true) ∧ Below w.heap.size w w' :=
  eqDisk_same c y a a' n n' cap cap' l w (hv.bs hl) (hu.bs hl)
theorem markDisk_u (c y : Int) (v : Value) (l : List Int) (k0 : Nat) (w : World) {lo hi : Nat} (hv : BytesN lo hi w v l) (hB : lo ≤ w.heap.size) (hl : l.length ≤ 1048576) (hk0 : k0 ≤ 10000000) :
    Calls Tryd.prog 19 #[.agg #[.int .i64 c, .int .i64 y, v], .int .i64 k0] w fun e w' => (∃ k : Nat, e = .returned (.int .i64 k) ∧ k ≤ k0 + 1048576) ∧ Turned lo hi w w' :=
  (markDisk_any c y v l k0 w lo hv.own hB (by omega) (by omega)).mono fun e w' ⟨h1, _, h3⟩ => ⟨⟨_, h1, by omega⟩, .rows h3 hv.lt⟩
end Go.Proofs.YtlfnlhbkagjheaaDoor
