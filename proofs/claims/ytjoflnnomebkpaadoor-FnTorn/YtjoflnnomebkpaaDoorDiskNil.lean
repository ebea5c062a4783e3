/-
  impl.cutDisk, also of a disk whose data are nil.
-/
import Derived.Test.YtjoflnnomebkpaaDoorGround2
namespace Go.Proofs.YtjoflnnomebkpaaDoor
open Go.RowKit
set_option linter.unusedVariables false

set_option maxHeartbeats 1000000 in
set_option maxRecDepth 100000 in
theorem clone_nil (w : World) : Calls Tryd.prog 85 #[.slice none 0 0] w fun e w' => e = .returned (.slice none 0 0) ∧ w' = w := by
  have hnil : ∀ u : World, (binOp .eql 22 (.slice none 0 0) (.slice none 0 0)).run Tryd.prog u = .ok (.bool true) u := fun u => by
    rw [Lib.run_eql_slice_nil u 22 5 none 0 0 0 0 Tryd.underlying22]; rfl
  go_enter Tryd.func85, Tryd.ntmps85
  go_wp2
  go_ret
  exact ⟨rfl, rfl⟩
set_option maxHeartbeats 1000000 in
set_option maxRecDepth 100000 in
theorem cutDisk_nil (c y : Int) (w : World) :
    Calls Tryd.prog 50 #[.agg #[.int .i64 c, .int .i64 y, .slice none 0 0], .int .i64 ((0 : Nat) : Int)] w fun e w' => e = .returned (.agg #[.int .i64 c, .int .i64 y, .slice none 0 0]) ∧ Below w.heap.size w w' := by
  have hb0 : Hid (Below w.heap.size w ((w.alloc (.cells #[.int .i64 c, .int .i64 y, .slice none 0 0] 24)).alloc (.cells #[.int .i64 0, .int .i64 0, .slice none 0 0] 24))) := ((Below.refl _ _).alloc (Nat.le_refl _) _).alloc (by simp) _
  go_enter Tryd.func50, Tryd.ntmps50
  go_wp2_with (go_at_call 85; refine (clone_nil _).mono ?_; rintro e w1 ⟨rfl, hw1⟩; subst w1)
  refine bodyPost_ret (v := .agg #[.int .i64 c, .int .i64 y, .slice none 0 0]) (by simp [results, Tryd.results50, go_sem]) rfl ⟨rfl, ?_⟩
  exact ((Below.refl _ _).alloc (Nat.le_refl _) _).alloc (by simp) _
/-- a slice's address: none at all, or a block's -/
def AOk (a : Option Addr) (cap : Nat) : Prop := (a = none ∧ cap = 0) ∨ ∃ b off, a = some ⟨b, off, none⟩
theorem Own.aok {w : World} {B n cap : Nat} {a : Option Addr} {l : List Int} (h : Own w B (.slice a n cap) l) (hn : n = l.length) : AOk a cap ∧ l.length ≤ cap := by
  subst hn
  rcases h.2.2 with ⟨e1, e2⟩ | ⟨g, c, cur, e1, _, _, h1, _⟩
  · injection e1 with e1 e3 e4
    exact ⟨.inl ⟨e1, e4⟩, by omega⟩
  · injection e1 with e1 e3 e4
    exact ⟨.inr ⟨g, 0, e1⟩, by omega⟩
theorem cutDisk_gen (c y : Int) (a : Option Addr) (cap : Nat) (l : List Int) (n : Nat) (w : World) (hv : Bs w (.slice a l.length cap) l) (hc : l.length ≤ cap) (hn : n ≤ l.length) (hl : l.length ≤ 1048576) (hna : AOk a cap) :
    Calls Tryd.prog 50 #[.agg #[.int .i64 c, .int .i64 y, .slice a l.length cap], .int .i64 n] w fun e w' =>
      ∃ a' cap', e = .returned (.agg #[.int .i64 c, .int .i64 y, .slice a' n cap']) ∧ Own w' w.heap.size (.slice a' n cap') (l.take n) ∧ Below w.heap.size w w' := by
  rcases hna with ⟨rfl, rfl⟩ | ⟨b, off, rfl⟩
  · obtain rfl : l = [] := List.eq_nil_of_length_eq_zero (by omega)
    obtain rfl : n = 0 := by simpa using hn
    exact (cutDisk_nil c y w).mono fun e w' ⟨h1, h2⟩ => ⟨none, 0, h1, Own.nil _ _, h2⟩
  · exact cutDisk_any c y b off cap l n w hv hc hn hl
end Go.Proofs.YtjoflnnomebkpaaDoor
