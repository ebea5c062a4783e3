/-
  impl.sealFrame.
-/
import Derived.Test.YtfcmffdljfljkaaPutNum
import Derived.Test.YtfcmffdljfljkaaCrc
namespace Go.Proofs.Ytfcmffdljfljkaa
open Go.RowKit
set_option linter.unusedVariables false

/-- a frame round a body -/
def frameL (l : List Int) : List Int := wordL l.length ++ wordL (crcOf l) ++ l

theorem crcOf_lt (l : List Int) (h8 : ∀ x ∈ l, 0 ≤ x ∧ x ≤ 255) : crcOf l < 4294967296 := xor_lt _ _ (crcSt_lt l h8 _) (by decide)

theorem Own.made (w : World) (n : Nat) (hn : n ≤ maxLen) : Own (w.alloc (.cells (madeCells #[.int .u8 0] n) 5)) w.heap.size (.slice (some ⟨w.heap.size, 0, none⟩) 0 n) [] :=
  ⟨by simp, by simpa using World.ownsRow_made (base := w.heap.size) (e := 5) (size := 1) w (madeCells #[.int .u8 0] n) n (Nat.le_refl _) hn (by rw [size_madeCells, Nat.mul_one])⟩

set_option maxHeartbeats 1000000 in
set_option maxRecDepth 100000 in
theorem sealFrame_any (v : Value) (l : List Int) (w : World) (hv : Bs w v l) (hpos : 0 < l.length) (hl : l.length ≤ 100000) :
    Calls Try.prog 98 #[v] w fun e w' => ∃ v', e = .returned v' ∧ Own w' w.heap.size v' (frameL l) ∧ Below w.heap.size w w' := by
  have hV : Hid (Bs w v l) := hv
  have hcrc := crcOf_lt l hv.2.1
  obtain ⟨i0, hi, hz0, hz1, hz2⟩ := info_parts infoU8
  have hmk : ∀ u : World, (Instr.makeSlice 35 (.int .i64 0) (.int .i64 (8 + (l.length : Int)))).run Try.prog u =
      .ok (.slice (some ⟨u.heap.size, 0, none⟩) 0 (8 + l.length)) (u.alloc (.cells (madeCells #[.int .u8 0] (8 + l.length)) 5)) := fun u => by
    have h := run_make (P := Try.prog) u 35 5 i0 (.int .u8 0) Try.underlying35 hi hz0 .i64 .i64 0 (8 + (l.length : Int)) (by omega) (by omega) (by rw [hz2]; omega) (by omega)
    have e : (8 + (l.length : Int)).toNat = 8 + l.length := by omega
    rw [e] at h
    simpa [hz1, Value.cells] using h
  obtain ⟨hml, h8, a, cap, rfl, hc⟩ := hv
  clear hc
  have hO := Own.made w (8 + l.length) (by unfold maxLen; omega)
  have hB : Below w.heap.size w (w.alloc (.cells (madeCells #[.int .u8 0] (8 + l.length)) 5)) := (Below.refl _ _).alloc (Nat.le_refl _) _
  have hsz : w.heap.size ≤ (w.alloc (.cells (madeCells #[.int .u8 0] (8 + l.length)) 5)).heap.size := hB.size
  have hw4 : ∀ x, (wordL x).length = 4 := fun x => rfl
  go_enter Try.func98, Try.ntmps98
  go_wp2_with (first
    | (go_at_call 115; refine (implCrc_any _ l _ (hV.out.below hB)).mono ?_; rintro e w' ⟨rfl, rfl⟩)
    | (go_at_call 114; refine (putWord_any _ [] l.length _ w.heap.size hO hsz (by simp) (by omega)).mono ?_; rintro e w1 ⟨v1, rfl, ho1, hg1⟩; replace hB := hB.trans (hg1.below hO hsz); replace hsz := hB.size; clear hO)
    | (go_at_call 114; refine (putWord_any _ _ (crcOf l) _ w.heap.size ho1 hsz (by simp [hw4]) hcrc).mono ?_; rintro e w2 ⟨v2, rfl, ho2, hg2⟩; replace hB := hB.trans (hg2.below ho1 hsz); replace hsz := hB.size)
    | (at_builtin; refine wpl_append rfl (.tmp 17) (.tmp 18) rfl ho2 rfl (hV.out.below hB) rfl hpos (by simp [hw4]; omega) hsz ?_; intro v3 w3 ho3 hg3; replace hB := hB.trans (hg3.below ho2 hsz)))
  go_ret
  exact ⟨_, rfl, by simpa [frameL] using ho3, hB⟩
end Go.Proofs.Ytfcmffdljfljkaa
