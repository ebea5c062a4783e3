/-
  impl.writeDisk.
-/
import Derived.Test.YtmbiccmndcchhagDoorDwSpec
import Derived.Test.YtmbiccmndcchhagDoorFramesOf
namespace Go.Proofs.YtmbiccmndcchhagDoor
open Go.RowKit
set_option linter.unusedVariables false
set_option linter.unusedSimpArgs false

theorem framesOf_no (v : Value) (l : List Rec) (w : World) (hv : Sl Rec.cells 11 w v l) (hf : ∀ r ∈ l, r.e.fits) (A : Addr) (hG : w.cell? ⟨0, 0, none⟩ = some (sentR A)) (hR : recsB l = false) :
    Calls Tryd.prog 38 #[v] w fun x w' => x = .returned (.tuple #[.slice none 0 0, .iface 111 (.agg #[sentR A, .int .i64 0])]) ∧ Below w.heap.size w w' :=
  (framesOf_any v l w hv hf A hG).mono fun x w' h => by
    rcases h with ⟨⟨h1, _⟩ | ⟨_, h2⟩, h3⟩
    · rw [hR] at h1; cases h1
    · exact ⟨h2, h3⟩
theorem framesOf_yes (v : Value) (l : List Rec) (w : World) (hv : Sl Rec.cells 11 w v l) (hf : ∀ r ∈ l, r.e.fits) (A : Addr) (hG : w.cell? ⟨0, 0, none⟩ = some (sentR A)) (hR : recsB l = true) :
    Calls Tryd.prog 38 #[v] w fun x w' => (∃ a' cap', x = .returned (.tuple #[.slice a' (framesL l).length cap', .nilIface]) ∧ Own w' w.heap.size (.slice a' (framesL l).length cap') (framesL l)) ∧ Below w.heap.size w w' :=
  (framesOf_any v l w hv hf A hG).mono fun x w' h => by
    rcases h with ⟨⟨_, v1, h1, ho⟩ | ⟨h2, _⟩, h3⟩
    · obtain ⟨a', cap', rfl⟩ := ho.shape
      exact ⟨⟨_, _, h1, ho⟩, h3⟩
    · rw [hR] at h2; cases h2

theorem writeDisk_bad (p : Nat) (v : Value) (rs : List Rec) (w : World) (hv : Sl Rec.cells 11 w v rs) (hf : ∀ r ∈ rs, r.e.fits) (A : Addr) (hG : w.cell? ⟨0, 0, none⟩ = some (sentR A)) (hR : recsB rs = false) :
    Calls Tryd.prog 41 #[.pointer (some ⟨p, 0, none⟩), v] w fun x w' => x = .returned (.iface 111 (.agg #[sentR A, .int .i64 0])) ∧ Below w.heap.size w w' := by
  have HF : Hid (Calls Tryd.prog 38 #[v] w fun x w' => x = .returned (.tuple #[.slice none 0 0, .iface 111 (.agg #[sentR A, .int .i64 0])]) ∧ Below w.heap.size w w') := framesOf_no v rs w hv hf A hG hR
  go_enter Tryd.func41, Tryd.ntmps41
  go_wp2_with (go_at_call 38; refine Calls.mono HF.out ?_; rintro x w1 ⟨rfl, hb⟩)
  go_ret
  exact ⟨rfl, hb⟩

set_option maxHeartbeats 4000000 in
set_option maxRecDepth 100000 in
theorem writeDisk_full (p : Nat) (c y : Int) (a : Option Addr) (n cap : Nat) (v : Value) (rs : List Rec) (w : World) (hp0 : w.cell? ⟨p, 0, none⟩ = some (.int .i64 c)) (hp2 : w.cell? ⟨p, 2, none⟩ = some (.slice a n cap)) (hn : n ≤ 1048576)
    (hv : Sl Rec.cells 11 w v rs) (hf : ∀ r ∈ rs, r.e.fits) (A A2 : Addr) (hG : w.cell? ⟨0, 0, none⟩ = some (sentR A)) (hG2 : w.cell? ⟨1, 0, none⟩ = some (sentR A2)) (hR : recsB rs = true) (hx : c < (n : Int) + ((framesL rs).length : Int)) :
    Calls Tryd.prog 41 #[.pointer (some ⟨p, 0, none⟩), v] w fun x w' => x = .returned (.iface 111 (.agg #[sentR A2, .int .i64 0])) ∧ Below w.heap.size w w' := by
  have HF : Hid (Calls Tryd.prog 38 #[v] w fun x w' => (∃ a' cap', x = .returned (.tuple #[.slice a' (framesL rs).length cap', .nilIface]) ∧ Own w' w.heap.size (.slice a' (framesL rs).length cap') (framesL rs)) ∧ Below w.heap.size w w') := framesOf_yes v rs w hv hf A hG hR
  have hfl : (framesL rs).length ≤ 3400000 := by have h := encRecs_len rs; rwa [show encRecs rs = framesL rs by simp [encRecs, hR]] at h
  have hwr : IntKind.i64.wrap ((n : Int) + ((framesL rs).length : Int)) = (n : Int) + ((framesL rs).length : Int) := by simp [IntKind.wrap, IntKind.signed, IntKind.bits]; omega
  go_enter Tryd.func41, Tryd.ntmps41
  go_wp2_with (go_at_call 38; refine Calls.mono HF.out ?_; rintro x w1 ⟨⟨a1, cap1, rfl, ho⟩, hb⟩; have k0 : w1.cell? ⟨p, 0, none⟩ = some (.int .i64 c) := ((bcell hb).1 p 0 (cell_lt hp0)).trans hp0; have k2 : w1.cell? ⟨p, 2, none⟩ = some (.slice a n cap) := ((bcell hb).1 p 2 (cell_lt hp2)).trans hp2; have kg : w1.cell? ⟨1, 0, none⟩ = some (sentR A2) := ((bcell hb).1 _ 0 (cell_lt hG2)).trans hG2)
  go_quiet (fail)
  go_wp2
  go_ret
  exact ⟨rfl, ch_below hb⟩

set_option maxHeartbeats 4000000 in
set_option maxRecDepth 100000 in
theorem writeDisk_ok (p : Nat) (c y : Int) (a : Option Addr) (cap : Nat) (l : List Int) (B : Nat) (v : Value) (rs : List Rec) (w : World) (hp0 : w.cell? ⟨p, 0, none⟩ = some (.int .i64 c)) (hp2 : w.cell? ⟨p, 2, none⟩ = some (.slice a l.length cap)) (hpf : w.frozen? ⟨p, 2, none⟩ = false)
    (ho : Own w B (.slice a l.length cap) l) (hB : B ≤ w.heap.size) (hne : (Value.slice a l.length cap).ownBlock ≠ some p) (hn : l.length ≤ 1048576)
    (hv : Sl Rec.cells 11 w v rs) (hf : ∀ r ∈ rs, r.e.fits) (A : Addr) (hG : w.cell? ⟨0, 0, none⟩ = some (sentR A)) (hR : recsB rs = true) (hx : ¬ c < (l.length : Int) + ((framesL rs).length : Int)) :
    Calls Tryd.prog 41 #[.pointer (some ⟨p, 0, none⟩), v] w fun x w' => x = .returned .nilIface ∧
      ∃ a' cap' w5, w' = w5.setCell ⟨p, 2, none⟩ (.slice a' (l.length + (framesL rs).length) cap') ∧ Own w5 B (.slice a' (l.length + (framesL rs).length) cap') (l ++ framesL rs) ∧ (Value.slice a' (l.length + (framesL rs).length) cap').ownBlock ≠ some p ∧ (∀ k, k < w.heap.size → (Value.slice a l.length cap).ownBlock ≠ some k → w5.heap[k]? = w.heap[k]?) ∧ Below B w w5 := by
  have HF : Hid (Calls Tryd.prog 38 #[v] w fun x w' => (∃ a' cap', x = .returned (.tuple #[.slice a' (framesL rs).length cap', .nilIface]) ∧ Own w' w.heap.size (.slice a' (framesL rs).length cap') (framesL rs)) ∧ Below w.heap.size w w') := framesOf_yes v rs w hv hf A hG hR
  have hfl : (framesL rs).length ≤ 3400000 := by have h := encRecs_len rs; rwa [show encRecs rs = framesL rs by simp [encRecs, hR]] at h
  have hwr : IntKind.i64.wrap ((l.length : Int) + ((framesL rs).length : Int)) = (l.length : Int) + ((framesL rs).length : Int) := by simp [IntKind.wrap, IntKind.signed, IntKind.bits]; omega
  have hlt := cell_lt hp0
  clear hv hf hG
  go_enter Tryd.func41, Tryd.ntmps41
  go_wp2_with (go_at_call 38; refine Calls.mono HF.out ?_; rintro x w1 ⟨⟨a1, cap1, rfl, ho1⟩, hb⟩; have z1 : w.heap.size ≤ w1.heap.size := hb.size; have k0 : w1.cell? ⟨p, 0, none⟩ = some (.int .i64 c) := ((bcell hb).1 p 0 hlt).trans hp0; have k2 : w1.cell? ⟨p, 2, none⟩ = some (.slice a l.length cap) := ((bcell hb).1 p 2 hlt).trans hp2; have kf : w1.frozen? ⟨p, 2, none⟩ = false := ((bcell hb).2 p 2 hlt).trans hpf; have HO := ho.below hb)
  go_quiet (fail)
  go_wp2_with (at_builtin; refine wpl_append_own (w := w1.drewN _) rfl (.tmp 35) (.tmp 36) rfl HO rfl ho1 rfl (by unfold maxLen; omega) (by omega) (show B ≤ w1.heap.size by omega) ?_; intro v5 w5 ho5 hg5; have n5 := hg5.far (k := p) (show p < w1.heap.size by omega) hne; have bl5 : ∀ k, k < w.heap.size → (Value.slice a l.length cap).ownBlock ≠ some k → w5.heap[k]? = w.heap[k]? := (fun k hk hk' => (hg5.block (k := k) (show k < w1.heap.size by omega) hk').trans (hb.block k hk)); have b5 := hg5.below HO (show B ≤ w1.heap.size by omega); obtain ⟨a5, cap5, rfl⟩ := ho5.shape; have j2 : w5.cell? ⟨p, 2, none⟩ = some (.slice a l.length cap) := (hg5.cell (k := p) (o := 2) (show p < w1.heap.size by omega) hne).trans k2; have jf : w5.frozen? ⟨p, 2, none⟩ = false := (frozen_block (hg5.block (k := p) (show p < w1.heap.size by omega) hne)).trans kf)
  go_ret
  rw [List.length_append] at ho5 n5
  exact ⟨rfl, a5, cap5, w5, rfl, ho5, n5, bl5, (ch_trans (Below.refl _ _) (hb.mono (Nat.le_refl _)) hB).trans ⟨b5.os, b5.tape, b5.output, b5.size, b5.block⟩⟩
end Go.Proofs.YtmbiccmndcchhagDoor
