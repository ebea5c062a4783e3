/-
  laws.sameTable at two tables that hold the same.
-/
import Derived.Test.YtelfejhopjbhpaaTbBase
import Derived.Test.YtelfejhopjbhpaaBlk
import Derived.BigQuiet
namespace Go.Proofs.Ytelfejhopjbhpaa
open Go.RowKit Go.Maps
set_option linter.unusedVariables false
set_option linter.unusedSimpArgs false

set_option maxRecDepth 100000 in
set_option maxHeartbeats 2000000 in
theorem eqPr_run (d : Nat) (k v : ByteArray) (w : World) : (Op.equalIn (d + 2) 76 (.agg #[.string k, .string v]) (.agg #[.string k, .string v])).run Try.prog w = .ok true w := by
  have u9 := Try.underlying9
  have hS : Try.prog.underlying 76 = some (.struct (Try.prog.fieldsOf 76)) := by kernel_rfl
  rw [run_equalIn_agg w (d + 1) 76 _ _ hS (by kernel_rfl)]
  simp only [Program.fieldsOf, Try.underlying76]
  go_simp
set_option maxRecDepth 100000 in
set_option maxHeartbeats 2000000 in
theorem eqSe_run (d : Nat) (a b c : Int) (v : ByteArray) (w : World) : (Op.equalIn (d + 2) 78 (.agg #[.int .i64 a, .int .i64 b, .int .i64 c, .string v]) (.agg #[.int .i64 a, .int .i64 b, .int .i64 c, .string v])).run Try.prog w = .ok true w := by
  have u3 := Try.underlying3
  have u9 := Try.underlying9
  have hS : Try.prog.underlying 78 = some (.struct (Try.prog.fieldsOf 78)) := by kernel_rfl
  rw [run_equalIn_agg w (d + 1) 78 _ _ hS (by kernel_rfl)]
  simp only [Program.fieldsOf, Try.underlying78]
  go_simp
set_option maxHeartbeats 4000000 in
set_option maxRecDepth 100000 in
theorem sameTable_u (va : Option Addr) (vc : Nat) (ua : Option Addr) (uc : Nat) (va' : Option Addr) (vc' : Nat) (ua' : Option Addr) (uc' : Nat) (ps : List Pr) (ss : List Se) (w : World) (h1 : Ps w (.slice va ps.length vc) ps) (h2 : Ss w (.slice ua ss.length uc) ss) (h1' : Ps w (.slice va' ps.length vc') ps) (h2' : Ss w (.slice ua' ss.length uc') ss) (hn : ps.length ≤ 1048576) (hm : ss.length ≤ 1048576) :
    Calls Try.prog 9 #[.agg #[.slice va ps.length vc, .slice ua ss.length uc], .agg #[.slice va' ps.length vc', .slice ua' ss.length uc']] w fun e w' => e = .returned (.bool true) ∧ Below w.heap.size w w' := by
  obtain ⟨W0, hW0⟩ : ∃ W0, W0 = (w.alloc (.cells #[.slice va ps.length vc, .slice ua ss.length uc] 29)).alloc (.cells #[.slice va' ps.length vc', .slice ua' ss.length uc'] 29) := ⟨_, rfl⟩
  have hB0 : Below w.heap.size w W0 := by rw [hW0]; exact ((Below.refl _ _).alloc (Nat.le_refl _) _).alloc (by simp) _
  have H1 : Hid (Ps W0 (.slice va ps.length vc) ps) := h1.below hB0
  have H2 : Hid (Ss W0 (.slice ua ss.length uc) ss) := h2.below hB0
  have H1' : Hid (Ps W0 (.slice va' ps.length vc') ps) := h1'.below hB0
  have H2' : Hid (Ss W0 (.slice ua' ss.length uc') ss) := h2'.below hB0
  have HB0 : Hid (Below w.heap.size w W0) := hB0
  have BX : Hid (Blk W0 w.heap.size #[.slice va ps.length vc, .slice ua ss.length uc] 29) := by show Blk _ _ _ _; rw [hW0]; exact (Blk.new _ _ _).alloc _
  have BY : Hid (Blk W0 (w.heap.size + 1) #[.slice va' ps.length vc', .slice ua' ss.length uc'] 29) := by show Blk _ _ _ _; rw [hW0]; exact Blk.new' _ _ _ (by simp)
  have x0 : W0.cell? ⟨w.heap.size, 0, none⟩ = some (.slice va ps.length vc) := BX.out.cell 0
  have x1 : W0.cell? ⟨w.heap.size, 1, none⟩ = some (.slice ua ss.length uc) := BX.out.cell 1
  have y0 : W0.cell? ⟨w.heap.size + 1, 0, none⟩ = some (.slice va' ps.length vc') := BY.out.cell 0
  have y1 : W0.cell? ⟨w.heap.size + 1, 1, none⟩ = some (.slice ua' ss.length uc') := BY.out.cell 1
  clear h1 h2 h1' h2' hB0
  go_enter Try.func9, Try.ntmps9
  go_wp2
  rw [← hW0]
  clear hW0
  go_loopw [5] (fun i wr => ∃ k q : Nat, k ≤ ps.length ∧ i = .int .i64 k ∧ wr = W0.drewN q) (fun i _ => ps.length - (RowKit.intOf i).toNat)
  case atStart => exact ⟨0, 0, Nat.zero_le _, rfl, rfl⟩
  case round =>
    obtain ⟨k, q, hk, rfl, rfl⟩ := hrel
    by_cases hlt : k < ps.length
    · obtain ⟨b, off, rfl, hj⟩ := Ps.at_ H1.out hlt
      obtain ⟨b', off', rfl, hj'⟩ := Ps.at_ H1'.out hlt
      obtain ⟨c0, c1⟩ := hj k hlt
      obtain ⟨d0, d1⟩ := hj' k hlt
      have hE := fun u => eqPr_run 9998 ps[k].k ps[k].v u
      clear hj hj'
      generalize ps[k] = p at *
      go_wp2
      go_quiet (fail)
      go_wp2
      go_roundw
      case rel => exact ⟨k + 1, _, by omega, by go_num, by first | rfl | exact (World.drewN_drew _ _).symm⟩
      case measure => simp [RowKit.intOf]; omega
    · go_wp2
      go_loopw [6] (fun i wr => ∃ k q : Nat, k ≤ ss.length ∧ i = .int .i64 k ∧ wr = W0.drewN q) (fun i _ => ss.length - (RowKit.intOf i).toNat)
      case atStart => exact ⟨0, q, Nat.zero_le _, rfl, rfl⟩
      case round =>
        obtain ⟨k, q, hk, rfl, rfl⟩ := hrel
        by_cases hlt : k < ss.length
        · obtain ⟨b, off, rfl, hj⟩ := Ss.at_ H2.out hlt
          obtain ⟨b', off', rfl, hj'⟩ := Ss.at_ H2'.out hlt
          obtain ⟨c0, c1, c2, c3⟩ := hj k hlt
          obtain ⟨d0, d1, d2, d3⟩ := hj' k hlt
          have hE := fun u => eqSe_run 9998 ss[k].cl ss[k].sq ss[k].cd ss[k].v u
          clear hj hj'
          generalize ss[k] = p at *
          go_wp2
          go_quiet (fail)
          go_wp2
          go_roundw
          case rel => exact ⟨k + 1, _, by omega, by go_num, by first | rfl | exact (World.drewN_drew _ _).symm⟩
          case measure => simp [RowKit.intOf]; omega
        · go_wp2
          go_ret
          exact ⟨rfl, HB0.out.trans ⟨rfl, rfl, rfl, Nat.le_refl _, fun _ _ => rfl⟩⟩
end Go.Proofs.Ytelfejhopjbhpaa
