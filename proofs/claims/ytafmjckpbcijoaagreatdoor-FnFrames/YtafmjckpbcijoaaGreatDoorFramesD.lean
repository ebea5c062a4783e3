/-
  FnFrames: the decoders at a frame that was laid.
-/
import Derived.Test.YtafmjckpbcijoaaGreatDoorFramesP
import Derived.Test.YtafmjckpbcijoaaGreatDoorSameMs
import Derived.Test.YtafmjckpbcijoaaGreatDoorGround3
namespace Go.Proofs.YtafmjckpbcijoaaGreatDoor
open Go.RowKit
set_option linter.unusedVariables false
set_option linter.unusedSimpArgs false

theorem eqCmdC_run (d : Nat) (x0 x1 x2 : Int) (s0 s1 s2 : ByteArray) (w : World) : (Op.equalIn (d + 2) 33 (.agg #[.int .i64 x0, .int .i64 x1, .int .i64 x2, .string s0, .string s1, .string s2]) (.agg #[.int .i64 x0, .int .i64 x1, .int .i64 x2, .string s0, .string s1, .string s2])).run Tryz.prog w = .ok true w := by
  have := eqCmd_run d ⟨0, x0, x1, x2, s0, s1, s2⟩ ⟨0, x0, x1, x2, s0, s1, s2⟩ w
  rw [(cmdEqB_iff _ _).2 ⟨rfl, rfl, rfl, rfl, rfl, rfl⟩] at this
  exact this
set_option maxRecDepth 100000 in
set_option maxHeartbeats 2000000 in
theorem eqRep_run (d : Nat) (x0 x1 x2 x3 x4 : Int) (s0 : ByteArray) (w : World) : (Op.equalIn (d + 2) 38 (.agg #[.int .i64 x0, .int .i64 x1, .int .i64 x2, .int .i64 x3, .string s0, .int .i64 x4]) (.agg #[.int .i64 x0, .int .i64 x1, .int .i64 x2, .int .i64 x3, .string s0, .int .i64 x4])).run Tryz.prog w = .ok true w := by
  have u3 := Tryz.underlying3
  have u9 := Tryz.underlying9
  have hS : Tryz.prog.underlying 38 = some (.struct (Tryz.prog.fieldsOf 38)) := by kernel_rfl
  rw [run_equalIn_agg w (d + 1) 38 _ _ hS (by kernel_rfl)]
  simp only [Program.fieldsOf, Tryz.underlying38]
  go_simp
/-- a decoder that answers 4 -/
theorem decMsg_4 (a : Option Addr) (len c : Nat) (m : List Int) (w : World) (A : Nat → Addr) (B : Nat) (hs : Sents w A B) (hv : Bs w (.slice a len c) m) (hc : len ≤ c) (hC : msgC m = (4, 0)) :
    Calls Tryz.prog 16 #[.slice a len c] w fun e w' => ∃ ev, e = .returned (.agg #[.int .i64 4, .int .i64 0, .int .i64 0, .int .i64 0, .int .i64 0, .int .i64 0, .int .i64 0, .int .i64 0, .int .i64 0, .int .i64 0, .int .i64 0, ev]) ∧ Below w.heap.size w w' := by
  refine (implDecMsg_any a len c m w A B hs hv hc).mono ?_
  rintro e w' ⟨ev, rfl, _, hb⟩
  refine ⟨ev, ?_, hb⟩
  rw [hC]
  rfl
theorem decCall_4 (a : Option Addr) (len c : Nat) (m : List Int) (w : World) (A : Nat → Addr) (B : Nat) (hs : Sents w A B) (hv : Bs w (.slice a len c) m) (hc : len ≤ c) (hC : callC m = (4, 0)) :
    Calls Tryz.prog 18 #[.slice a len c] w fun e w' => e = .returned (.agg #[.int .i64 4, .int .i64 0, .int .i64 0, .int .i64 0, .int .i64 0, .string ⟨#[]⟩, .string ⟨#[]⟩, .string ⟨#[]⟩]) ∧ Below w.heap.size w w' := by
  refine (implDecCall_any a len c m w A B hs hv hc).mono ?_
  rintro e w' ⟨rfl, hb⟩
  refine ⟨?_, hb⟩
  rw [hC]
  rfl
theorem decReply_4 (a : Option Addr) (len c : Nat) (m : List Int) (w : World) (A : Nat → Addr) (B : Nat) (hs : Sents w A B) (hv : Bs w (.slice a len c) m) (hc : len ≤ c) (hC : repC m = (4, 0)) :
    Calls Tryz.prog 19 #[.slice a len c] w fun e w' => e = .returned (.agg #[.int .i64 4, .int .i64 0, .int .i64 0, .int .i64 0, .int .i64 0, .int .i64 0, .string ⟨#[]⟩, .int .i64 0]) ∧ Below w.heap.size w w' := by
  refine (implDecReply_any a len c m w A B hs hv hc).mono ?_
  rintro e w' ⟨rfl, hb⟩
  refine ⟨?_, hb⟩
  rw [hC]
  rfl
theorem decMsg_0 {ki fr td tm li lt cm ok hi : Int} {l : List Ent} (hF : msgF ki fr td tm li lt cm ok hi l = 0) (a : Option Addr) (len c : Nat) (w : World) (A : Nat → Addr) (B : Nat) (hs : Sents w A B) (hv : Bs w (.slice a len c) (encMsg ki fr td tm li lt cm ok hi l)) (hc : len ≤ c) :
    Calls Tryz.prog 16 #[.slice a len c] w fun e w' => ∃ fa fn fc, e = .returned (.agg #[.int .i64 0, .int .i64 0, .int .i64 ki, .int .i64 fr, .int .i64 td, .int .i64 tm, .int .i64 li, .int .i64 lt, .int .i64 cm, .int .i64 ok, .int .i64 hi, .slice fa fn fc]) ∧ OwnE w' w.heap.size (.slice fa fn fc) l ∧ Below w.heap.size w w' := by
  obtain ⟨h1, _, _, h4, h5⟩ := msg_round hF hv.2.1
  obtain ⟨⟨a1, a2⟩, ⟨a3, a4⟩, ⟨a5, a6⟩, ⟨a7, a8⟩, ⟨a9, a10⟩, ⟨a11, a12⟩, ⟨a13, a14⟩, ⟨a15, a16⟩, ⟨a17, a18⟩, hl32, hall⟩ := msgF_ok hF
  refine (implDecMsg_any a len c _ w A B hs hv hc).mono ?_
  rintro e w' ⟨ev, he, ho, hb⟩
  rw [h1, h4, h5] at he
  rw [h1, h5] at ho
  obtain ⟨fa, fc, rfl⟩ := ho.shape
  refine ⟨fa, _, fc, ?_, ho, hb⟩
  rw [he]
  unfold msgAns
  rw [if_pos rfl, Int.toNat_of_nonneg (by omega), Int.toNat_of_nonneg (by omega), Int.toNat_of_nonneg (by omega), Int.toNat_of_nonneg (by omega), Int.toNat_of_nonneg (by omega), Int.toNat_of_nonneg (by omega), Int.toNat_of_nonneg (by omega), Int.toNat_of_nonneg (by omega)]
theorem decCall_0 {cl sq op : Int} {k v o : ByteArray} (hF : cmdF cl sq op k.size v.size o.size = 0) (hop : op ≠ 0) (a : Option Addr) (len c : Nat) (w : World) (A : Nat → Addr) (B : Nat) (hs : Sents w A B) (hv : Bs w (.slice a len c) (encCallL cl sq op k v o)) (hc : len ≤ c) :
    Calls Tryz.prog 18 #[.slice a len c] w fun e w' => e = .returned (.agg #[.int .i64 0, .int .i64 0, .int .i64 cl, .int .i64 sq, .int .i64 op, .string k, .string v, .string o]) ∧ Below w.heap.size w w' := by
  obtain ⟨h1, _, _, h4⟩ := call_round hF hop hv.2.1
  obtain ⟨a1, a2, a3, a4, a5, a6, a7, a8, a9⟩ := cmdF_ok hF
  refine (implDecCall_any a len c _ w A B hs hv hc).mono ?_
  rintro e w' ⟨he, hb⟩
  rw [h1, h4] at he
  refine ⟨?_, hb⟩
  rw [he]
  unfold callAns
  rw [if_pos rfl, Int.toNat_of_nonneg (by omega), Int.toNat_of_nonneg (by omega), Int.toNat_of_nonneg (by omega)]
theorem decReply_0 {cl sq st cd ld : Int} {v : ByteArray} (hF : repF cl sq st cd v.size ld = 0) (a : Option Addr) (len c : Nat) (w : World) (A : Nat → Addr) (B : Nat) (hs : Sents w A B) (hv : Bs w (.slice a len c) (encReply cl sq st cd ld v)) (hc : len ≤ c) :
    Calls Tryz.prog 19 #[.slice a len c] w fun e w' => e = .returned (.agg #[.int .i64 0, .int .i64 0, .int .i64 cl, .int .i64 sq, .int .i64 st, .int .i64 cd, .string v, .int .i64 ld]) ∧ Below w.heap.size w w' := by
  obtain ⟨h1, _, _, h4⟩ := reply_round hF hv.2.1
  obtain ⟨a1, a2, a3, a4, a5, a6, a7, a8, a9, a10, a11⟩ := repF_ok hF
  refine (implDecReply_any a len c _ w A B hs hv hc).mono ?_
  rintro e w' ⟨he, hb⟩
  rw [h1, h4] at he
  refine ⟨?_, hb⟩
  rw [he]
  unfold repAns
  rw [if_pos rfl, Int.toNat_of_nonneg (by omega), Int.toNat_of_nonneg (by omega), Int.toNat_of_nonneg (by omega), Int.toNat_of_nonneg (by omega), Int.toNat_of_nonneg (by omega)]
end Go.Proofs.YtafmjckpbcijoaaGreatDoor
