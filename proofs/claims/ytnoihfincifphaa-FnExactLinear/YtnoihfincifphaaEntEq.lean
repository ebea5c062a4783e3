/-
  '==' on commands and entries.
-/
import Derived.Test.YtnoihfincifphaaEntsBase
import Derived.Laws.StructEq
namespace Go.Proofs.Ytnoihfincifphaa
open Go.RowKit
set_option linter.unusedVariables false
set_option linter.unusedSimpArgs false

def cmdEqB (a b : Ent) : Bool := a.cl == b.cl && (a.sq == b.sq && (a.op == b.op && (a.k.toList == b.k.toList && (a.v.toList == b.v.toList && a.o.toList == b.o.toList))))
set_option maxRecDepth 100000 in
set_option maxHeartbeats 2000000 in
theorem eqCmd_run (d : Nat) (a b : Ent) (w : World) : (Op.equalIn (d + 2) 63 (.agg #[.int .i64 a.cl, .int .i64 a.sq, .int .i64 a.op, .string a.k, .string a.v, .string a.o]) (.agg #[.int .i64 b.cl, .int .i64 b.sq, .int .i64 b.op, .string b.k, .string b.v, .string b.o])).run Try.prog w = .ok (cmdEqB a b) w := by
  have u3 := Try.underlying3
  have u9 := Try.underlying9
  have hS : Try.prog.underlying 63 = some (.struct (Try.prog.fieldsOf 63)) := by kernel_rfl
  rw [run_equalIn_agg w (d + 1) 63 _ _ hS (by kernel_rfl)]
  simp only [Program.fieldsOf, Try.underlying63]
  unfold cmdEqB
  go_simp
  by_cases h1 : a.cl = b.cl <;> by_cases h2 : a.sq = b.sq <;> by_cases h3 : a.op = b.op <;> by_cases h4 : a.k.toList = b.k.toList <;> by_cases h5 : a.v.toList = b.v.toList <;> by_cases h6 : a.o.toList = b.o.toList <;> simp [h1, h2, h3, h4, h5, h6]

set_option maxRecDepth 100000 in
set_option maxHeartbeats 2000000 in
theorem eqEnt_run (d : Nat) (a b : Ent) (w : World) : (Op.equalIn (d + 3) 94 (.agg #[.int .i64 a.t, .int .i64 a.cl, .int .i64 a.sq, .int .i64 a.op, .string a.k, .string a.v, .string a.o]) (.agg #[.int .i64 b.t, .int .i64 b.cl, .int .i64 b.sq, .int .i64 b.op, .string b.k, .string b.v, .string b.o])).run Try.prog w = .ok (a.t == b.t && cmdEqB a b) w := by
  have u3 := Try.underlying3
  have hE := fun w => eqCmd_run d a b w
  have hS : Try.prog.underlying 94 = some (.struct (Try.prog.fieldsOf 94)) := by kernel_rfl
  rw [run_equalIn_agg w (d + 2) 94 _ _ hS (by kernel_rfl)]
  simp only [Program.fieldsOf, Try.underlying94]
  go_simp
  by_cases h1 : a.t = b.t <;> simp [h1]
  cases cmdEqB a b <;> simp

theorem bytes_ext {a b : ByteArray} (h : a.toList = b.toList) : a = b := by
  have e : a.data.toList = b.data.toList := by rw [← ByteArray.toList_eq, ← ByteArray.toList_eq]; exact h
  cases a; cases b; congr 1; exact Array.toList_inj.1 e
theorem cmdEqB_iff (a b : Ent) : cmdEqB a b = true ↔ a.cl = b.cl ∧ a.sq = b.sq ∧ a.op = b.op ∧ a.k = b.k ∧ a.v = b.v ∧ a.o = b.o := by
  simp only [cmdEqB, Bool.and_eq_true, beq_iff_eq]
  exact ⟨fun ⟨h1, h2, h3, h4, h5, h6⟩ => ⟨h1, h2, h3, bytes_ext h4, bytes_ext h5, bytes_ext h6⟩, fun ⟨h1, h2, h3, h4, h5, h6⟩ => ⟨h1, h2, h3, by rw [h4], by rw [h5], by rw [h6]⟩⟩
end Go.Proofs.Ytnoihfincifphaa
