/-
  '==' on commands and records.
-/
import Derived.Test.YtlfnlhbkagjheaaDoorRecBase
import Derived.Laws.StructEq
namespace Go.Proofs.YtlfnlhbkagjheaaDoor
open Go.RowKit
set_option linter.unusedVariables false

def cmdEqB (a b : Ent) : Bool := a.cl == b.cl && (a.sq == b.sq && (a.op == b.op && (a.k.toList == b.k.toList && (a.v.toList == b.v.toList && a.o.toList == b.o.toList))))
def recEqB (r s : Rec) : Bool := r.ki == s.ki && (r.tm == s.tm && (r.vo == s.vo && (r.ix == s.ix && (r.e.t == s.e.t && cmdEqB r.e s.e))))

set_option maxRecDepth 100000 in
set_option maxHeartbeats 2000000 in
theorem eqCmd_run (d : Nat) (a b : Ent) (w : World) : (Op.equalIn (d + 2) 51 (.agg #[.int .i64 a.cl, .int .i64 a.sq, .int .i64 a.op, .string a.k, .string a.v, .string a.o]) (.agg #[.int .i64 b.cl, .int .i64 b.sq, .int .i64 b.op, .string b.k, .string b.v, .string b.o])).run Tryd.prog w = .ok (cmdEqB a b) w := by
  have u3 := Tryd.underlying3
  have u9 := Tryd.underlying9
  have hS : Tryd.prog.underlying 51 = some (.struct (Tryd.prog.fieldsOf 51)) := by kernel_rfl
  rw [run_equalIn_agg w (d + 1) 51 _ _ hS (by kernel_rfl)]
  simp only [Program.fieldsOf, Tryd.underlying51]
  unfold cmdEqB
  go_simp
  by_cases h1 : a.cl = b.cl <;> by_cases h2 : a.sq = b.sq <;> by_cases h3 : a.op = b.op <;> by_cases h4 : a.k.toList = b.k.toList <;> by_cases h5 : a.v.toList = b.v.toList <;> by_cases h6 : a.o.toList = b.o.toList <;> simp [h1, h2, h3, h4, h5, h6]

set_option maxRecDepth 100000 in
set_option maxHeartbeats 2000000 in
theorem eqEnt_run (d : Nat) (a b : Ent) (w : World) : (Op.equalIn (d + 3) 53 (.agg #[.int .i64 a.t, .int .i64 a.cl, .int .i64 a.sq, .int .i64 a.op, .string a.k, .string a.v, .string a.o]) (.agg #[.int .i64 b.t, .int .i64 b.cl, .int .i64 b.sq, .int .i64 b.op, .string b.k, .string b.v, .string b.o])).run Tryd.prog w = .ok (a.t == b.t && cmdEqB a b) w := by
  have u3 := Tryd.underlying3
  have hE := fun w => eqCmd_run d a b w
  have hS : Tryd.prog.underlying 53 = some (.struct (Tryd.prog.fieldsOf 53)) := by kernel_rfl
  rw [run_equalIn_agg w (d + 2) 53 _ _ hS (by kernel_rfl)]
  simp only [Program.fieldsOf, Tryd.underlying53]
  go_simp
  by_cases h1 : a.t = b.t <;> simp [h1]
  cases cmdEqB a b <;> simp

set_option maxRecDepth 100000 in
set_option maxHeartbeats 2000000 in
theorem eqRec_run (d : Nat) (r s : Rec) (w : World) : (Op.equalIn (d + 4) 55 (.agg r.cells.toArray) (.agg s.cells.toArray)).run Tryd.prog w = .ok (recEqB r s) w := by
  have u3 := Tryd.underlying3
  have hE := fun w => eqEnt_run d r.e s.e w
  have hS : Tryd.prog.underlying 55 = some (.struct (Tryd.prog.fieldsOf 55)) := by kernel_rfl
  rw [run_equalIn_agg w (d + 3) 55 _ _ hS (by kernel_rfl)]
  simp only [Program.fieldsOf, Tryd.underlying55, Rec.cells]
  unfold recEqB
  generalize (r.e.t == s.e.t && cmdEqB r.e s.e) = X at hE ⊢
  go_simp
  cases X <;> by_cases h1 : r.ki = s.ki <;> by_cases h2 : r.tm = s.tm <;> by_cases h3 : r.vo = s.vo <;> by_cases h4 : r.ix = s.ix <;> simp [h1, h2, h3, h4]

theorem bytes_ext {a b : ByteArray} (h : a.toList = b.toList) : a = b := by
  have e : a.data.toList = b.data.toList := by rw [← ByteArray.toList_eq, ← ByteArray.toList_eq]; exact h
  cases a; cases b; congr 1; exact Array.toList_inj.1 e
theorem cmdEqB_iff (a b : Ent) : cmdEqB a b = true ↔ a.cl = b.cl ∧ a.sq = b.sq ∧ a.op = b.op ∧ a.k = b.k ∧ a.v = b.v ∧ a.o = b.o := by
  simp only [cmdEqB, Bool.and_eq_true, beq_iff_eq]
  exact ⟨fun ⟨h1, h2, h3, h4, h5, h6⟩ => ⟨h1, h2, h3, bytes_ext h4, bytes_ext h5, bytes_ext h6⟩, fun ⟨h1, h2, h3, h4, h5, h6⟩ => ⟨h1, h2, h3, by rw [h4], by rw [h5], by rw [h6]⟩⟩
end Go.Proofs.YtlfnlhbkagjheaaDoor
