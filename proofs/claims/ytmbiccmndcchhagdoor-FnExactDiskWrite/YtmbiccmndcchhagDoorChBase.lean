/-
  impl.changeOf: what it answers.
-/
import Derived.Test.YtmbiccmndcchhagDoorRecHard
import Derived.Deep.RegionWith
namespace Go.Proofs.YtmbiccmndcchhagDoor
open Go.RowKit
set_option linter.unusedVariables false
set_option linter.unusedSimpArgs false

/-- the value of a sentinel; an error that wraps it -/
abbrev sentR (a : Addr) : Value := .iface 191 (.pointer (some a))
def chV (r : Rec) : Value := if r.ki = 1 then .iface 135 (.agg #[.int .i64 r.tm, .int .i64 r.vo]) else if r.ki = 2 then .iface 137 (.agg #[.int .i64 r.ix, .int .i64 r.e.t, .int .i64 r.e.cl, .int .i64 r.e.sq, .int .i64 r.e.op, .string r.e.k, .string r.e.v, .string r.e.o]) else .iface 139 (.agg #[.int .i64 r.ix])
def chAns (A : Addr) (r : Rec) : Value := if recB r = true then .tuple #[chV r, .nilIface] else .tuple #[.nilIface, .iface 111 (.agg #[sentR A, .int .i64 0])]
theorem ch_below {B : Nat} {w w' u : World} (h : Below B w u) (he : w'.heap = u.heap := by rfl) (h1 : w'.os = u.os := by rfl) (h2 : w'.tape = u.tape := by rfl) (h3 : w'.output = u.output := by rfl) : Below B w w' :=
  ⟨h1.trans h.os, h2.trans h.tape, h3.trans h.output, by rw [he]; exact h.size, fun k hk => by rw [he]; exact h.block k hk⟩
theorem ch_trans {B : Nat} {w0 w u w' : World} (h0 : Below B w0 w) (h : Below u.heap.size u w') (hB : B ≤ w.heap.size) (he : u.heap = w.heap := by rfl) (h1 : u.os = w.os := by rfl) (h2 : u.tape = w.tape := by rfl) (h3 : u.output = w.output := by rfl) : Below B w0 w' :=
  h0.trans ⟨h.os.trans h1, h.tape.trans h2, h.output.trans h3, by rw [← he]; exact h.size, fun k hk => by rw [← he]; exact h.block k (by rw [he]; omega)⟩
theorem meth_hard_record (x : Value) (w : World) : (method 335 135 x "loop.example/s01586/impl.record").run Tryd.prog w = .ok (141, x) w := by kernel_rfl
theorem meth_hard_fits (x : Value) (w : World) : (method 335 135 x "loop.example/s01586/impl.fits").run Tryd.prog w = .ok (140, x) w := by kernel_rfl
theorem meth_hard_encode (x : Value) (w : World) : (method 335 135 x "loop.example/s01586/impl.encode").run Tryd.prog w = .ok (139, x) w := by kernel_rfl
theorem meth_add_record (x : Value) (w : World) : (method 335 137 x "loop.example/s01586/impl.record").run Tryd.prog w = .ok (148, x) w := by kernel_rfl
theorem meth_add_fits (x : Value) (w : World) : (method 335 137 x "loop.example/s01586/impl.fits").run Tryd.prog w = .ok (147, x) w := by kernel_rfl
theorem meth_add_encode (x : Value) (w : World) : (method 335 137 x "loop.example/s01586/impl.encode").run Tryd.prog w = .ok (146, x) w := by kernel_rfl
theorem meth_cut_record (x : Value) (w : World) : (method 335 139 x "loop.example/s01586/impl.record").run Tryd.prog w = .ok (160, x) w := by kernel_rfl
theorem meth_cut_fits (x : Value) (w : World) : (method 335 139 x "loop.example/s01586/impl.fits").run Tryd.prog w = .ok (159, x) w := by kernel_rfl
theorem meth_cut_encode (x : Value) (w : World) : (method 335 139 x "loop.example/s01586/impl.encode").run Tryd.prog w = .ok (158, x) w := by kernel_rfl
end Go.Proofs.YtmbiccmndcchhagDoor
