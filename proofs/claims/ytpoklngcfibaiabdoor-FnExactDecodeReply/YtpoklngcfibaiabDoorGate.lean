/-
  Gates: so that an arm is tried at its own operation alone.
-/
import Derived.Test.YtpoklngcfibaiabDoorAnsErr
namespace Go.Proofs.YtpoklngcfibaiabDoor
open Go.RowKit
set_option linter.unusedVariables false

theorem gate_store {P : Program} {w : World} {ops : Array Oper} {rest : List Oper} {o : Oper} {a : Act} {Q : Exit → Act → World → Prop} (ty : TypeId) (x y : Operand) (ho : o.op = .store ty x y)
    (h : wpList P ops Q (o :: rest) a w) : wpList P ops Q (o :: rest) a w := h
theorem gate_load {P : Program} {w : World} {ops : Array Oper} {rest : List Oper} {o : Oper} {a : Act} {Q : Exit → Act → World → Prop} (ty : TypeId) (x : Operand) (ho : o.op = .load ty x)
    (h : wpList P ops Q (o :: rest) a w) : wpList P ops Q (o :: rest) a w := h
end Go.Proofs.YtpoklngcfibaiabDoor
