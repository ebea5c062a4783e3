/-
  The words of a script's steps and operations.
-/
import Derived.Test.YtabnanmfojppjaaDoorSkPure
namespace Go.Proofs.YtabnanmfojppjaaDoor
open Go.RowKit
set_option linter.unusedVariables false
set_option linter.unusedSimpArgs false

def wordK (kd : Int) : List UInt8 :=
  if kd = 1 then [116, 105, 99, 107] else if kd = 2 then [100, 101, 108, 105, 118, 101, 114] else if kd = 3 then [114, 101, 112, 101, 97, 116] else if kd = 4 then [100, 114, 111, 112] else if kd = 5 then [115, 112, 111, 105, 108] else if kd = 6 then [99, 114, 97, 115, 104] else if kd = 7 then [116, 101, 97, 114] else if kd = 8 then [115, 116, 97, 114, 116] else if kd = 9 then [119, 97, 108, 108] else if kd = 10 then [111, 112, 101, 110] else if kd = 11 then [97, 115, 107] else if kd = 12 then [112, 111, 107, 101] else if kd = 13 then [99, 97, 108, 109] else if kd = 14 then [102, 108, 111, 119] else []
def opK (op : Int) : List UInt8 :=
  if op = 1 then [103, 101, 116] else if op = 2 then [112, 117, 116] else if op = 3 then [100, 101, 108] else if op = 4 then [99, 97, 115] else []
def cntK (kd : Int) : Nat := if kd = 5 then 3 else if kd = 1 ∨ kd = 7 then 2 else 1
theorem kd_cases {kd : Int} (h1 : 1 ≤ kd) (h2 : kd ≤ 14) : kd = 1 ∨ kd = 2 ∨ kd = 3 ∨ kd = 4 ∨ kd = 5 ∨ kd = 6 ∨ kd = 7 ∨ kd = 8 ∨ kd = 9 ∨ kd = 10 ∨ kd = 11 ∨ kd = 12 ∨ kd = 13 ∨ kd = 14 := by omega
theorem op_cases {op : Int} (h1 : 1 ≤ op) (h2 : op ≤ 4) : op = 1 ∨ op = 2 ∨ op = 3 ∨ op = 4 := by omega
/-- the texts of a command, as a script tells them -/
def askT (x : Stp) : List ByteArray := if x.op = 2 then [x.k, x.v] else if x.op = 4 then [x.k, x.o, x.v] else [x.k]
def askOk (x : Stp) : Bool := (askT x).all fun t => wordB t.data.toList
def txsL (ts : List ByteArray) : List UInt8 := textsL (ts.map fun t => t.data.toList)
theorem txsL_nil : txsL [] = [] := rfl
theorem txsL_app (a b : List ByteArray) : txsL (a ++ b) = txsL a ++ txsL b := by simp [txsL, textsL]
theorem txsL_take {l : List ByteArray} {k : Nat} (h : k < l.length) : txsL (l.take (k + 1)) = txsL (l.take k) ++ (32 :: l[k].data.toList) := by
  rw [List.take_succ_eq_append_getElem h, txsL_app]
  simp [txsL, textsL]
/-- an ask's line up tq its texts; a step's line -/
def askH (x : Stp) : List UInt8 := [97, 115, 107] ++ numsL [x.a] ++ [32] ++ opK x.op
def stepL (x : Stp) : List UInt8 := if x.kd = 11 then askH x ++ txsL (askT x) else wordK x.kd ++ numsL ([x.a, x.b, x.c].take (cntK x.kd))
end Go.Proofs.YtabnanmfojppjaaDoor
