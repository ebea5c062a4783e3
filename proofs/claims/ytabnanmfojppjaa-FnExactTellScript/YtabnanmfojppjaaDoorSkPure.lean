/-
  Scripts, in plain words: which fit, and the text that tells one.
-/
import Derived.Test.YtabnanmfojppjaaDoorCallFault
import Derived.Test.YtabnanmfojppjaaDoorSetup
import Derived.Lib.ItoaNum
namespace Go.Proofs.YtabnanmfojppjaaDoor
open Go.RowKit
set_option linter.unusedVariables false
set_option linter.unusedSimpArgs false

/-- a step -/
structure Stp where
  kd : Int
  a : Int
  b : Int
  c : Int
  cl : Int
  sq : Int
  op : Int
  k : ByteArray
  v : ByteArray
  o : ByteArray
/-- a setup -/
structure Sup where
  s : Int
  c : Int
  el : Int
  b : Int
  r : Int
  d : Int
def stC (x : Stp) : List Value := [.int .i64 x.kd, .int .i64 x.a, .int .i64 x.b, .int .i64 x.c, .int .i64 x.cl, .int .i64 x.sq, .int .i64 x.op, .string x.k, .string x.v, .string x.o]
structure Stp.fits (x : Stp) : Prop where
  k : x.k.size ≤ 1048576
  v : x.v.size ≤ 1048576
  o : x.o.size ≤ 1048576

/-- what the i-th number of a step of this kind is -/
def nk0 (kd : Int) : Int :=
  if kd = 1 ∨ kd = 6 ∨ kd = 7 ∨ kd = 8 ∨ kd = 9 ∨ kd = 10 then 1 else if kd = 11 ∨ kd = 12 then 2 else if kd = 13 ∨ kd = 14 then 3 else 4
def nk1 (kd : Int) : Int := if kd = 1 then 3 else if kd = 5 then 5 else if kd = 7 then 7 else 0
def nk2 (kd : Int) : Int := if kd = 5 then 6 else 0
def nLo (n : Int) : Int := if n = 1 ∨ n = 2 ∨ n = 3 then 1 else 0
def nHi (sv cc : Int) (n : Int) : Int :=
  if n = 1 then sv else if n = 2 then cc else if n = 3 then 10000 else if n = 4 then 4095 else if n = 5 then 16384 else if n = 6 then 254 else if n = 7 then 1048576 else 0
def nIn (sv cc : Int) (x n : Int) : Bool := inB x (nLo n) (nHi sv cc n)
def cmOk (x : Stp) : Bool :=
  if x.kd = 11 then decide (x.cl = 0) && decide (x.sq = 0) && decide (callF 1 1 x.op x.k.size x.v.size x.o.size = 0)
  else decide (x.cl = 0) && decide (x.sq = 0) && decide (x.op = 0) && decide (x.k.size = 0) && decide (x.v.size = 0) && decide (x.o.size = 0)
def stOk (sv cc : Int) (x : Stp) : Bool :=
  inB x.kd 1 14 && nIn sv cc x.a (nk0 x.kd) && nIn sv cc x.b (nk1 x.kd) && nIn sv cc x.c (nk2 x.kd) && cmOk x
def scOk (u : Sup) (ds : List Int) (ss : List Stp) : Bool :=
  decide (setF u.s u.c u.el u.b u.r u.d = 0) && decide (ds.length ≤ 4096) && decide (ss.length ≤ 4096) && ds.all (fun n => inB n 0 1073741824) && ss.all (stOk u.s u.c)

/-- a text that can stand in a line -/
def wordB (t : List UInt8) : Bool := t.all (fun x => decide (33 ≤ x.toNat) && decide (x.toNat ≤ 126)) && !t.isEmpty
/-- numbers, texts behind a word -/
def numsL (vs : List Int) : List UInt8 := vs.flatMap fun n => 32 :: Lib.itoa n
def textsL (ts : List (List UInt8)) : List UInt8 := ts.flatMap fun t => 32 :: t
theorem numsL_cons (n : Int) (vs : List Int) : numsL (n :: vs) = 32 :: Lib.itoa n ++ numsL vs := by simp [numsL]
theorem textsL_cons (t : List UInt8) (ts : List (List UInt8)) : textsL (t :: ts) = 32 :: t ++ textsL ts := by simp [textsL]
theorem numsL_app (a b : List Int) : numsL (a ++ b) = numsL a ++ numsL b := by simp [numsL]
theorem textsL_app (a b : List (List UInt8)) : textsL (a ++ b) = textsL a ++ textsL b := by simp [textsL]
end Go.Proofs.YtabnanmfojppjaaDoor
