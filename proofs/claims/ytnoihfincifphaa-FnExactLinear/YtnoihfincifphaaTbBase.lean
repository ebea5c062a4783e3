/-
  Pairs and sessions: their rows; the tables that are well-formed; what a command does.
-/
import Derived.Test.YtnoihfincifphaaTbPure
import Derived.Test.YtnoihfincifphaaRowOwn
namespace Go.Proofs.Ytnoihfincifphaa
open Go.RowKit Go.Maps
set_option linter.unusedVariables false
set_option linter.unusedSimpArgs false

structure Pr where
  k : ByteArray
  v : ByteArray
structure Se where
  cl : Int
  sq : Int
  cd : Int
  v : ByteArray
def prC (p : Pr) : List Value := [.string p.k, .string p.v]
def seC (s : Se) : List Value := [.int .i64 s.cl, .int .i64 s.sq, .int .i64 s.cd, .string s.v]
def prV (p : Pr) : Value := .agg #[.string p.k, .string p.v]
def seV (s : Se) : Value := .agg #[.int .i64 s.cl, .int .i64 s.sq, .int .i64 s.cd, .string s.v]
def prK (p : Pr) : Lit := txK p.k
def seK (s : Se) : Lit := .int .i64 s.cl
theorem prOrd : KOrd prK := txOrd.comp (fun p : Pr => p.k)
theorem seOrd : KOrd seK := inOrd.comp (fun s : Se => s.cl)

theorem infoPr : (Try.prog.info? 135).map (fun i => (i.zero, i.size, i.bytes)) = some (some (.agg #[.string ⟨#[]⟩, .string ⟨#[]⟩]), 2, 32) := by kernel_rfl
theorem infoSe : (Try.prog.info? 120).map (fun i => (i.zero, i.size, i.bytes)) = some (some (.agg #[.int .i64 0, .int .i64 0, .int .i64 0, .string ⟨#[]⟩]), 4, 40) := by kernel_rfl
theorem prLaw : GLaw prC 2 135 39 := {
  und := Try.underlying39
  info := by
    obtain ⟨i0, hi, hz0, hz1, hz2⟩ := info_parts infoPr
    exact ⟨i0, _, _, hi, hz0, hz1, hz2, rfl, by decide⟩
  pos := by decide
  len := fun _ => rfl
  one := fun a u hu => by
    simp only [prC, List.mem_cons, List.not_mem_nil, or_false] at hu
    rcases hu with rfl | rfl <;> rfl }
theorem seLaw : GLaw seC 4 120 40 := {
  und := Try.underlying40
  info := by
    obtain ⟨i0, hi, hz0, hz1, hz2⟩ := info_parts infoSe
    exact ⟨i0, _, _, hi, hz0, hz1, hz2, rfl, by decide⟩
  pos := by decide
  len := fun _ => rfl
  one := fun a u hu => by
    simp only [seC, List.mem_cons, List.not_mem_nil, or_false] at hu
    rcases hu with rfl | rfl | rfl | rfl <;> rfl }

/-- a slice of pairs, of sessions -/
abbrev Ps (w : World) (v : Value) (l : List Pr) : Prop := Sl prC 2 w v l
abbrev Ss (w : World) (v : Value) (l : List Se) : Prop := Sl seC 4 w v l
abbrev OwnPr (w : World) (B : Nat) (v : Value) (l : List Pr) : Prop := OwnG prC 2 135 w B v l
abbrev OwnSe (w : World) (B : Nat) (v : Value) (l : List Se) : Prop := OwnG seC 4 120 w B v l
theorem Ps.at_ {w : World} {a : Option Addr} {cap : Nat} {l : List Pr} (h : Ps w (.slice a l.length cap) l) {k : Nat} (hk : k < l.length) : ∃ b off, a = some ⟨b, off, none⟩ ∧ ∀ j (hj : j < l.length), w.cell? ⟨b, off + j * 2, none⟩ = some (.string l[j].k) ∧ w.cell? ⟨b, off + j * 2 + 1, none⟩ = some (.string l[j].v) := by
  obtain ⟨_, a', cap', e, hc⟩ := h
  injection e with e1 _ _
  subst e1
  obtain ⟨b, off, rfl, hj⟩ := hc k hk
  exact ⟨b, off, rfl, fun j hj' => ⟨hj j hj' 0 _ rfl, hj j hj' 1 _ rfl⟩⟩
theorem Ss.at_ {w : World} {a : Option Addr} {cap : Nat} {l : List Se} (h : Ss w (.slice a l.length cap) l) {k : Nat} (hk : k < l.length) : ∃ b off, a = some ⟨b, off, none⟩ ∧ ∀ j (hj : j < l.length), w.cell? ⟨b, off + j * 4, none⟩ = some (.int .i64 l[j].cl) ∧ w.cell? ⟨b, off + j * 4 + 1, none⟩ = some (.int .i64 l[j].sq) ∧ w.cell? ⟨b, off + j * 4 + 2, none⟩ = some (.int .i64 l[j].cd) ∧ w.cell? ⟨b, off + j * 4 + 3, none⟩ = some (.string l[j].v) := by
  obtain ⟨_, a', cap', e, hc⟩ := h
  injection e with e1 _ _
  subst e1
  obtain ⟨b, off, rfl, hj⟩ := hc k hk
  exact ⟨b, off, rfl, fun j hj' => ⟨hj j hj' 0 _ rfl, hj j hj' 1 _ rfl, hj j hj' 2 _ rfl, hj j hj' 3 _ rfl⟩⟩

/-! ### well-formed tables -/
def PrOk (p : Pr) : Prop := 1 ≤ p.k.size ∧ p.k.size ≤ 64 ∧ p.v.size ≤ 64
def SeOk (s : Se) : Prop := (1 ≤ s.cl ∧ s.cl ≤ 8) ∧ (1 ≤ s.sq ∧ s.sq ≤ 1073741824) ∧ (1 ≤ s.cd ∧ s.cd ≤ 4) ∧ s.v.size ≤ 64
structure PsOk (ps : List Pr) : Prop where
  len : ps.length ≤ 256
  all : ∀ p ∈ ps, PrOk p
  rise : KRise prK ps
structure SsOk (ss : List Se) : Prop where
  all : ∀ s ∈ ss, SeOk s
  rise : KRise seK ss
/-- the empty text -/
def tx0 : ByteArray := ⟨#[]⟩

/-! ### what a command does -/
def sesOf (ss : List Se) (c : Int) : Se := (ss.find? fun s => s.cl == c).getD ⟨0, 0, 0, tx0⟩
def prOf (ps : List Pr) (k : ByteArray) : Option Pr := ps.find? fun p => decide (p.k = k)
/-- result, value, the pairs behind it -/
def carry (ps : List Pr) (op : Int) (k v o : ByteArray) : Int × ByteArray × List Pr :=
  if op = 2 then (if prOf ps k = none ∧ ps.length = 256 then (4, tx0, ps) else (1, tx0, kPut prK ⟨k, v⟩ ps))
  else match prOf ps k with
    | none => (2, tx0, ps)
    | some p => if op = 3 then (1, p.v, kDel prK (txK k) ps) else if op = 4 then (if p.v = o then (1, tx0, kPut prK ⟨k, v⟩ ps) else (3, p.v, ps)) else (1, p.v, ps)
/-- code, result, value, pairs, sessions behind a command that is well-formed -/
def applyC (ps : List Pr) (ss : List Se) (cl sq op : Int) (k v o : ByteArray) : Int × Int × ByteArray × List Pr × List Se :=
  if op = 0 then (1, 0, tx0, ps, ss)
  else if sq < (sesOf ss cl).sq then (3, 0, tx0, ps, ss)
  else if (sesOf ss cl).sq = sq then (2, (sesOf ss cl).cd, (sesOf ss cl).v, ps, ss)
  else (0, (carry ps op k v o).1, (carry ps op k v o).2.1, (carry ps op k v o).2.2, kPut seK ⟨cl, sq, (carry ps op k v o).1, (carry ps op k v o).2.1⟩ ss)
end Go.Proofs.Ytnoihfincifphaa
