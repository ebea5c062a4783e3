/-
  Recover, plain.
-/
import Derived.Test.YtjoflnnomebkpaaDoorDecBase
import Derived.Test.YtjoflnnomebkpaaDoorRdEnt
import Derived.Test.YtjoflnnomebkpaaDoorGround
namespace Go.Proofs.YtjoflnnomebkpaaDoor
open Go.RowKit
set_option linter.unusedVariables false
set_option linter.unusedSimpArgs false

/-- the frame that r begins with: 0, 1 (torn), 2 (its length) -/
def cutC (r : List Int) : Nat := if r.length ≤ 8 then 1 else if inB (8 + wordN r 0) 9 16384 = false then 2 else if (r.length : Int) < 8 + wordN r 0 then 1 else 0
def cutN (r : List Int) : Nat := (8 + wordN r 0).toNat
def ent0 : Ent := ⟨0, 0, 0, 0, ⟨#[]⟩, ⟨#[]⟩, ⟨#[]⟩⟩
/-- the record of the kind's byte k, and what is left -/
def rdRec (k : Int) (s : RSt) : Rec × RSt :=
  if k = 11 then (⟨1, (rdNum s).1, (rdNum (rdNum s).2).1, 0, ent0⟩, (rdNum (rdNum s).2).2)
  else if k = 12 then (⟨2, 0, 0, (rdNum s).1, (rdEnt (rdNum s).2).1⟩, (rdEnt (rdNum s).2).2)
  else (⟨3, 0, 0, (rdNum s).1, ent0⟩, (rdNum s).2)
def frec (f : List Int) : Rec := (rdRec (f[8]?.getD 0) (some (f.drop 9))).1
def fleft (f : List Int) : RSt := (rdRec (f[8]?.getD 0) (some (f.drop 9))).2
/-- what is wrong with a frame: a sentinel's number -/
def readE (f : List Int) : Nat :=
  if sumC f ≠ 0 then sumC f else if inB (f[8]?.getD 0) 11 13 = false then 4 else if fleft f ≠ some [] then 5 else if recB (frec f) = false then 6 else 0
structure Stt where
  t : Int
  v : Int
  log : List Ent
def lastT (d : Int) (log : List Ent) : Int := if log.length = 0 then d else (log[log.length - 1]?.getD ent0).t
def fitsB (s : Stt) (r : Rec) : Bool :=
  if r.ki = 1 then (decide (s.t < r.tm) || (r.tm == s.t && (s.v == 0 || s.v == r.vo)))
  else if r.ki = 2 then (r.ix == (s.log.length : Int) + 1 && inB r.e.t (lastT 1 s.log) s.t) else decide (r.ix ≤ (s.log.length : Int))
def thenS (s : Stt) (r : Rec) : Stt := if r.ki = 1 then ⟨r.tm, r.vo, s.log⟩ else if r.ki = 2 then ⟨s.t, s.v, s.log ++ [r.e]⟩ else ⟨s.t, s.v, s.log.take r.ix.toNat⟩
/-- what is wrong with the record that r begins with -/
def oneE (r : List Int) (s : Stt) : Nat :=
  if cutC r ≠ 0 then cutC r + 6 else if readE (r.take (cutN r)) ≠ 0 then readE (r.take (cutN r)) else if fitsB s (frec (r.take (cutN r))) = false then 9 else 0
def stopC (e : Nat) : Int := if e = 7 then 1 else if e = 8 then 2 else if e = 3 then 3 else if e = 9 then 5 else if e = 0 then 0 else 4
def runR (l : List Int) : Nat → Nat → Nat → Stt → Nat × Nat × Nat × Stt
  | 0, g, n, s => (0, g, n, s)
  | f + 1, g, n, s =>
    if g < l.length then
      if oneE (l.drop g) s ≠ 0 then (oneE (l.drop g) s, g, n, s) else runR l f (g + cutN (l.drop g)) (n + 1) (thenS s (frec ((l.drop g).take (cutN (l.drop g)))))
    else (0, g, n, s)
/-- the answer's parts: the error's number, Good, Records, Stable -/
def rcv (l : List Int) : Nat × Nat × Nat × Stt := runR l l.length 0 0 ⟨0, 0, []⟩

theorem cutC_zero {r : List Int} (h : cutC r = 0) : 8 < r.length ∧ 9 ≤ cutN r ∧ cutN r ≤ 16384 ∧ cutN r ≤ r.length ∧ (cutN r : Int) = 8 + wordN r 0 := by
  unfold cutC at h
  split at h
  · cases h
  split at h
  · cases h
  next h1 h2 =>
  split at h
  · cases h
  next h3 =>
  have h4 : inB (8 + wordN r 0) 9 16384 = true := by simpa using h2
  rw [inB_iff] at h4
  unfold cutN
  omega
theorem oneE_cut {r : List Int} {s : Stt} (h : oneE r s = 0) : cutC r = 0 := by
  unfold oneE at h
  split at h
  · omega
  · next h1 => exact Decidable.not_not.1 h1
theorem oneE_read {r : List Int} {s : Stt} (h : oneE r s = 0) : readE (r.take (cutN r)) = 0 := by
  unfold oneE at h
  rw [if_neg (fun x => x (oneE_cut (by unfold oneE; exact h)))] at h
  split at h
  · next h1 => exact absurd h h1
  · next h1 => exact Decidable.not_not.1 h1
theorem oneE_fits {r : List Int} {s : Stt} (h : oneE r s = 0) : fitsB s (frec (r.take (cutN r))) = true := by
  have h2 := oneE_read h
  have h1 := oneE_cut h
  unfold oneE at h
  rw [if_neg (fun x => x h1), if_neg (fun x => x h2)] at h
  split at h
  · cases h
  · next h3 => simpa using h3
theorem wordN_take (r : List Int) (n : Nat) (i : Nat) (h : i + 4 ≤ n) : wordN (r.take n) i = wordN r i := by
  unfold wordN
  have e : ∀ k, k < n → (r.take n)[k]? = r[k]? := fun k hk => by rw [List.getElem?_take, if_pos hk]
  rw [e i (by omega), e (i + 1) (by omega), e (i + 2) (by omega), e (i + 3) (by omega)]
/-- a frame of the right length has the right sum or the wrong one -/
theorem sumC_cut {r : List Int} (h : cutC r = 0) : sumC (r.take (cutN r)) = if wordN (r.take (cutN r)) 4 ≠ (crcOf ((r.take (cutN r)).drop 8) : Nat) then 3 else 0 := by
  obtain ⟨h1, h2, h3, h4, h5⟩ := cutC_zero h
  have hl : (r.take (cutN r)).length = cutN r := by rw [List.length_take]; omega
  unfold sumC
  rw [hl, if_neg (fun x => x ⟨h2, h3⟩), wordN_take r (cutN r) 0 (by omega), if_neg (fun x => x (by omega))]

theorem runR_fuel (l : List Int) : ∀ (f f' g n : Nat) (s : Stt), l.length - g ≤ f → l.length - g ≤ f' → runR l f g n s = runR l f' g n s := by
  intro f
  induction f with
  | zero =>
    intro f' g n s h _
    cases f' with
    | zero => rfl
    | succ f' => rw [runR, runR, if_neg (by omega)]
  | succ f ih =>
    intro f' g n s h h'
    by_cases hg : g < l.length
    · cases f' with
      | zero => omega
      | succ f' =>
        rw [runR, runR, if_pos hg, if_pos hg]
        by_cases ho : oneE (l.drop g) s ≠ 0
        · rw [if_pos ho, if_pos ho]
        · rw [if_neg ho, if_neg ho]
          have hc := cutC_zero (oneE_cut (Decidable.not_not.1 ho))
          exact ih f' _ _ _ (by omega) (by omega)
    · cases f' with
      | zero => rw [runR, runR, if_neg hg]
      | succ f' => rw [runR, runR, if_neg hg, if_neg hg]

/-- a run under way -/
def Und (l : List Int) (R : Nat × Nat × Nat × Stt) (g n : Nat) (s : Stt) : Prop := runR l (l.length - g) g n s = R
theorem Und.start (l : List Int) : Und l (rcv l) 0 0 ⟨0, 0, []⟩ := by unfold Und rcv; rw [Nat.sub_zero]
theorem Und.done {l : List Int} {R : Nat × Nat × Nat × Stt} {g n : Nat} {s : Stt} (h : Und l R g n s) (hg : ¬ g < l.length) : R = (0, g, n, s) := by
  unfold Und at h
  rw [show l.length - g = 0 by omega, runR] at h
  exact h.symm
theorem Und.stop {l : List Int} {R : Nat × Nat × Nat × Stt} {g n : Nat} {s : Stt} (h : Und l R g n s) (hg : g < l.length) (ho : oneE (l.drop g) s ≠ 0) : R = (oneE (l.drop g) s, g, n, s) := by
  unfold Und at h
  obtain ⟨f, hf⟩ : ∃ f, l.length - g = f + 1 := ⟨l.length - g - 1, by omega⟩
  rw [hf, runR, if_pos hg, if_pos ho] at h
  exact h.symm
theorem Und.go {l : List Int} {R : Nat × Nat × Nat × Stt} {g n : Nat} {s : Stt} (h : Und l R g n s) (hg : g < l.length) (ho : oneE (l.drop g) s = 0) :
    Und l R (g + cutN (l.drop g)) (n + 1) (thenS s (frec ((l.drop g).take (cutN (l.drop g))))) := by
  unfold Und at h ⊢
  obtain ⟨f, hf⟩ : ∃ f, l.length - g = f + 1 := ⟨l.length - g - 1, by omega⟩
  have hc := cutC_zero (oneE_cut ho)
  rw [hf, runR, if_pos hg, if_neg (fun x => x ho)] at h
  rw [← h]
  exact runR_fuel l _ _ _ _ _ (Nat.le_refl _) (by omega)

/-- the kinds -/
theorem frec_hard {f : List Int} (h : f[8]?.getD 0 = 11) : frec f = ⟨1, (rdNum (some (f.drop 9))).1, (rdNum (rdNum (some (f.drop 9))).2).1, 0, ent0⟩ ∧ fleft f = (rdNum (rdNum (some (f.drop 9))).2).2 := by
  unfold frec fleft rdRec; rw [h]; exact ⟨rfl, rfl⟩
theorem frec_add {f : List Int} (h : f[8]?.getD 0 = 12) : frec f = ⟨2, 0, 0, (rdNum (some (f.drop 9))).1, (rdEnt (rdNum (some (f.drop 9))).2).1⟩ ∧ fleft f = (rdEnt (rdNum (some (f.drop 9))).2).2 := by
  unfold frec fleft rdRec; rw [h]; exact ⟨rfl, rfl⟩
theorem frec_cut {f : List Int} (h : f[8]?.getD 0 = 13) : frec f = ⟨3, 0, 0, (rdNum (some (f.drop 9))).1, ent0⟩ ∧ fleft f = (rdNum (some (f.drop 9))).2 := by
  unfold frec fleft rdRec; rw [h]; exact ⟨rfl, rfl⟩
theorem ent0_fits : ent0.fits := ⟨by decide, by decide, by decide⟩
theorem frec_fits (f : List Int) : (frec f).e.fits := by
  unfold frec rdRec
  split
  · exact ent0_fits
  split
  · exact rdEnt_fits _
  · exact ent0_fits
theorem frec_ki (f : List Int) : (frec f).ki = 1 ∨ (frec f).ki = 2 ∨ (frec f).ki = 3 := by
  unfold frec rdRec
  split
  · exact .inl rfl
  split
  · exact .inr (.inl rfl)
  · exact .inr (.inr rfl)
end Go.Proofs.YtjoflnnomebkpaaDoor
