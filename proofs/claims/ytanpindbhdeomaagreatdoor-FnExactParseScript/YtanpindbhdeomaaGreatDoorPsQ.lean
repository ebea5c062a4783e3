/-
  A script's text: what it says; one line, whatever its number.
-/
import Derived.Test.YtanpindbhdeomaaGreatDoorPsLd
namespace Go.Proofs.YtanpindbhdeomaaGreatDoor
open Go.RowKit
set_option linter.unusedVariables false
set_option linter.unusedSimpArgs false

def lineQ (k : Nat) (x : Scr) (l : List UInt8) : Int × Scr :=
  if k = 1 then (if (setL l).1 = 0 then (0, ⟨(setL l).2, x.ds, x.ss⟩) else ((setL l).1, x))
  else if k = 2 then (if (drawL l).1 = 0 then (0, ⟨x.u, (drawL l).2, x.ss⟩) else ((drawL l).1, x))
  else (if (stepN x.u x.ss.length l).1 = 0 then (0, ⟨x.u, x.ds, x.ss ++ [(stepN x.u x.ss.length l).2]⟩) else ((stepN x.u x.ss.length l).1, x))
/-- lines from number k on: the code, the line, the script -/
def linesQ : Nat → Scr → List (List UInt8) → Int × Nat × Scr
  | k, x, [] => (0, k, x)
  | k, x, l :: r => if (lineQ (k + 1) x l).1 = 0 then linesQ (k + 1) (lineQ (k + 1) x l).2 r else ((lineQ (k + 1) x l).1, k + 1, x)
/-- the answer: the code, the line, the script -/
def parseQ (t : List UInt8) : Int × Nat × Scr :=
  if 65536 < t.length then (1, 0, scr0)
  else if t.getLast? ≠ some 10 then (2, 0, scr0)
  else if (linesQ 0 scr0 (spl 10 t.dropLast)).1 ≠ 0 then ((linesQ 0 scr0 (spl 10 t.dropLast)).1, (linesQ 0 scr0 (spl 10 t.dropLast)).2.1, scr0)
  else if (linesQ 0 scr0 (spl 10 t.dropLast)).2.1 < 2 then (8, (linesQ 0 scr0 (spl 10 t.dropLast)).2.1, scr0)
  else (0, 0, (linesQ 0 scr0 (spl 10 t.dropLast)).2.2)
theorem splA_end (c : UInt8) : ∀ (l acc : List UInt8), splA c acc (l ++ [c]) = splA c acc l ++ [[]]
  | [], acc => by simp [splA]
  | x :: l, acc => by
    rw [List.cons_append, splA, splA]
    split
    · rw [splA_end c l []]; rfl
    · exact splA_end c l _
theorem stepN_room {u : Sup} {n : Nat} {l : List UInt8} (h : (stepN u n l).1 = 0) : n ≠ 4096 := by
  rintro rfl
  unfold stepN stepQ at h
  split at h
  · exact absurd h (by decide)
  · split at h
    · exact absurd h (by decide)
    · rw [if_pos rfl] at h
      exact absurd h (by decide)
theorem own_ne {α β : Type} {cs : α → List Value} {ds : β → List Value} {m m' : Nat} {T T' : TypeId} {w : World} {B B' : Nat} {v v' : Value} {l : List α} {l' : List β} (h : OwnG cs m T w B v l) (h' : OwnG ds m' T' w B' v' l') (hne : T ≠ T') : ∀ k, v.ownBlock = some k → v'.ownBlock ≠ some k := by
  intro k e e'
  obtain ⟨-, ⟨rfl, -⟩ | ⟨g, cap, cur, rfl, -, hb, -⟩⟩ := h
  · cases e
  obtain ⟨-, ⟨rfl, -⟩ | ⟨g', cap', cur', rfl, -, hb', -⟩⟩ := h'
  · cases e'
  cases e
  cases e'
  rw [hb] at hb'
  simp only [Option.some.injEq, Obj.cells.injEq] at hb'
  exact hne hb'.2.1
theorem own_neBlk {α : Type} {cs : α → List Value} {m : Nat} {T : TypeId} {w : World} {B : Nat} {v : Value} {l : List α} {b : Nat} {C : Array Value} {t : TypeId} (h : OwnG cs m T w B v l) (hb : Blk w b C t) (hne : T ≠ t) : some b ≠ v.ownBlock := by
  intro e
  obtain ⟨-, ⟨rfl, -⟩ | ⟨g, cap, cur, rfl, -, hb', -⟩⟩ := h
  · cases e
  cases e
  unfold Blk at hb
  rw [hb] at hb'
  simp only [Option.some.injEq, Obj.cells.injEq] at hb'
  exact hne hb'.2.1.symm
/-- one line, whatever its number -/
theorem l7line_one (k : Nat) (hk1 : 1 ≤ k) (hk9 : k ≤ 70000) (x : Scr) (vd vs : Value) (l : List UInt8) (hl : l.length ≤ 65536) (w : World) (B : Nat) (hB : B ≤ w.heap.size) (hd : OwnG inC 1 3 w B vd x.ds) (hs : OwnG stC 10 48 w B vs x.ss) (hsl : x.ss.length ≤ 4096) :
    Calls Tryz.prog 9 #[.agg #[.int .i64 x.u.s, .int .i64 x.u.c, .int .i64 x.u.el, .int .i64 x.u.b, .int .i64 x.u.r, .int .i64 x.u.d, vd, vs], .int .i64 (k : Int), .string (sOf l)] w fun e w' =>
      ∃ (U : Sup) (ad : Option Addr) (nd cd : Nat) (av : Option Addr) (nv cv : Nat), e = .returned (.tuple #[.agg #[.int .i64 U.s, .int .i64 U.c, .int .i64 U.el, .int .i64 U.b, .int .i64 U.r, .int .i64 U.d, .slice ad nd cd, .slice av nv cv], .int .i64 (lineQ k x l).1]) ∧
        ((lineQ k x l).1 = 0 → U = (lineQ k x l).2.u ∧ OwnG inC 1 3 w' B (.slice ad nd cd) (lineQ k x l).2.ds ∧ OwnG stC 10 48 w' B (.slice av nv cv) (lineQ k x l).2.ss ∧ (lineQ k x l).2.ss.length ≤ 4096) ∧ Grew w vs w' (.slice av nv cv) := by
  obtain ⟨ad, cd, rfl⟩ := hd.shape
  unfold lineQ
  by_cases h1 : k = 1
  · subst h1
    obtain ⟨av, cv, rfl⟩ := hs.shape
    refine (l7lineU_any x.u ad x.ds.length cd av x.ss.length cv l hl w).mono ?_
    rintro e w' ⟨U, rfl, hU, hb⟩
    simp only [if_pos]
    refine ⟨U, ad, x.ds.length, cd, av, x.ss.length, cv, ?_, ?_, grw_below _ hb⟩
    · split
      · rename_i h; rw [h]
      · rfl
    · intro h
      split at h
      · rename_i h0
        rw [if_pos h0]
        exact ⟨hU h0, hd.below hb, hs.below hb, hsl⟩
      · exact absurd h (by assumption)
  rw [if_neg h1]
  by_cases h2 : k = 2
  · subst h2
    obtain ⟨av, cv, rfl⟩ := hs.shape
    refine (l7lineD_any x.u ad x.ds.length cd av x.ss.length cv l hl w).mono ?_
    rintro e w' ⟨ad', nd', cd', rfl, hU, hb⟩
    simp only [if_pos]
    refine ⟨x.u, ad', nd', cd', av, x.ss.length, cv, ?_, ?_, grw_below _ hb⟩
    · split
      · rename_i h; rw [h]
      · rfl
    · intro h
      split at h
      · rename_i h0
        rw [if_pos h0]
        exact ⟨rfl, (hU h0).le hB, hs.below hb, hsl⟩
      · exact absurd h (by assumption)
  rw [if_neg h2]
  refine (l7lineS_any k (by omega) hk9 x.u x.ss ad x.ds.length cd vs l hl w B hB hs hsl).mono ?_
  rintro e w' ⟨vs', rfl, ho, hg⟩
  obtain ⟨av, cv, e⟩ := ho.shape
  rw [e] at ho hg ⊢
  refine ⟨x.u, ad, x.ds.length, cd, av, _, cv, ?_, ?_, hg⟩
  · split
    · rename_i h; rw [h]
    · rfl
  · intro h
    split at h
    · rename_i h0
      simp only [if_pos h0] at ho ⊢
      refine ⟨trivial, hd.block fun j hj => hg.g.block j (hd.lts j hj).2 (fun e' => own_ne hs hd (by decide) j e'.symm hj), ho, ?_⟩
      have := stepN_room h0
      rw [List.length_append]
      simp
      omega
    · exact absurd h (by assumption)
end Go.Proofs.YtanpindbhdeomaaGreatDoor
