/-
  spec.DrawPlanRecords.
-/
import Derived.Test.YtjoflnnomebkpaaDoorDrBs
import Derived.Test.YtjoflnnomebkpaaDoorL1size
namespace Go.Proofs.YtjoflnnomebkpaaDoor
open Go.RowKit
set_option linter.unusedVariables false
set_option linter.unusedSimpArgs false

theorem entsD_grow (l : List Int) (k : Nat) (t : Int) (n : Nat) (h0 : 0 ≤ t) : t ≤ (entsD l k t n).2.2 ∧ (entsD l k t n).2.2 ≤ t + n ∧ ∀ e ∈ (entsD l k t n).1, t ≤ e.t ∧ e.t ≤ t + n := by
  induction n with
  | zero => exact ⟨Int.le_refl _, by simp [entsD], by simp [entsD]⟩
  | succ n ih =>
    obtain ⟨i1, i2, i3⟩ := ih
    have hT : (entsD l k t n).2.2 ≤ entT l (entsD l k t n).2.1 (entsD l k t n).2.2 ∧ entT l (entsD l k t n).2.1 (entsD l k t n).2.2 ≤ (entsD l k t n).2.2 + 1 := by
      unfold entT
      split <;> omega
    rw [entsD]
    dsimp only
    refine ⟨by omega, by omega, fun e he => ?_⟩
    rcases List.mem_append.1 he with he | he
    · have := i3 e he
      omega
    · simp only [List.mem_singleton] at he
      subst he
      unfold entE
      split <;> (dsimp only; omega)
theorem stD_ok (l : List Int) (k n : Nat) (hn : n ≤ 200) : 0 ≤ (stD l k n).1 ∧ (stD l k n).1 ≤ 1073741824 ∧ (stD l k n).2.2.1.length ≤ n ∧ (∀ e ∈ (stD l k n).2.2.1, entT0 e) ∧ (stD l k n).2.2.2 ≤ k + 10 + 16 * n := by
  unfold stD
  split
  · exact ⟨(by dsimp only; omega), (by dsimp only; omega), Nat.zero_le _, (fun e he => by simp at he), by dsimp only; omega⟩
  · dsimp only
    have hp := pickV_lt l (k + 1 + 1) 3 (by omega)
    have hq := pickV_lt l (k + 1) (n + 1) (by omega)
    have hE : stE l k n = entsD l (k + 1 + 1 + 1) (1 + ((pickV l (k + 1 + 1) 3 : Nat) : Int)) (pickV l (k + 1) (n + 1)) := rfl
    generalize pickV l (k + 1 + 1) 3 = p at *
    generalize pickV l (k + 1) (n + 1) = q at *
    have hl := entsD_len l (k + 1 + 1 + 1) (1 + (p : Int)) q
    have hk := entsD_k l (k + 1 + 1 + 1) (1 + (p : Int)) q
    have hm := entsD_mem l (k + 1 + 1 + 1) (1 + (p : Int)) q (by omega) (by omega)
    have hg := (entsD_grow l (k + 1 + 1 + 1) (1 + (p : Int)) q (by omega)).2.2
    have h3 := pickV_lt l (stE l k n).2.1 3 (by omega)
    rw [← hE] at hl hk hm hg
    have hlow : 0 ≤ lowV (stE l k n).1 (stE l k n).1.length ∧ lowV (stE l k n).1 (stE l k n).1.length ≤ 1 + (p : Int) + q := by
      rcases Nat.eq_zero_or_pos (stE l k n).1.length with h0 | h0
      · rw [h0]; exact ⟨(by show (0 : Int) ≤ 1; omega), (by show (1 : Int) ≤ _; omega)⟩
      · have h1 := lowV_succ (stE l k n).1 ((stE l k n).1.length - 1) (by omega)
        rw [show (stE l k n).1.length - 1 + 1 = (stE l k n).1.length by omega] at h1
        rw [h1]
        have := hg _ (List.getElem_mem (l := (stE l k n).1) (n := (stE l k n).1.length - 1) (by omega))
        omega
    refine ⟨?_, ?_, by omega, hm, by omega⟩
    · unfold stT; split <;> omega
    · unfold stT; split <;> omega
/-- the drawn states -/
def plA (l : List Int) (m : Nat) : Int × Int × List Ent :=
  if pickV l (nxK l (stD l 0 (3 + m / 8)).2.2.2 (stD l 0 (3 + m / 8)).1 (stD l 0 (3 + m / 8)).2.1 (stD l 0 (3 + m / 8)).2.2.1 6) 12 = 0 then ((badS l ((nxK l (stD l 0 (3 + m / 8)).2.2.2 (stD l 0 (3 + m / 8)).1 (stD l 0 (3 + m / 8)).2.1 (stD l 0 (3 + m / 8)).2.2.1 6) + 1) (stD l 0 (3 + m / 8)).1 (stD l 0 (3 + m / 8)).2.1 (stD l 0 (3 + m / 8)).2.2.1).1, (badS l ((nxK l (stD l 0 (3 + m / 8)).2.2.2 (stD l 0 (3 + m / 8)).1 (stD l 0 (3 + m / 8)).2.1 (stD l 0 (3 + m / 8)).2.2.1 6) + 1) (stD l 0 (3 + m / 8)).1 (stD l 0 (3 + m / 8)).2.1 (stD l 0 (3 + m / 8)).2.2.1).2.1, (badS l ((nxK l (stD l 0 (3 + m / 8)).2.2.2 (stD l 0 (3 + m / 8)).1 (stD l 0 (3 + m / 8)).2.1 (stD l 0 (3 + m / 8)).2.2.1 6) + 1) (stD l 0 (3 + m / 8)).1 (stD l 0 (3 + m / 8)).2.1 (stD l 0 (3 + m / 8)).2.2.1).2.2.1) else ((stD l 0 (3 + m / 8)).1, (stD l 0 (3 + m / 8)).2.1, (stD l 0 (3 + m / 8)).2.2.1)
def plB (l : List Int) (m : Nat) : Int × Int × List Ent :=
  if pickV l (nxK l (stD l 0 (3 + m / 8)).2.2.2 (stD l 0 (3 + m / 8)).1 (stD l 0 (3 + m / 8)).2.1 (stD l 0 (3 + m / 8)).2.2.1 6) 12 = 0 then ((nxT l (stD l 0 (3 + m / 8)).2.2.2 (stD l 0 (3 + m / 8)).1 (stD l 0 (3 + m / 8)).2.1 (stD l 0 (3 + m / 8)).2.2.1 6), (nxV l (stD l 0 (3 + m / 8)).2.2.2 (stD l 0 (3 + m / 8)).1 (stD l 0 (3 + m / 8)).2.1 (stD l 0 (3 + m / 8)).2.2.1 6), (nxL l (stD l 0 (3 + m / 8)).2.2.2 (stD l 0 (3 + m / 8)).1 (stD l 0 (3 + m / 8)).2.1 (stD l 0 (3 + m / 8)).2.2.1 6)) else if pickV l (nxK l (stD l 0 (3 + m / 8)).2.2.2 (stD l 0 (3 + m / 8)).1 (stD l 0 (3 + m / 8)).2.1 (stD l 0 (3 + m / 8)).2.2.1 6) 12 = 1 then ((badS l ((nxK l (stD l 0 (3 + m / 8)).2.2.2 (stD l 0 (3 + m / 8)).1 (stD l 0 (3 + m / 8)).2.1 (stD l 0 (3 + m / 8)).2.2.1 6) + 1) (nxT l (stD l 0 (3 + m / 8)).2.2.2 (stD l 0 (3 + m / 8)).1 (stD l 0 (3 + m / 8)).2.1 (stD l 0 (3 + m / 8)).2.2.1 6) (nxV l (stD l 0 (3 + m / 8)).2.2.2 (stD l 0 (3 + m / 8)).1 (stD l 0 (3 + m / 8)).2.1 (stD l 0 (3 + m / 8)).2.2.1 6) (nxL l (stD l 0 (3 + m / 8)).2.2.2 (stD l 0 (3 + m / 8)).1 (stD l 0 (3 + m / 8)).2.1 (stD l 0 (3 + m / 8)).2.2.1 6)).1, (badS l ((nxK l (stD l 0 (3 + m / 8)).2.2.2 (stD l 0 (3 + m / 8)).1 (stD l 0 (3 + m / 8)).2.1 (stD l 0 (3 + m / 8)).2.2.1 6) + 1) (nxT l (stD l 0 (3 + m / 8)).2.2.2 (stD l 0 (3 + m / 8)).1 (stD l 0 (3 + m / 8)).2.1 (stD l 0 (3 + m / 8)).2.2.1 6) (nxV l (stD l 0 (3 + m / 8)).2.2.2 (stD l 0 (3 + m / 8)).1 (stD l 0 (3 + m / 8)).2.1 (stD l 0 (3 + m / 8)).2.2.1 6) (nxL l (stD l 0 (3 + m / 8)).2.2.2 (stD l 0 (3 + m / 8)).1 (stD l 0 (3 + m / 8)).2.1 (stD l 0 (3 + m / 8)).2.2.1 6)).2.1, (badS l ((nxK l (stD l 0 (3 + m / 8)).2.2.2 (stD l 0 (3 + m / 8)).1 (stD l 0 (3 + m / 8)).2.1 (stD l 0 (3 + m / 8)).2.2.1 6) + 1) (nxT l (stD l 0 (3 + m / 8)).2.2.2 (stD l 0 (3 + m / 8)).1 (stD l 0 (3 + m / 8)).2.1 (stD l 0 (3 + m / 8)).2.2.1 6) (nxV l (stD l 0 (3 + m / 8)).2.2.2 (stD l 0 (3 + m / 8)).1 (stD l 0 (3 + m / 8)).2.1 (stD l 0 (3 + m / 8)).2.2.1 6) (nxL l (stD l 0 (3 + m / 8)).2.2.2 (stD l 0 (3 + m / 8)).1 (stD l 0 (3 + m / 8)).2.1 (stD l 0 (3 + m / 8)).2.2.1 6)).2.2.1)
  else if pickV l (nxK l (stD l 0 (3 + m / 8)).2.2.2 (stD l 0 (3 + m / 8)).1 (stD l 0 (3 + m / 8)).2.1 (stD l 0 (3 + m / 8)).2.2.1 6) 12 = 2 then ((nxT l (stD l 0 (3 + m / 8)).2.2.2 (stD l 0 (3 + m / 8)).1 (stD l 0 (3 + m / 8)).2.1 (stD l 0 (3 + m / 8)).2.2.1 6), ((pickV l ((nxK l (stD l 0 (3 + m / 8)).2.2.2 (stD l 0 (3 + m / 8)).1 (stD l 0 (3 + m / 8)).2.1 (stD l 0 (3 + m / 8)).2.2.1 6) + 1) 8 : Nat) : Int), (nxL l (stD l 0 (3 + m / 8)).2.2.2 (stD l 0 (3 + m / 8)).1 (stD l 0 (3 + m / 8)).2.1 (stD l 0 (3 + m / 8)).2.2.1 6)) else if pickV l (nxK l (stD l 0 (3 + m / 8)).2.2.2 (stD l 0 (3 + m / 8)).1 (stD l 0 (3 + m / 8)).2.1 (stD l 0 (3 + m / 8)).2.2.1 6) 12 = 3 then ((stD l ((nxK l (stD l 0 (3 + m / 8)).2.2.2 (stD l 0 (3 + m / 8)).1 (stD l 0 (3 + m / 8)).2.1 (stD l 0 (3 + m / 8)).2.2.1 6) + 1) 5).1, (stD l ((nxK l (stD l 0 (3 + m / 8)).2.2.2 (stD l 0 (3 + m / 8)).1 (stD l 0 (3 + m / 8)).2.1 (stD l 0 (3 + m / 8)).2.2.1 6) + 1) 5).2.1, (stD l ((nxK l (stD l 0 (3 + m / 8)).2.2.2 (stD l 0 (3 + m / 8)).1 (stD l 0 (3 + m / 8)).2.1 (stD l 0 (3 + m / 8)).2.2.1 6) + 1) 5).2.2.1) else ((nxT l (stD l 0 (3 + m / 8)).2.2.2 (stD l 0 (3 + m / 8)).1 (stD l 0 (3 + m / 8)).2.1 (stD l 0 (3 + m / 8)).2.2.1 6), (nxV l (stD l 0 (3 + m / 8)).2.2.2 (stD l 0 (3 + m / 8)).1 (stD l 0 (3 + m / 8)).2.1 (stD l 0 (3 + m / 8)).2.2.1 6), (nxL l (stD l 0 (3 + m / 8)).2.2.2 (stD l 0 (3 + m / 8)).1 (stD l 0 (3 + m / 8)).2.1 (stD l 0 (3 + m / 8)).2.2.1 6))
theorem pl_len (l : List Int) (m : Nat) (hm : m ≤ 400) : (plA l m).2.2.length ≤ 53 ∧ (plB l m).2.2.length ≤ 59 := by
  have hs := stD_ok l 0 (3 + m / 8) (by omega)
  have hx := nx_ok l (stD l 0 (3 + m / 8)).2.2.2 (stD l 0 (3 + m / 8)).1 (stD l 0 (3 + m / 8)).2.1 (stD l 0 (3 + m / 8)).2.2.1 6 hs.1 hs.2.1 hs.2.2.2.1
  have hl := hs.2.2.1
  have hxl := hx.2.2.1
  have h5 := (stD_ok l ((nxK l (stD l 0 (3 + m / 8)).2.2.2 (stD l 0 (3 + m / 8)).1 (stD l 0 (3 + m / 8)).2.1 (stD l 0 (3 + m / 8)).2.2.1 6) + 1) 5 (by omega)).2.2.1
  refine ⟨?_, ?_⟩
  · unfold plA
    split
    · dsimp only; rw [badS_len]; omega
    · dsimp only; omega
  · unfold plB
    split
    · dsimp only; omega
    split
    · dsimp only; rw [badS_len]; omega
    split
    · dsimp only; omega
    split
    · dsimp only; omega
    · dsimp only; omega
theorem Dr.reBad {w0 w w' : World} {g k K : Nat} {v u : Value} {l : List Int} {L L' : List Ent} {B : Nat} {F : List (Nat × Array Value × TypeId)} (h : Dr w0 w g v l k F) (hO : OwnE w B u L) (hb : BadAt w0 w w' g v l u L' K) (hT : ∀ x ∈ F, 92 ≠ x.2.2) : Dr w0 w' g v l K F :=
  h.reF hb.2.1 (fun x hx => by
    obtain ⟨i, hi⟩ := List.getElem?_of_mem hx
    have hbk := (h.blks i x hi).2.1
    exact hb.2.2 x.1 hbk.lt (by have h1 := (h.blks i x hi).1; have h2 := h.gl; omega) (ownsRow.neBlk hO.2 hbk (hT x hx)))
theorem two_types {A B : Nat} {C D : Array Value} : ∀ x ∈ [(A, C, 39), (B, D, 39)], 92 ≠ x.2.2 := fun x hx => by
  rcases List.mem_cons.1 hx with e | hx
  · rw [e]; exact (by decide : 92 ≠ 39)
  · rw [List.mem_singleton.1 hx]; exact (by decide : 92 ≠ 39)
theorem OwnE.bad {w0 w w' : World} {g K : Nat} {v u u' : Value} {l : List Int} {L' L2 : List Ent} {B : Nat} (hN : OwnE w B u' L2) (hb : BadAt w0 w w' g v l u L' K) (hg : g < B) (hap : ∀ q, u.ownBlock = some q → u'.ownBlock ≠ some q) : OwnE w' B u' L2 :=
  hN.block fun q hq => hb.2.2 q (hN.2.lt q hq).2 (by have := (hN.2.lt q hq).1; omega) (fun e => hap q e hq)
theorem grown_below3 {w w' : World} {o1 o2 o3 : Obj} (h : World.grownBy (((w.alloc o1).alloc o2).alloc o3) w' (some (w.heap.size + 1 + 1))) : Below w.heap.size w w' := by
  have hb : Below w.heap.size w (((w.alloc o1).alloc o2).alloc o3) := (((Below.refl _ _).alloc (Nat.le_refl _) _).alloc (by simp) _).alloc (by simp <;> omega) _
  refine ⟨h.os.trans hb.os, h.tape.trans hb.tape, h.output.trans hb.output, Nat.le_trans hb.size h.size, fun k hk => (h.block k (by simp; omega) (by intro e; injection e with e; omega)).trans (hb.block k hk)⟩
theorem ownE_set3 {w : World} {B b : Nat} {u : Value} {L : List Ent} {C : Array Value} {t : TypeId} (h : OwnE w B u L) (hb : Blk w b C t) (hne : 92 ≠ t) (x y z : Value) : OwnE (((w.setCell ⟨b, 0, none⟩ x).setCell ⟨b, 1, none⟩ y).setCell ⟨b, 2, none⟩ z) B u L :=
  ownE_blkS h hb hne (fun q hq => (set_keepS _ _ 2 _ q hq).trans ((set_keepS _ _ 1 _ q hq).trans (set_keepS _ _ 0 _ q hq)))
set_option maxHeartbeats 16000000 in
set_option maxRecDepth 100000 in
theorem drawPlanRecords_any (a : Option Addr) (cap : Nat) (l : List Int) (w : World) (hv : Bs w (.slice a l.length cap) l) (hL : l.length ≤ 1048576) :
    Calls Tryd.prog 16 #[.slice a l.length cap] w fun r w' => ∃ oa oc na nc, r = .returned (.tuple #[.agg #[.int .i64 (plA l (min l.length 400)).1, .int .i64 (plA l (min l.length 400)).2.1, .slice oa (plA l (min l.length 400)).2.2.length oc], .agg #[.int .i64 (plB l (min l.length 400)).1, .int .i64 (plB l (min l.length 400)).2.1, .slice na (plB l (min l.length 400)).2.2.length nc]]) ∧ OwnE w' w.heap.size (.slice oa (plA l (min l.length 400)).2.2.length oc) (plA l (min l.length 400)).2.2 ∧ OwnE w' w.heap.size (.slice na (plB l (min l.length 400)).2.2.length nc) (plB l (min l.length 400)).2.2 ∧ Below w.heap.size w w' := by
  have hlm := hv.1
  have HSZ : Hid (∀ u, Calls Tryd.prog 42 #[.slice a l.length cap] u fun e w' => e = .returned (.int .i64 (((min l.length 400) : Nat) : Int)) ∧ w' = u) := fun u => l1size_any a l.length cap hlm u
  have hm : (min l.length 400) ≤ 400 := Nat.min_le_right _ _
  generalize (min l.length 400) = m at *
  have HS0 : Hid (Src (((w.alloc (.cells #[.int .i64 0, .int .i64 0, .slice none 0 0] 39)).alloc (.cells #[.int .i64 0, .int .i64 0, .slice none 0 0] 39)).alloc (.cells #[.slice a l.length cap, .int .i64 0] 70)) (w.heap.size + 1 + 1) (.slice a l.length cap) l 0) := by
    have hx := Src.start ((w.alloc (.cells #[.int .i64 0, .int .i64 0, .slice none 0 0] 39)).alloc (.cells #[.int .i64 0, .int .i64 0, .slice none 0 0] 39)) (.slice a l.length cap) l (hv.below (((Below.refl _ _).alloc (Nat.le_refl _) _).alloc (by simp) _)) 70
    rw [show ((w.alloc (.cells #[.int .i64 0, .int .i64 0, .slice none 0 0] 39)).alloc (.cells #[.int .i64 0, .int .i64 0, .slice none 0 0] 39)).heap.size = w.heap.size + 1 + 1 by simp] at hx
    exact hx
  have hsz : (((w.alloc (.cells #[.int .i64 0, .int .i64 0, .slice none 0 0] 39)).alloc (.cells #[.int .i64 0, .int .i64 0, .slice none 0 0] 39)).alloc (.cells #[.slice a l.length cap, .int .i64 0] 70)).heap.size = w.heap.size + 1 + 1 + 1 := by simp
  have Hsz : Hid ((((w.alloc (.cells #[.int .i64 0, .int .i64 0, .slice none 0 0] 39)).alloc (.cells #[.int .i64 0, .int .i64 0, .slice none 0 0] 39)).alloc (.cells #[.slice a l.length cap, .int .i64 0] 70)).heap.size = w.heap.size + 1 + 1 + 1) := hsz
  clear hsz
  have hs := stD_ok l 0 (3 + m / 8) (by omega)
  have hx := nx_ok l (stD l 0 (3 + m / 8)).2.2.2 (stD l 0 (3 + m / 8)).1 (stD l 0 (3 + m / 8)).2.1 (stD l 0 (3 + m / 8)).2.2.1 6 hs.1 hs.2.1 hs.2.2.2.1
  have HSt : Hid (∀ u : World, Src u (w.heap.size + 1 + 1) (.slice a l.length cap) l 0 → Calls Tryd.prog 53 #[.pointer (some ⟨(w.heap.size + 1 + 1), 0, none⟩), .int .i64 (3 + (m : Int) / 8)] u fun r w' => ∃ ea ec, r = .returned (.agg #[.int .i64 (stD l 0 (3 + m / 8)).1, .int .i64 (stD l 0 (3 + m / 8)).2.1, .slice ea (stD l 0 (3 + m / 8)).2.2.1.length ec]) ∧ OwnE w' u.heap.size (.slice ea (stD l 0 (3 + m / 8)).2.2.1.length ec) (stD l 0 (3 + m / 8)).2.2.1 ∧ Src w' (w.heap.size + 1 + 1) (.slice a l.length cap) l (stD l 0 (3 + m / 8)).2.2.2 ∧ u.grownBy w' (some (w.heap.size + 1 + 1))) := fun u hu => by
    rw [show (3 + (m : Int) / 8) = ((3 + m / 8 : Nat) : Int) by omega]
    exact l2drawStable_any (w.heap.size + 1 + 1) u (.slice a l.length cap) l 0 (3 + m / 8) hL (by omega) (by omega) hu
  have HNx : Hid (∀ (u : World) (oa : Option Addr) (oc : Nat), Src u (w.heap.size + 1 + 1) (.slice a l.length cap) l (stD l 0 (3 + m / 8)).2.2.2 → OwnE u (w.heap.size + 1 + 1 + 1) (.slice oa (stD l 0 (3 + m / 8)).2.2.1.length oc) (stD l 0 (3 + m / 8)).2.2.1 → Calls Tryd.prog 54 #[.pointer (some ⟨(w.heap.size + 1 + 1), 0, none⟩), .agg #[.int .i64 (stD l 0 (3 + m / 8)).1, .int .i64 (stD l 0 (3 + m / 8)).2.1, .slice oa (stD l 0 (3 + m / 8)).2.2.1.length oc], .int .i64 6] u fun r w' => ∃ ea ec, r = .returned (.agg #[.int .i64 (nxT l (stD l 0 (3 + m / 8)).2.2.2 (stD l 0 (3 + m / 8)).1 (stD l 0 (3 + m / 8)).2.1 (stD l 0 (3 + m / 8)).2.2.1 6), .int .i64 (nxV l (stD l 0 (3 + m / 8)).2.2.2 (stD l 0 (3 + m / 8)).1 (stD l 0 (3 + m / 8)).2.1 (stD l 0 (3 + m / 8)).2.2.1 6), .slice ea (nxL l (stD l 0 (3 + m / 8)).2.2.2 (stD l 0 (3 + m / 8)).1 (stD l 0 (3 + m / 8)).2.1 (stD l 0 (3 + m / 8)).2.2.1 6).length ec]) ∧ OwnE w' u.heap.size (.slice ea (nxL l (stD l 0 (3 + m / 8)).2.2.2 (stD l 0 (3 + m / 8)).1 (stD l 0 (3 + m / 8)).2.1 (stD l 0 (3 + m / 8)).2.2.1 6).length ec) (nxL l (stD l 0 (3 + m / 8)).2.2.2 (stD l 0 (3 + m / 8)).1 (stD l 0 (3 + m / 8)).2.1 (stD l 0 (3 + m / 8)).2.2.1 6) ∧ Src w' (w.heap.size + 1 + 1) (.slice a l.length cap) l (nxK l (stD l 0 (3 + m / 8)).2.2.2 (stD l 0 (3 + m / 8)).1 (stD l 0 (3 + m / 8)).2.1 (stD l 0 (3 + m / 8)).2.2.1 6) ∧ u.grownBy w' (some (w.heap.size + 1 + 1))) := fun u oa oc hu ho =>
    l2drawNext_any (w.heap.size + 1 + 1) u (.slice a l.length cap) l (stD l 0 (3 + m / 8)).2.2.2 (stD l 0 (3 + m / 8)).1 (stD l 0 (3 + m / 8)).2.1 oa oc (stD l 0 (3 + m / 8)).2.2.1 6 (w.heap.size + 1 + 1 + 1) hL (by omega) (by omega) ⟨hs.1, hs.2.1⟩ (by omega) (fun e he => ⟨(hs.2.2.2.1 e he).1, (hs.2.2.2.1 e he).2.1⟩) ho (by omega) hu
  have hA : plA l m = plA l m := rfl
  conv at hA => rhs; unfold plA
  have HA : Hid (plA l m = _) := hA
  have hB : plB l m = plB l m := rfl
  conv at hB => rhs; unfold plB
  have HB : Hid (plB l m = _) := hB
  clear hA hB
  generalize plA l m = XA at *
  generalize plB l m = XB at *
  obtain ⟨x1, x2, x3, x4, x5⟩ := hx
  generalize (nxK l (stD l 0 (3 + m / 8)).2.2.2 (stD l 0 (3 + m / 8)).1 (stD l 0 (3 + m / 8)).2.1 (stD l 0 (3 + m / 8)).2.2.1 6) = KN at *
  generalize (nxT l (stD l 0 (3 + m / 8)).2.2.2 (stD l 0 (3 + m / 8)).1 (stD l 0 (3 + m / 8)).2.1 (stD l 0 (3 + m / 8)).2.2.1 6) = NT at *
  generalize (nxV l (stD l 0 (3 + m / 8)).2.2.2 (stD l 0 (3 + m / 8)).1 (stD l 0 (3 + m / 8)).2.1 (stD l 0 (3 + m / 8)).2.2.1 6) = NV at *
  generalize (nxL l (stD l 0 (3 + m / 8)).2.2.2 (stD l 0 (3 + m / 8)).1 (stD l 0 (3 + m / 8)).2.1 (stD l 0 (3 + m / 8)).2.2.1 6) = NL at *
  obtain ⟨s1, s2, s3, s4, s5⟩ := hs
  generalize (stD l 0 (3 + m / 8)).1 = t at *
  generalize (stD l 0 (3 + m / 8)).2.1 = vo at *
  generalize (stD l 0 (3 + m / 8)).2.2.1 = L at *
  generalize (stD l 0 (3 + m / 8)).2.2.2 = K1 at *
  obtain ⟨n1, hn1⟩ : ∃ n, n = L.length := ⟨_, rfl⟩
  obtain ⟨n2, hn2⟩ : ∃ n, n = NL.length := ⟨_, rfl⟩
  rw [← hn1] at s3 x3 HSt HNx
  rw [← hn2] at x3 HNx
  have Hn1 : Hid (n1 = L.length) := hn1
  have Hn2 : Hid (n2 = NL.length) := hn2
  clear hn1 hn2 x4 s4 hv
  have b12 := pickV_lt l KN 12 (by decide)
  obtain ⟨p, hp⟩ : ∃ p, p = pickV l KN 12 := ⟨_, rfl⟩
  rw [← hp] at b12 HA HB
  have Hp : Hid (p = pickV l KN 12) := hp
  clear hp
  have hnA : XA.2.2.length = n1 := by
    rw [HA.out]
    split
    · dsimp only; rw [badS_len, Hn1.out]
    · dsimp only; rw [Hn1.out]
  rw [hnA]
  clear hnA
  obtain ⟨n3, hn3⟩ : ∃ n, n = XB.2.2.length := ⟨_, rfl⟩
  rw [← hn3]
  have HnB : Hid (n3 = XB.2.2.length) := hn3
  clear hn3
  have A1 : True := trivial
  go_enter Tryd.func16, Tryd.ntmps16
  go_upto_if 19 with (first
    | (go_at_call 42; refine (HSZ.out _).mono ?_; rintro r w2 ⟨rfl, hw2⟩; subst w2)
    | (go_at_call 53; refine (HSt.out _ HS0.out).mono ?_; rintro r w3 ⟨oa, oc, rfl, ho3, hs3, hg3⟩; have HD3 : Hid (Dr (((w.alloc (.cells #[.int .i64 0, .int .i64 0, .slice none 0 0] 39)).alloc (.cells #[.int .i64 0, .int .i64 0, .slice none 0 0] 39)).alloc (.cells #[.slice a l.length cap, .int .i64 0] 70)) (w3.alloc (.cells #[.int .i64 t, .int .i64 vo, .slice oa n1 oc] 39)) (w.heap.size + 1 + 1) (.slice a l.length cap) l K1 [(w3.heap.size, #[.int .i64 t, .int .i64 vo, .slice oa n1 oc], 39)]) := ((Dr.start HS0.out).call hs3 hg3).new #[.int .i64 t, .int .i64 vo, .slice oa n1 oc] 39 (noU8_of rfl); have HO3 : Hid (OwnE ((w3.alloc (.cells #[.int .i64 t, .int .i64 vo, .slice oa n1 oc] 39))) (w.heap.size + 1 + 1 + 1) (.slice oa n1 oc) L) := (ho3.le (by rw [Hsz.out]; exact Nat.le_refl _)).below ((Below.refl _ _).alloc (Nat.le_refl _) _); have hz3 := hg3.size; (rw [Hsz.out] at hz3); clear ho3 hs3 hg3)
    | (go_at_call 54; refine (HNx.out _ oa oc HD3.out.src HO3.out).mono ?_; rintro r w4 ⟨na, nc, rfl, ho4, hs4, hg4⟩; have hz4 := hg4.size; (simp only [World.size_alloc] at hz4); have HAp : Hid (∀ q, (Value.slice oa n1 oc).ownBlock = some q → (Value.slice na n2 nc).ownBlock ≠ some q) := (fun q h1 h2 => by have a1 := (HO3.out.2.lt q h1).2; have a2 := (ho4.2.lt q h2).1; omega); have HD4 : Hid (Dr (((w.alloc (.cells #[.int .i64 0, .int .i64 0, .slice none 0 0] 39)).alloc (.cells #[.int .i64 0, .int .i64 0, .slice none 0 0] 39)).alloc (.cells #[.slice a l.length cap, .int .i64 0] 70)) (w4.alloc (.cells #[.int .i64 NT, .int .i64 NV, .slice na n2 nc] 39)) (w.heap.size + 1 + 1) (.slice a l.length cap) l KN [(w3.heap.size, #[.int .i64 t, .int .i64 vo, .slice oa n1 oc], 39), (w4.heap.size, #[.int .i64 NT, .int .i64 NV, .slice na n2 nc], 39)]) := (HD3.out.call hs4 hg4).new #[.int .i64 NT, .int .i64 NV, .slice na n2 nc] 39 (noU8_of rfl); have HO4 : Hid (OwnE ((w4.alloc (.cells #[.int .i64 NT, .int .i64 NV, .slice na n2 nc] 39))) (w.heap.size + 1 + 1 + 1) (.slice oa n1 oc) L) := (HO3.out.grown hg4 (by omega)).below ((Below.refl _ _).alloc (Nat.le_refl _) _); have HN4 : Hid (OwnE ((w4.alloc (.cells #[.int .i64 NT, .int .i64 NV, .slice na n2 nc] 39))) (w.heap.size + 1 + 1 + 1) (.slice na n2 nc) NL) := (ho4.le (by simp; omega)).below ((Below.refl _ _).alloc (Nat.le_refl _) _); clear ho4 hs4 hg4)
    | (go_at_call 44; clear A1; refine (HD4.out.pickG 12 hL (by omega) (by decide) (by decide)).mono ?_; rintro r w5 ⟨rfl, hd5, hg5⟩; rw [← Hp.out]; have HD5 : Hid (Dr (((w.alloc (.cells #[.int .i64 0, .int .i64 0, .slice none 0 0] 39)).alloc (.cells #[.int .i64 0, .int .i64 0, .slice none 0 0] 39)).alloc (.cells #[.slice a l.length cap, .int .i64 0] 70)) w5 (w.heap.size + 1 + 1) (.slice a l.length cap) l (KN + 1) [(w3.heap.size, #[.int .i64 t, .int .i64 vo, .slice oa n1 oc], 39), (w4.heap.size, #[.int .i64 NT, .int .i64 NV, .slice na n2 nc], 39)]) := hd5; have HO5 : Hid (OwnE w5 (w.heap.size + 1 + 1 + 1) (.slice oa n1 oc) L) := HO4.out.grown hg5 (by omega); have HN5 : Hid (OwnE w5 (w.heap.size + 1 + 1 + 1) (.slice na n2 nc) NL) := HN4.out.grown hg5 (by omega); clear hd5 hg5))
  have hz5 := HD5.out.lt 1 rfl
  clear HD3 HD4 HO3 HO4 HN4 HSt HNx HSZ
  go_cut [19] (fun _ wx => ∃ (K : Nat) (na' : Option Addr) (nc' : Nat), Dr (((w.alloc (.cells #[.int .i64 0, .int .i64 0, .slice none 0 0] 39)).alloc (.cells #[.int .i64 0, .int .i64 0, .slice none 0 0] 39)).alloc (.cells #[.slice a l.length cap, .int .i64 0] 70)) wx (w.heap.size + 1 + 1) (.slice a l.length cap) l K [(w3.heap.size, #[.int .i64 XA.1, .int .i64 XA.2.1, .slice oa n1 oc], 39), (w4.heap.size, #[.int .i64 XB.1, .int .i64 XB.2.1, .slice na' n3 nc'], 39)] ∧ OwnE wx (w.heap.size + 1 + 1 + 1) (.slice oa n1 oc) XA.2.2 ∧ OwnE wx (w.heap.size + 1 + 1 + 1) (.slice na' n3 nc') XB.2.2)
  case first =>
    have ce := (HD5.out.blk 0 rfl).cell
    have fe := (HD5.out.blk 0 rfl).free
    have cn := (HD5.out.blk 1 rfl).cell
    have fn := (HD5.out.blk 1 rfl).free
    rcases (show p = 0 ∨ p = 1 ∨ p = 2 ∨ p = 3 ∨ 3 < p by omega) with c0 | c0 | c0 | c0 | c0

    · subst c0
      rw [if_pos rfl] at HA
      rw [if_pos rfl] at HB
      have hbl := badS_len l (KN + 1) t vo L
      have HBad : Hid (Calls Tryd.prog 55 #[.pointer (some ⟨(w.heap.size + 1 + 1), 0, none⟩), .agg #[.int .i64 t, .int .i64 vo, .slice oa n1 oc]] w5 fun r w' => r = .returned (.agg #[.int .i64 (badS l (KN + 1) t vo L).1, .int .i64 (badS l (KN + 1) t vo L).2.1, .slice oa n1 oc]) ∧ BadAt ((((w.alloc (.cells #[.int .i64 0, .int .i64 0, .slice none 0 0] 39)).alloc (.cells #[.int .i64 0, .int .i64 0, .slice none 0 0] 39)).alloc (.cells #[.slice a l.length cap, .int .i64 0] 70))) w5 w' (w.heap.size + 1 + 1) (.slice a l.length cap) l (.slice oa n1 oc) (badS l (KN + 1) t vo L).2.2.1 (badS l (KN + 1) t vo L).2.2.2) := l2badStable_any (w.heap.size + 1 + 1) ((((w.alloc (.cells #[.int .i64 0, .int .i64 0, .slice none 0 0] 39)).alloc (.cells #[.int .i64 0, .int .i64 0, .slice none 0 0] 39)).alloc (.cells #[.slice a l.length cap, .int .i64 0] 70))) w5 (.slice a l.length cap) l (KN + 1) t vo oa oc n1 L hL (by omega) Hn1.out (by omega) HD5.out.nilF (by rw [Hsz.out]; exact HO5.out)
      generalize (badS l (KN + 1) t vo L) = RB at *
      obtain ⟨r1, r2, r3, r4⟩ := RB
      dsimp only at hbl HBad HA HB
      have Hbl : Hid (r3.length = L.length) := hbl
      clear hbl
      go_wp2_with (go_at_call 55; refine HBad.out.mono ?_; rintro r w6 ⟨rfl, hb6⟩; have HD6 : Hid (Dr (((w.alloc (.cells #[.int .i64 0, .int .i64 0, .slice none 0 0] 39)).alloc (.cells #[.int .i64 0, .int .i64 0, .slice none 0 0] 39)).alloc (.cells #[.slice a l.length cap, .int .i64 0] 70)) w6 (w.heap.size + 1 + 1) (.slice a l.length cap) l r4 [(w3.heap.size, #[.int .i64 t, .int .i64 vo, .slice oa n1 oc], 39), (w4.heap.size, #[.int .i64 NT, .int .i64 NV, .slice na n2 nc], 39)]) := HD5.out.reBad HO5.out hb6 two_types; have HX6 : Hid (OwnE w6 (w.heap.size + 1 + 1 + 1) (.slice oa n1 oc) r3) := (by have := hb6.1; rw [Hsz.out] at this; exact this); have HY6 : Hid (OwnE w6 (w.heap.size + 1 + 1 + 1) (.slice na n2 nc) NL) := HN5.out.bad hb6 (by omega) HAp.out; have ce6 := (HD6.out.blk 0 rfl).cell; have fe6 := (HD6.out.blk 0 rfl).free; have cn6 := (HD6.out.blk 1 rfl).cell; have fn6 := (HD6.out.blk 1 rfl).free; clear hb6)
      go_meet
      have e1 := HD6.out.set 0 rfl 0 (by simp) (.int .i64 r1) rfl
      have e2 := e1.set 0 rfl 1 (by simp) (.int .i64 r2) rfl
      have e3 := e2.set 0 rfl 2 (by simp) (.slice oa n1 oc) rfl
      have o1 := ownE_set3 HX6.out (HD6.out.blk 0 rfl) (by decide) (.int .i64 r1) (.int .i64 r2) (.slice oa n1 oc)
      have o2 := ownE_set3 HY6.out (HD6.out.blk 0 rfl) (by decide) (.int .i64 r1) (.int .i64 r2) (.slice oa n1 oc)
      have h4 : XB.2.2 = NL := by rw [HB.out]
      have h5 : XA.2.2 = r3 := by rw [HA.out]
      refine ⟨r4, na, nc, ?_, ?_, ?_⟩
      · rw [HnB.out, HA.out, HB.out]; dsimp only; rw [← Hn2.out]; exact e3
      · rw [h5]; exact o1
      · rw [HnB.out, h4, ← Hn2.out]; exact o2
    · subst c0
      rw [if_neg (by decide)] at HA
      rw [if_neg (by decide), if_pos rfl] at HB
      have hbl := badS_len l (KN + 1) NT NV NL
      have HBad : Hid (Calls Tryd.prog 55 #[.pointer (some ⟨(w.heap.size + 1 + 1), 0, none⟩), .agg #[.int .i64 NT, .int .i64 NV, .slice na n2 nc]] w5 fun r w' => r = .returned (.agg #[.int .i64 (badS l (KN + 1) NT NV NL).1, .int .i64 (badS l (KN + 1) NT NV NL).2.1, .slice na n2 nc]) ∧ BadAt ((((w.alloc (.cells #[.int .i64 0, .int .i64 0, .slice none 0 0] 39)).alloc (.cells #[.int .i64 0, .int .i64 0, .slice none 0 0] 39)).alloc (.cells #[.slice a l.length cap, .int .i64 0] 70))) w5 w' (w.heap.size + 1 + 1) (.slice a l.length cap) l (.slice na n2 nc) (badS l (KN + 1) NT NV NL).2.2.1 (badS l (KN + 1) NT NV NL).2.2.2) := l2badStable_any (w.heap.size + 1 + 1) ((((w.alloc (.cells #[.int .i64 0, .int .i64 0, .slice none 0 0] 39)).alloc (.cells #[.int .i64 0, .int .i64 0, .slice none 0 0] 39)).alloc (.cells #[.slice a l.length cap, .int .i64 0] 70))) w5 (.slice a l.length cap) l (KN + 1) NT NV na nc n2 NL hL (by omega) Hn2.out (by omega) HD5.out.nilF (by rw [Hsz.out]; exact HN5.out)
      generalize (badS l (KN + 1) NT NV NL) = RB at *
      obtain ⟨r1, r2, r3, r4⟩ := RB
      dsimp only at hbl HBad HA HB
      have Hbl : Hid (r3.length = NL.length) := hbl
      clear hbl
      go_wp2_with (go_at_call 55; refine HBad.out.mono ?_; rintro r w6 ⟨rfl, hb6⟩; have HD6 : Hid (Dr (((w.alloc (.cells #[.int .i64 0, .int .i64 0, .slice none 0 0] 39)).alloc (.cells #[.int .i64 0, .int .i64 0, .slice none 0 0] 39)).alloc (.cells #[.slice a l.length cap, .int .i64 0] 70)) w6 (w.heap.size + 1 + 1) (.slice a l.length cap) l r4 [(w3.heap.size, #[.int .i64 t, .int .i64 vo, .slice oa n1 oc], 39), (w4.heap.size, #[.int .i64 NT, .int .i64 NV, .slice na n2 nc], 39)]) := HD5.out.reBad HN5.out hb6 two_types; have HX6 : Hid (OwnE w6 (w.heap.size + 1 + 1 + 1) (.slice na n2 nc) r3) := (by have := hb6.1; rw [Hsz.out] at this; exact this); have HY6 : Hid (OwnE w6 (w.heap.size + 1 + 1 + 1) (.slice oa n1 oc) L) := HO5.out.bad hb6 (by omega) (fun q h1 h2 => HAp.out q h2 h1); have ce6 := (HD6.out.blk 0 rfl).cell; have fe6 := (HD6.out.blk 0 rfl).free; have cn6 := (HD6.out.blk 1 rfl).cell; have fn6 := (HD6.out.blk 1 rfl).free; clear hb6)
      go_meet
      have e1 := HD6.out.set 1 rfl 0 (by simp) (.int .i64 r1) rfl
      have e2 := e1.set 1 rfl 1 (by simp) (.int .i64 r2) rfl
      have e3 := e2.set 1 rfl 2 (by simp) (.slice na n2 nc) rfl
      have o1 := ownE_set3 HX6.out (HD6.out.blk 1 rfl) (by decide) (.int .i64 r1) (.int .i64 r2) (.slice na n2 nc)
      have o2 := ownE_set3 HY6.out (HD6.out.blk 1 rfl) (by decide) (.int .i64 r1) (.int .i64 r2) (.slice na n2 nc)
      have h4 : XB.2.2 = r3 := by rw [HB.out]
      have h5 : XA.2.2 = L := by rw [HA.out]
      refine ⟨r4, na, nc, ?_, ?_, ?_⟩
      · rw [HnB.out, HA.out, HB.out]; dsimp only; rw [Hbl.out, ← Hn2.out]; exact e3
      · rw [h5]; exact o2
      · rw [HnB.out, h4, Hbl.out, ← Hn2.out]; exact o1
    · subst c0
      rw [if_neg (by decide)] at HA
      rw [if_neg (by decide), if_neg (by decide), if_pos rfl] at HB
      have b8 := pickV_lt l (KN + 1) 8 (by decide)
      obtain ⟨q, hq⟩ : ∃ q, q = pickV l (KN + 1) 8 := ⟨_, rfl⟩
      rw [← hq] at b8 HB
      have Hq : Hid (q = pickV l (KN + 1) 8) := hq
      clear hq
      go_wp2_with (go_at_call 44; refine (HD5.out.pickG 8 hL (by omega) (by decide) (by decide)).mono ?_; rintro r w6 ⟨rfl, hd6, hg6⟩; rw [← Hq.out]; have HD6 : Hid (Dr (((w.alloc (.cells #[.int .i64 0, .int .i64 0, .slice none 0 0] 39)).alloc (.cells #[.int .i64 0, .int .i64 0, .slice none 0 0] 39)).alloc (.cells #[.slice a l.length cap, .int .i64 0] 70)) w6 (w.heap.size + 1 + 1) (.slice a l.length cap) l (KN + 1 + 1) [(w3.heap.size, #[.int .i64 t, .int .i64 vo, .slice oa n1 oc], 39), (w4.heap.size, #[.int .i64 NT, .int .i64 NV, .slice na n2 nc], 39)]) := hd6; have HX6 : Hid (OwnE w6 (w.heap.size + 1 + 1 + 1) (.slice oa n1 oc) L) := HO5.out.grown hg6 (by omega); have HY6 : Hid (OwnE w6 (w.heap.size + 1 + 1 + 1) (.slice na n2 nc) NL) := HN5.out.grown hg6 (by omega); have cn6 := (hd6.blk 1 rfl).cell; have fn6 := (hd6.blk 1 rfl).free; clear hd6 hg6)
      go_meet
      have e1 := HD6.out.set 1 rfl 1 (by simp) (.int .i64 (q : Int)) rfl
      have o1 := ownE_blkS HX6.out (HD6.out.blk 1 rfl) (by decide) (set_keepS _ _ 1 (.int .i64 (q : Int)))
      have o2 := ownE_blkS HY6.out (HD6.out.blk 1 rfl) (by decide) (set_keepS _ _ 1 (.int .i64 (q : Int)))
      have h4 : XB.2.2 = NL := by rw [HB.out]
      have h5 : XA.2.2 = L := by rw [HA.out]
      refine ⟨KN + 1 + 1, na, nc, ?_, ?_, ?_⟩
      · rw [HnB.out, HA.out, HB.out]; dsimp only; rw [← Hn2.out]; exact e1
      · rw [h5]; exact o1
      · rw [HnB.out, h4, ← Hn2.out]; exact o2
    · subst c0
      rw [if_neg (by decide)] at HA
      rw [if_neg (by decide), if_neg (by decide), if_neg (by decide), if_pos rfl] at HB
      have HS5 : Hid (∀ u : World, Src u (w.heap.size + 1 + 1) (.slice a l.length cap) l (KN + 1) → Calls Tryd.prog 53 #[.pointer (some ⟨(w.heap.size + 1 + 1), 0, none⟩), .int .i64 5] u fun r w' => ∃ ea ec, r = .returned (.agg #[.int .i64 (stD l (KN + 1) 5).1, .int .i64 (stD l (KN + 1) 5).2.1, .slice ea (stD l (KN + 1) 5).2.2.1.length ec]) ∧ OwnE w' u.heap.size (.slice ea (stD l (KN + 1) 5).2.2.1.length ec) (stD l (KN + 1) 5).2.2.1 ∧ Src w' (w.heap.size + 1 + 1) (.slice a l.length cap) l (stD l (KN + 1) 5).2.2.2 ∧ u.grownBy w' (some (w.heap.size + 1 + 1))) := fun u hu => l2drawStable_any (w.heap.size + 1 + 1) u (.slice a l.length cap) l (KN + 1) 5 hL (by omega) (by omega) hu
      have hs5 := stD_ok l (KN + 1) 5 (by omega)
      obtain ⟨_, _, y3, _, _⟩ := hs5
      generalize stD l (KN + 1) 5 = RB at *
      obtain ⟨r1, r2, r3, r4⟩ := RB
      dsimp only at y3 HS5 HA HB
      obtain ⟨n5, hn5⟩ : ∃ n, n = r3.length := ⟨_, rfl⟩
      rw [← hn5] at y3 HS5
      have Hn5 : Hid (n5 = r3.length) := hn5
      clear hn5
      go_wp2_with (go_at_call 53; refine (HS5.out _ HD5.out.src).mono ?_; rintro r w6 ⟨ea, ec, rfl, ho6, hs6, hg6⟩; have HD6 : Hid (Dr (((w.alloc (.cells #[.int .i64 0, .int .i64 0, .slice none 0 0] 39)).alloc (.cells #[.int .i64 0, .int .i64 0, .slice none 0 0] 39)).alloc (.cells #[.slice a l.length cap, .int .i64 0] 70)) w6 (w.heap.size + 1 + 1) (.slice a l.length cap) l r4 [(w3.heap.size, #[.int .i64 t, .int .i64 vo, .slice oa n1 oc], 39), (w4.heap.size, #[.int .i64 NT, .int .i64 NV, .slice na n2 nc], 39)]) := HD5.out.call hs6 hg6; have HX6 : Hid (OwnE w6 (w.heap.size + 1 + 1 + 1) (.slice oa n1 oc) L) := HO5.out.grown hg6 (by omega); have HY6 : Hid (OwnE w6 (w.heap.size + 1 + 1 + 1) (.slice ea n5 ec) r3) := ho6.le (by omega); have cn6 := (HD6.out.blk 1 rfl).cell; have fn6 := (HD6.out.blk 1 rfl).free; clear ho6 hs6 hg6)
      go_meet
      have e1 := HD6.out.set 1 rfl 0 (by simp) (.int .i64 r1) rfl
      have e2 := e1.set 1 rfl 1 (by simp) (.int .i64 r2) rfl
      have e3 := e2.set 1 rfl 2 (by simp) (.slice ea n5 ec) rfl
      have o1 := ownE_set3 HX6.out (HD6.out.blk 1 rfl) (by decide) (.int .i64 r1) (.int .i64 r2) (.slice ea n5 ec)
      have o2 := ownE_set3 HY6.out (HD6.out.blk 1 rfl) (by decide) (.int .i64 r1) (.int .i64 r2) (.slice ea n5 ec)
      have h4 : XB.2.2 = r3 := by rw [HB.out]
      have h5 : XA.2.2 = L := by rw [HA.out]
      refine ⟨r4, ea, ec, ?_, ?_, ?_⟩
      · rw [HnB.out, HA.out, HB.out]; dsimp only; rw [← Hn5.out]; exact e3
      · rw [h5]; exact o1
      · rw [HnB.out, h4, ← Hn5.out]; exact o2
    · rw [if_neg (by omega)] at HA
      rw [if_neg (by omega), if_neg (by omega), if_neg (by omega), if_neg (by omega)] at HB
      have q0 : ((p : Int) == 0) = false := by rw [beq_eq_false_iff_ne]; omega
      have q1 : ((p : Int) == 1) = false := by rw [beq_eq_false_iff_ne]; omega
      have q2 : ((p : Int) == 2) = false := by rw [beq_eq_false_iff_ne]; omega
      have q3 : ((p : Int) == 3) = false := by rw [beq_eq_false_iff_ne]; omega
      go_wp2_with fail
      go_meet
      have h4 : XB.2.2 = NL := by rw [HB.out]
      have h5 : XA.2.2 = L := by rw [HA.out]
      refine ⟨KN + 1, na, nc, ?_, ?_, ?_⟩
      · rw [HnB.out, HA.out, HB.out]; dsimp only; rw [← Hn2.out]; exact HD5.out
      · rw [h5]; exact HO5.out
      · rw [HnB.out, h4, ← Hn2.out]; exact HN5.out
  case rest =>
    obtain ⟨K, na', nc', hd, ho, hn⟩ := hcut
    have HDc : Hid (Dr (((w.alloc (.cells #[.int .i64 0, .int .i64 0, .slice none 0 0] 39)).alloc (.cells #[.int .i64 0, .int .i64 0, .slice none 0 0] 39)).alloc (.cells #[.slice a l.length cap, .int .i64 0] 70)) wc (w.heap.size + 1 + 1) (.slice a l.length cap) l K [(w3.heap.size, #[.int .i64 XA.1, .int .i64 XA.2.1, .slice oa n1 oc], 39), (w4.heap.size, #[.int .i64 XB.1, .int .i64 XB.2.1, .slice na' n3 nc'], 39)]) := hd
    have HOc : Hid (OwnE wc (w.heap.size + 1 + 1 + 1) (.slice oa n1 oc) XA.2.2) := ho
    have HNc : Hid (OwnE wc (w.heap.size + 1 + 1 + 1) (.slice na' n3 nc') XB.2.2) := hn
    have hB1 : Blk wc w.heap.size #[.int .i64 0, .int .i64 0, .slice none 0 0] 39 := (((Blk.new w #[.int .i64 0, .int .i64 0, .slice none 0 0] 39).alloc _).alloc _).grown hd.grown (by omega)
    have hB2 : Blk wc (w.heap.size + 1) #[.int .i64 0, .int .i64 0, .slice none 0 0] 39 := (((Blk.new' (w.alloc _) #[.int .i64 0, .int .i64 0, .slice none 0 0] 39 (k := w.heap.size + 1) (by simp))).alloc _).grown hd.grown (by omega)
    have HB1 : Hid (Blk wc w.heap.size #[.int .i64 0, .int .i64 0, .slice none 0 0] 39) := hB1
    have HB2 : Hid (Blk wc (w.heap.size + 1) #[.int .i64 0, .int .i64 0, .slice none 0 0] 39) := hB2
    have ce := (hd.blk 0 rfl).cell
    have cn := (hd.blk 1 rfl).cell
    have c1 := hB1.cell
    have f1 := hB1.free
    have c2 := hB2.cell
    have f2 := hB2.free
    clear hd ho hn hB1 hB2 HA HB HD5 HO5 HN5
    have hz3' : w.heap.size + 1 + 1 + 1 ≤ w3.heap.size := hz3
    have hne1 : ¬ w.heap.size = w3.heap.size := by omega
    have hne2 : ¬ w.heap.size + 1 = w3.heap.size := by omega
    have hne3 : ¬ w.heap.size = w4.heap.size := by omega
    have hne4 : ¬ w.heap.size + 1 = w4.heap.size := by omega
    go_upto_region 13 with fail
    go_region
    go_wp2_with fail
    have o1 := ownE_set3 HOc.out HB1.out (by decide) (.int .i64 XA.1) (.int .i64 XA.2.1) (.slice oa n1 oc)
    have o2 := ownE_set3 HNc.out HB1.out (by decide) (.int .i64 XA.1) (.int .i64 XA.2.1) (.slice oa n1 oc)
    have hb2 := ((HB2.out.set_other (p := ⟨w.heap.size, 0, none⟩) (.int .i64 XA.1) (by simp)).set_other (p := ⟨w.heap.size, 1, none⟩) (.int .i64 XA.2.1) (by simp)).set_other (p := ⟨w.heap.size, 2, none⟩) (.slice oa n1 oc) (by simp)
    have o3 := ownE_set3 o1 hb2 (by decide) (.int .i64 XB.1) (.int .i64 XB.2.1) (.slice na' n3 nc')
    have o4 := ownE_set3 o2 hb2 (by decide) (.int .i64 XB.1) (.int .i64 XB.2.1) (.slice na' n3 nc')
    refine bodyPost_ret (v := .tuple #[.agg #[.int .i64 XA.1, .int .i64 XA.2.1, .slice oa n1 oc], .agg #[.int .i64 XB.1, .int .i64 XB.2.1, .slice na' n3 nc']]) (by simp [results, Tryd.results16, go_sem, c1, c2]) rfl ⟨oa, oc, na', nc', rfl, ?_, ?_, ?_⟩
    · exact (o3.le (by omega)).below (Below.refl _ _).drew
    · exact (o4.le (by omega)).below (Below.refl _ _).drew
    · exact (((((((grown_below3 HDc.out.grown).setCell (Nat.le_refl _) _).setCell (Nat.le_refl _) _).setCell (Nat.le_refl _) _).setCell (show w.heap.size ≤ w.heap.size + 1 by omega) _).setCell (show w.heap.size ≤ w.heap.size + 1 by omega) _).setCell (show w.heap.size ≤ w.heap.size + 1 by omega) _).drew
end Go.Proofs.YtjoflnnomebkpaaDoor
