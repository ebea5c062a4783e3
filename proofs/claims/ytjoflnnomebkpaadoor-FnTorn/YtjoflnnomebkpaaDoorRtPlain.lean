/-
  Restart, plain.
-/
import Derived.Test.YtjoflnnomebkpaaDoorRcAns
import Derived.Test.YtjoflnnomebkpaaDoorGround2
import Derived.Test.YtjoflnnomebkpaaDoorGround
namespace Go.Proofs.YtjoflnnomebkpaaDoor
open Go.RowKit
set_option linter.unusedVariables false
set_option linter.unusedSimpArgs false

theorem runR_good (l : List Int) : ∀ (f g n : Nat) (s : Stt), g ≤ l.length → (runR l f g n s).2.1 ≤ l.length := by
  intro f
  induction f with
  | zero => intro g n s h2; rw [runR]; exact h2
  | succ f ih =>
    intro g n s h2
    rw [runR]
    split
    · split
      · exact h2
      · next hg ho =>
        have hc := cutC_zero (oneE_cut (Decidable.not_not.1 ho))
        have h4 := hc.2.2.2.1
        rw [List.length_drop] at h4
        exact ih _ _ _ (by omega)
    · exact h2
theorem rcv_good (l : List Int) : (rcv l).2.1 ≤ l.length := runR_good l _ 0 0 _ (Nat.zero_le _)
theorem runR_log (l : List Int) : ∀ (f g n : Nat) (s : Stt), s.log.length ≤ g → g ≤ l.length → (runR l f g n s).2.2.2.log.length ≤ l.length := by
  intro f
  induction f with
  | zero => intro g n s h1 h2; rw [runR]; exact Nat.le_trans h1 h2
  | succ f ih =>
    intro g n s h1 h2
    rw [runR]
    split
    · split
      · exact Nat.le_trans h1 h2
      · next hg ho =>
        have hc := cutC_zero (oneE_cut (Decidable.not_not.1 ho))
        have hl := thenS_len s (frec ((l.drop g).take (cutN (l.drop g))))
        have h4 := hc.2.2.2.1
        rw [List.length_drop] at h4
        exact ih _ _ _ (by omega) (by omega)
    · exact Nat.le_trans h1 h2
theorem rcvLog_len (l : List Int) : (rcv l).2.2.2.log.length ≤ l.length := runR_log l _ 0 0 _ (Nat.le_refl _) (Nat.zero_le _)
theorem setCells_other {g k : Nat} (h : k ≠ g) : ∀ (vs : List Value) (o : Nat) (w : World), (w.setCells g o vs).heap[k]? = w.heap[k]?
  | [], _, _ => rfl
  | v :: vs, o, w => (setCells_other h vs (o + 1) _).trans (Below.heap_setCell w ⟨g, o, none⟩ v k h)
def rtK (c y : Int) (l : List Int) : Int := if diskB c y l.length = true then (if ((rcv l).2.1 : Int) < y then 2 else 0) else 1
def rtC (c y : Int) (l : List Int) : Int := if rtK c y l = 0 then c else 0
def rtY (c y : Int) (l : List Int) : Nat := if rtK c y l = 0 then (rcv l).2.1 else 0
def rtL (c y : Int) (l : List Int) : List Int := if rtK c y l = 0 then l.take (rcv l).2.1 else []
def rtS (c y : Int) (l : List Int) : Stt := if rtK c y l = 0 then (rcv l).2.2.2 else ⟨0, 0, []⟩
/-- what a Restart answers: new memory; the log lies below m, the bytes from m on -/
def RestAt (w w' : World) (e : Ending) (K C Y : Int) (L : List Int) (S : Stt) : Prop :=
  ∃ a1 c1 a2 c2 m, e = .returned (.agg #[.int .i64 K, .int .i64 C, .int .i64 Y, .slice a1 L.length c1, .int .i64 S.t, .int .i64 S.v, .slice a2 S.log.length c2]) ∧ w.heap.size ≤ m ∧ m ≤ w'.heap.size ∧ Own w' m (.slice a1 L.length c1) L ∧ OwnE w' w.heap.size (.slice a2 S.log.length c2) S.log ∧ (∀ k, (Value.slice a2 S.log.length c2).ownBlock = some k → k < m) ∧ Below w.heap.size w w'
theorem infoRst : (Tryd.prog.info? 47).map (·.size) = some 7 := by kernel_rfl
theorem infoDskR : (Tryd.prog.info? 24).map (·.size) = some 3 := by kernel_rfl
theorem own_nilB (w : World) (B : Nat) : Own w B (.slice none 0 0) [] := Own.nil w B
theorem rt_none {w w' : World} (K : Int) (hb : Below w.heap.size w w') : RestAt w w' (.returned (.agg #[.int .i64 K, .int .i64 0, .int .i64 0, .slice none 0 0, .int .i64 0, .int .i64 0, .slice none 0 0])) K 0 0 [] ⟨0, 0, []⟩ :=
  ⟨none, 0, none, 0, w.heap.size, rfl, Nat.le_refl _, hb.size, own_nilB _ _, OwnE.nil _ _, (fun k h => by cases h), hb⟩
theorem rt_two {w w' : World} {c y : Int} {l : List Int} {e : Ending} {K : Int} (hK : rtK c y l = K) (h0 : K ≠ 0) (h : RestAt w w' e K 0 0 [] ⟨0, 0, []⟩) : RestAt w w' e (rtK c y l) (rtC c y l) (rtY c y l) (rtL c y l) (rtS c y l) := by
  subst hK
  unfold rtC rtY rtL rtS
  rw [if_neg h0, if_neg h0, if_neg h0, if_neg h0]
  exact h
theorem rt_zero {w w' : World} {c y : Int} {l : List Int} {e : Ending} (hK : rtK c y l = 0) (h : RestAt w w' e 0 c ((rcv l).2.1 : Nat) (l.take (rcv l).2.1) (rcv l).2.2.2) : RestAt w w' e (rtK c y l) (rtC c y l) (rtY c y l) (rtL c y l) (rtS c y l) := by
  unfold rtC rtY rtL rtS
  rw [hK]
  simp only [if_true]
  exact h
end Go.Proofs.YtjoflnnomebkpaaDoor
