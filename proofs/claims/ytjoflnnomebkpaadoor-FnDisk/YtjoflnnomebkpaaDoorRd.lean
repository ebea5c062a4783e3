/-
  impl.reader in memory; refuse, number.
-/
import Derived.Test.YtjoflnnomebkpaaDoorRdPlain
import Derived.Test.YtjoflnnomebkpaaDoorGrow
import Derived.Test.YtjoflnnomebkpaaDoorSents
namespace Go.Proofs.YtjoflnnomebkpaaDoor
open Go.RowKit
set_option linter.unusedVariables false

/-- a slice value whose length is within its capacity; it lies below D -/
def Fits (D : Nat) (v : Value) (l : List Int) : Prop := ∃ a n c, v = .slice a n c ∧ n ≤ c ∧ (0 < l.length → ∃ x, a = some x ∧ x.block < D)

/-- the reader that lies in block b, B ≤ b < D, has the state st; its bytes lie below D -/
def Rd (w : World) (b : Nat) (A : Nat → Addr) (B D : Nat) (st : RSt) : Prop :=
  B ≤ b ∧ b < D ∧ D ≤ w.heap.size ∧ (∀ i, w.frozen? ⟨b, i, none⟩ = false) ∧
  match st with
  | none => w.cell? ⟨b, 0, none⟩ = some (.slice none 0 0) ∧ w.cell? ⟨b, 1, none⟩ = some (refV (A 5) 0)
  | some l => (∃ v, w.cell? ⟨b, 0, none⟩ = some v ∧ Bs w v l ∧ Fits D v l) ∧ w.cell? ⟨b, 1, none⟩ = some .nilIface

def noByte : Value → Prop
  | .int .u8 _ => False
  | _ => True

/-- bytes stay where a cell that is no byte is written -/
theorem Bs.setCell {w : World} {v : Value} {l : List Int} (h : Bs w v l) {b i : Nat} {x : Value} (hx : w.cell? ⟨b, i, none⟩ = some x) (hn : noByte x) (y : Value) : Bs (w.setCell ⟨b, i, none⟩ y) v l := by
  obtain ⟨hl, h8, a, cap, rfl, hc⟩ := h
  refine ⟨hl, h8, a, cap, rfl, fun k hk => ?_⟩
  obtain ⟨b', off, rfl, hj⟩ := hc k hk
  refine ⟨b', off, rfl, fun j hj' => ?_⟩
  rw [World.cell?_setCell_other w _ _ _ ?_]
  · exact hj j hj'
  · intro e
    have hj2 := hj j hj'
    rw [← e, hx] at hj2
    injection hj2 with e'
    rw [e'] at hn
    exact hn

theorem Bs.drop {w : World} {a : Option Addr} {n c : Nat} {l : List Int} (h : Bs w (.slice a n c) l) (hc : n ≤ c) {D : Nat} (hD : 0 < l.length → ∃ x, a = some x ∧ x.block < D) (k : Nat) (hk : k ≤ l.length) :
    Bs w (sliced a k n c 1) (l.drop k) ∧ Fits D (sliced a k n c 1) (l.drop k) := by
  obtain ⟨hl, h8, a', cap, e, hcell⟩ := h
  injection e with e1 e2 e3
  subst e1 e2 e3
  refine ⟨⟨by simp; omega, fun x hx => h8 x (List.mem_of_mem_drop hx), _, c - k, by simp [sliced]; rfl, fun i hi => ?_⟩, ⟨_, _, _, rfl, by omega, fun hp => ?_⟩⟩
  rotate_left
  · rw [List.length_drop] at hp
    obtain ⟨x, rfl, hx⟩ := hD (by omega)
    rw [if_neg (by omega)]
    refine ⟨_, rfl, ?_⟩
    show (x.add (k * 1)).block < D
    unfold Addr.add
    split <;> exact hx
  rw [List.length_drop] at hi
  obtain ⟨b, off, rfl, hj⟩ := hcell 0 (by omega)
  refine ⟨b, off + k, ?_, fun j hj' => ?_⟩
  · rw [if_neg (by omega)]
    simp [cell_add]
  · rw [List.length_drop] at hj'
    have := hj (k + j) (by omega)
    rw [← Nat.add_assoc] at this
    rw [this, List.getElem?_drop]

theorem size5 : ∀ w, (Go.sizeOf 5).run Tryd.prog w = .ok 1 w := fun w => by kernel_rfl


theorem grown_below {w w' : World} {b B : Nat} (h : w.grownBy w' (some b)) (hb : B ≤ b) (hB : B ≤ w.heap.size) : Below B w w' :=
  (Below.refl _ _).grown h hB (fun k hk => by injection hk with hk; omega)

theorem Rd.below {w w' : World} {b : Nat} {A : Nat → Addr} {B D : Nat} {st : RSt} (h : Rd w b A B D st) (hb : Below D w w') : Rd w' b A B D st := by
  obtain ⟨hB, hbD, hDw, hf, h⟩ := h
  refine ⟨hB, hbD, Nat.le_trans hDw hb.size, fun i => by rw [hb.frozen (p := ⟨b, i, none⟩) hbD]; exact hf i, ?_⟩
  have c := fun (o : Nat) => hb.cell (p := ⟨b, o, none⟩) hbD
  cases st with
  | none => exact ⟨(c 0).trans h.1, (c 1).trans h.2⟩
  | some l =>
    obtain ⟨⟨v, h0, hbs, hfit⟩, h1⟩ := h
    refine ⟨⟨v, (c 0).trans h0, ?_, hfit⟩, (c 1).trans h1⟩
    obtain ⟨a, n, cc, rfl, _, hD⟩ := hfit
    obtain ⟨hl, h8, a', cap, e, hc⟩ := hbs
    injection e with e1 e2 e3
    subst e1 e2 e3
    refine ⟨hl, h8, _, _, rfl, fun i hi => ?_⟩
    obtain ⟨b', off, rfl, hj⟩ := hc i hi
    obtain ⟨x, ex, hx⟩ := hD (by omega)
    injection ex with ex
    subst ex
    exact ⟨b', off, rfl, fun j hj' => by rw [hb.cell (p := ⟨b', off + j, none⟩) hx]; exact hj j hj'⟩

theorem refuse_any (b : Nat) (w : World) (A : Nat → Addr) (B D : Nat) (st : RSt) (hs : Sents w A B) (h : Rd w b A B D st) :
    Calls Tryd.prog 138 #[.pointer (some ⟨b, 0, none⟩)] w fun e w' => (∃ v, e = .returned v) ∧ Rd w' b A B D none ∧ w.grownBy w' (some b) := by
  obtain ⟨hB, hbD, hDw, hf, h⟩ := h
  have hg := hs.g5
  have hn := hs.gl
  have hf0 := hf 0
  have hf1 := hf 1
  have hne : b ≠ 6 := by omega
  have h0 : ∃ v, w.cell? ⟨b, 0, none⟩ = some v := by
    cases st with
    | none => exact ⟨_, h.1⟩
    | some l => obtain ⟨⟨v, hv, _⟩, _⟩ := h; exact ⟨v, hv⟩
  obtain ⟨v0, h0⟩ := h0
  have o1 : ⟨b, 0, none⟩ ≠ (⟨b, 1, none⟩ : Addr) := by intro h; injection h with _ h2 _; cases h2
  have o5 : ⟨b, 0, none⟩ ≠ (⟨6, 0, none⟩ : Addr) := by intro h; injection h with h2 _ _; exact hne h2
  have e1 := fun y => World.cell?_setCell_other w ⟨b, 0, none⟩ ⟨b, 1, none⟩ y o1
  have e5 := fun y => World.cell?_setCell_other w ⟨b, 0, none⟩ ⟨6, 0, none⟩ y o5
  have e0 := fun y => World.cell?_setCell_same w ⟨b, 0, none⟩ y h0
  cases st with
  | none =>
    obtain ⟨_, h1⟩ := h
    go_enter Tryd.func138, Tryd.ntmps138
    go_wp2
    (try simp only [Exit.inBlock, Exit.then])
    refine bodyPost_end (results_none rfl _ _ _) rfl ?_
    refine ⟨⟨_, rfl⟩, ⟨hB, hbD, by simpa [World.setCell] using hDw, fun i => ?_, ?_, ?_⟩, Rd.frame _ _⟩
    · rw [World.frozen?_setCell]; exact hf i
    · exact e0 _
    · exact (e1 _).trans h1
  | some l =>
    obtain ⟨_, h1⟩ := h
    go_enter Tryd.func138, Tryd.ntmps138
    go_wp2
    (try simp only [Exit.inBlock, Exit.then])
    refine bodyPost_end (results_none rfl _ _ _) rfl ?_
    refine ⟨⟨_, rfl⟩, ⟨hB, hbD, by simpa [World.setCell] using hDw, fun i => ?_, ?_, ?_⟩, grownBy_trans (Rd.frame _ _) (Rd.frame _ _)⟩
    · rw [World.frozen?_setCell, World.frozen?_setCell]; exact hf i
    · rw [World.cell?_setCell_other _ _ _ _ (Ne.symm o1)]; exact e0 _
    · exact World.cell?_setCell_same _ _ _ ((e1 _).trans h1)

set_option maxHeartbeats 4000000 in
set_option maxRecDepth 100000 in
theorem number_any (b : Nat) (w : World) (A : Nat → Addr) (B D : Nat) (st : RSt) (hs : Sents w A B) (h : Rd w b A B D st) :
    Calls Tryd.prog 132 #[.pointer (some ⟨b, 0, none⟩)] w fun e w' => e = .returned (.int .i64 ((rdNum st).1 : Nat)) ∧ Rd w' b A B D (rdNum st).2 ∧ w.grownBy w' (some b) := by
  have HR : Hid (Rd w b A B D st) := h
  obtain ⟨hB, hbD, hDw, hf, h⟩ := h
  cases st with
  | none =>
    obtain ⟨h0, h1⟩ := h
    go_enter Tryd.func132, Tryd.ntmps132
    go_wp2
    refine wp_loop_rounds 1 ?_
    rw [rounds_succ]
    go_wp2_with (go_at_call 138; refine (refuse_any b w A B D none hs HR.out).mono ?_; rintro e w1 ⟨⟨v, rfl⟩, hr, hg⟩)
    go_ret
    exact ⟨rfl, hr, hg⟩
  | some l =>
    obtain ⟨⟨v, h0, hbs, hfit⟩, h1⟩ := h
    have HB : Hid (Bs w v l) := hbs
    obtain ⟨a, n, c, rfl, hnc, hD⟩ := hfit
    obtain ⟨hl, h8, a', cap, e, hc⟩ := hbs
    injection e with e1 e2 e3
    subst e1 e2 e3
    unfold maxLen at hl
    have hf0 := hf 0
    go_enter Tryd.func132, Tryd.ntmps132
    go_wp2
    go_loop [3, 4] (fun m i => ∃ k : Nat, k ≤ 5 ∧ i = .int .i64 k ∧ m = .int .i64 (valL l k : Nat) ∧ numR l = numAt l (5 - k) k) (fun _ i => 5 - (intOf i).toNat)
    case atStart => exact ⟨0, by omega, rfl, rfl, rfl⟩
    case round =>
      obtain ⟨k, hk, rfl, rfl, hnum⟩ := hrel
      by_cases hk5 : k < 5
      · by_cases hlt : k < l.length
        · obtain ⟨b', off, rfl, hcell⟩ := hc k hlt
          have hck := hcell k hlt
          have h8k := byte_at h8 k
          have hA := and_127 _ h8k.1 h8k.2
          have hx : (l[k]?.getD 0).toNat % 128 < 128 := Nat.mod_lt _ (by decide)
          have hO := or_step (valL l k) ((l[k]?.getD 0).toNat % 128) k (valL_lt l k) hx (by omega)
          have hS : Hid (valL l (k + 1) = valL l k + (l[k]?.getD 0).toNat % 128 * 128 ^ k) := rfl
          have hN : Hid (numAt l (5 - k) k = if 128 ≤ l[k]?.getD 0 then numAt l (5 - (k + 1)) (k + 1) else if l[k]?.getD 0 = 0 ∧ 0 < k then none else some (valL l (k + 1), k + 1)) := by
            have e : 5 - k = (5 - (k + 1)) + 1 := by omega
            rw [e]
            show numAt l _ k = _
            rw [numAt, if_pos hlt]
          have eg : l[k]?.getD 0 = l[k] := by simp [hlt]
          rw [eg] at hck h8k hA hx hO hS hN
          generalize hxx : l[k].toNat % 128 = x at hA hx hO hS
          generalize hcc : l[k] = cc at hck h8k hA hN
          generalize hvv : valL l k = V at hO hS
          obtain ⟨b0, b1⟩ := h8k
          clear hxx hcc hvv hcell hc eg h8
          by_cases h128 : 128 ≤ cc
          · rw [if_pos h128] at hN
            obtain rfl | rfl | rfl | rfl | rfl : k = 0 ∨ k = 1 ∨ k = 2 ∨ k = 3 ∨ k = 4 := by omega
            all_goals
              simp at hO
              (try rw [Nat.add_zero] at hck)
              go_wp2
              go_round
              case rel => first | exact ⟨1, by decide, rfl, by rw [hS.out]; simp, hnum.trans hN.out⟩ | exact ⟨2, by decide, rfl, by rw [hS.out]; simp, hnum.trans hN.out⟩ | exact ⟨3, by decide, rfl, by rw [hS.out]; simp, hnum.trans hN.out⟩ | exact ⟨4, by decide, rfl, by rw [hS.out]; simp, hnum.trans hN.out⟩ | exact ⟨5, by decide, rfl, by rw [hS.out]; simp, hnum.trans hN.out⟩
              case measure => simp [intOf]
          · rw [if_neg h128] at hN
            by_cases hz : cc = 0 ∧ 0 < k
            · rw [if_pos hz] at hN
              obtain ⟨rfl, hk0⟩ := hz
              have hnn : numR l = none := hnum.trans hN.out
              obtain rfl | rfl | rfl | rfl : k = 1 ∨ k = 2 ∨ k = 3 ∨ k = 4 := by omega
              all_goals
                simp at hO
                go_wp2_with (go_at_call 138; refine (refuse_any b w A B D (some l) hs HR.out).mono ?_; rintro e w1 ⟨⟨v, rfl⟩, hr, hg⟩)
                go_ret
                rw [rdNum, hnn]
                exact ⟨rfl, hr, hg⟩
            · rw [if_neg hz] at hN
              have hnn : numR l = some (valL l (k + 1), k + 1) := hnum.trans hN.out
              have HW : ∀ (y : Value) (l' : List Int), Bs w y l' → Fits D y l' → Rd (w.setCell ⟨b, 0, none⟩ y) b A B D (some l') := fun y l' hy hfy =>
                ⟨hB, hbD, by simpa [World.setCell] using hDw, fun i => by rw [World.frozen?_setCell]; exact hf i, ⟨y, World.cell?_setCell_same w _ _ h0, hy.setCell h0 trivial y, hfy⟩,
                  (World.cell?_setCell_other w _ _ _ (by intro h; injection h with _ h2 _; cases h2)).trans h1⟩
              have HD := HB.out.drop hnc hD (k + 1) (by omega)
              have HW2 : Hid (Rd (w.setCell ⟨b, 0, none⟩ (sliced (some ⟨b', off, none⟩) (k + 1) l.length c 1)) b A B D (some (l.drop (k + 1)))) := HW _ _ HD.1 HD.2
              clear HW HD
              have hzz : ¬ (cc = 0 ∧ (0 : Int) < k) := by omega
              obtain rfl | rfl | rfl | rfl | rfl : k = 0 ∨ k = 1 ∨ k = 2 ∨ k = 3 ∨ k = 4 := by omega
              all_goals
                simp at hO
                (try rw [Nat.add_zero] at hck)
                go_wp2
                all_goals go_ret
                all_goals rw [rdNum, hnn]
                all_goals exact ⟨by rw [hS.out]; simp, by have h2 := HW2.out; go_light; simp_all [sliced, cell_add], Rd.frame _ _⟩
        · have hnn : numR l = none := by
            rw [hnum]
            have e : 5 - k = (5 - (k + 1)) + 1 := by omega
            rw [e, numAt, if_neg hlt]
          go_wp2_with (go_at_call 138; refine (refuse_any b w A B D (some l) hs HR.out).mono ?_; rintro e w1 ⟨⟨v, rfl⟩, hr, hg⟩)
          go_ret
          rw [rdNum, hnn]
          exact ⟨rfl, hr, hg⟩
      · have e : k = 5 := by omega
        subst e
        go_wp2_with (go_at_call 138; refine (refuse_any b w A B D (some l) hs HR.out).mono ?_; rintro e w1 ⟨⟨v, rfl⟩, hr, hg⟩)
        go_ret
        rw [rdNum, hnum]
        exact ⟨rfl, hr, hg⟩
end Go.Proofs.YtjoflnnomebkpaaDoor
