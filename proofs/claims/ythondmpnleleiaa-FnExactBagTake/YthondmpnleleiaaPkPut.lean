/-
  impl.putCode, impl.putPacket.
-/
import Derived.Test.YthondmpnleleiaaPkMap
import Derived.Test.YthondmpnleleiaaPkFit
import Derived.Test.YthondmpnleleiaaPkBagC
namespace Go.Proofs.Ythondmpnleleiaa
open Go.RowKit Go.Maps
set_option linter.unusedVariables false
set_option linter.unusedSimpArgs false

/-- why a bag does not take a packet -/
def putC (n : Int) (len : Nat) (ws : List Int) (f t : Int) (bn : Nat) : Int :=
  if pkF f t bn = false then 2 else if (ws.contains f || ws.contains t) = true then 3 else if len = 4096 ∨ n = 1099511627776 then 4 else 0
theorem addr_small {a : Int} (h : addrB a = true) : 0 ≤ a ∧ a ≤ 1000 := by
  simp only [addrB, Bool.or_eq_true] at h
  rcases h with h | h <;> have := (inB_iff _ _ _).1 h <;> omega
theorem pkF_small {f t : Int} {n : Nat} (h : pkF f t n = true) : (0 ≤ f ∧ f ≤ 1000) ∧ 0 ≤ t ∧ t ≤ 1000 := by
  simp only [pkF, Bool.and_eq_true] at h
  exact ⟨addr_small h.1.1.1, addr_small h.1.1.2⟩

set_option maxHeartbeats 4000000 in
set_option maxRecDepth 100000 in
theorem putCode_any (n : Int) (a1 : Option Addr) (len cap1 : Nat) (a2 : Option Addr) (cap2 : Nat) (ws : List Int) (i f t : Int) (a3 : Option Addr) (bn cap3 : Nat) (w : World) (hu : Ix w (.slice a2 ws.length cap2) ws) (hr : ∀ y ∈ ws, 0 ≤ y ∧ y ≤ 1000) (hw : ws.length ≤ 1048576) (hbn : bn ≤ maxLen) (hlen : len ≤ 1048576) :
    Calls Try.prog 74 #[.agg #[.int .i64 n, .slice a1 len cap1, .slice a2 ws.length cap2], .agg #[.int .i64 i, .int .i64 f, .int .i64 t, .slice a3 bn cap3]] w fun e w' => e = .returned (.int .i64 (putC n len ws f t bn)) ∧ Below w.heap.size w w' := by
  have HU : Hid (∀ w', Below w.heap.size w w' → Calls Try.prog 59 #[.slice a2 ws.length cap2] w' fun e w'' => e = .returned (.map (some w'.heap.size)) ∧ SetAt w'' w'.heap.size ws ∧ Below w'.heap.size w' w'') := fun w' hb => wallsOf_any _ ws w' (hu.below hb) hr hw
  clear hu hr
  have hb0 : Hid (Below w.heap.size w ((w.alloc (.cells #[.int .i64 n, .slice a1 len cap1, .slice a2 ws.length cap2] 29)).alloc (.cells #[.int .i64 i, .int .i64 f, .int .i64 t, .slice a3 bn cap3] 48))) := ((Below.refl _ _).alloc (Nat.le_refl _) _).alloc (by simp) _
  unfold putC
  cases h1 : pkF f t bn
  · simp only [if_true]
    go_enter Try.func74, Try.ntmps74
    go_wp2_with (go_at_call 82; refine (packetFits_any _ _ _ _ _ _ hbn _).mono ?_; rintro e w1 ⟨rfl, hb1⟩; rw [h1])
    go_ret
    exact ⟨rfl, hb0.out.trans (hb1.mono (by simp; omega))⟩
  obtain ⟨hf, ht⟩ := pkF_small h1
  simp only [Bool.true_eq_false, if_false]
  have HFIT : Hid (∀ u : World, Calls Try.prog 82 #[.agg #[.int .i64 i, .int .i64 f, .int .i64 t, .slice a3 bn cap3]] u fun e w' => e = .returned (.bool true) ∧ Below u.heap.size u w') := fun u => by rw [← h1]; exact packetFits_any _ _ _ _ _ _ hbn u
  clear h1
  cases h2 : (ws.contains f || ws.contains t)
  · have HL : Hid (∀ (u : World) (b : Nat), SetAt u b ws → Calls Try.prog 60 #[.map (some b), .int .i64 f, .int .i64 t] u fun e w' => e = .returned (.bool false) ∧ Below u.heap.size u w') := fun u b h => by rw [← h2]; exact lose_any b ws f t u h hf ht
    simp only [Bool.false_eq_true, if_false]
    clear h2 hf ht
    by_cases h3 : len = 4096
    · subst h3
      rw [if_pos (.inl rfl)]
      go_enter Try.func74, Try.ntmps74
      go_wp2_with (go_at_call 82; refine (HFIT.out _).mono ?_; rintro e w1 ⟨rfl, hb1⟩; have HB1 : Hid (Below w.heap.size w w1) := hb0.out.trans (hb1.mono (by simp; omega)); have hz1 := hb1.size; simp at hz1; have x0 : w1.cell? ⟨w.heap.size, 0, none⟩ = some (.int .i64 n) := (hb1.cell (p := ⟨w.heap.size, 0, none⟩) (by simp <;> omega)).trans (by simp [go_sem, *]); have x1 : w1.cell? ⟨w.heap.size, 1, none⟩ = some (.slice a1 4096 cap1) := (hb1.cell (p := ⟨w.heap.size, 1, none⟩) (by simp <;> omega)).trans (by simp [go_sem, *]); have x2 : w1.cell? ⟨w.heap.size, 2, none⟩ = some (.slice a2 ws.length cap2) := (hb1.cell (p := ⟨w.heap.size, 2, none⟩) (by simp <;> omega)).trans (by simp [go_sem, *]); have x3 : w1.cell? ⟨w.heap.size + 1, 1, none⟩ = some (.int .i64 f) := (hb1.cell (p := ⟨w.heap.size + 1, 1, none⟩) (by simp <;> omega)).trans (by simp [go_sem, *]); have x4 : w1.cell? ⟨w.heap.size + 1, 2, none⟩ = some (.int .i64 t) := (hb1.cell (p := ⟨w.heap.size + 1, 2, none⟩) (by simp <;> omega)).trans (by simp [go_sem, *]); clear hb1)
      go_region_held3 (fun w' => w'.cell? ⟨w.heap.size, 2, none⟩ = some (.slice a2 ws.length cap2) ∧ w'.cell? ⟨w.heap.size + 1, 1, none⟩ = some (.int .i64 f) ∧ w'.cell? ⟨w.heap.size + 1, 2, none⟩ = some (.int .i64 t)) (simp [*, go_sem])
        (first
          | (go_at_call 59; refine (HU.out _ HB1.out.drew).mono ?_; rintro r w2 ⟨rfl, hs2, hb2⟩; have hz2 := hb2.size; simp at hz2; have y0 : w2.cell? ⟨w.heap.size, 0, none⟩ = some (.int .i64 n) := (hb2.cell (p := ⟨w.heap.size, 0, none⟩) (by simp <;> omega)).trans (by simp [go_sem, *]); have y1 : w2.cell? ⟨w.heap.size, 1, none⟩ = some (.slice a1 4096 cap1) := (hb2.cell (p := ⟨w.heap.size, 1, none⟩) (by simp <;> omega)).trans (by simp [go_sem, *]); have y2 : w2.cell? ⟨w.heap.size, 2, none⟩ = some (.slice a2 ws.length cap2) := (hb2.cell (p := ⟨w.heap.size, 2, none⟩) (by simp <;> omega)).trans (by simp [go_sem, *]); have y3 : w2.cell? ⟨w.heap.size + 1, 1, none⟩ = some (.int .i64 f) := (hb2.cell (p := ⟨w.heap.size + 1, 1, none⟩) (by simp <;> omega)).trans (by simp [go_sem, *]); have y4 : w2.cell? ⟨w.heap.size + 1, 2, none⟩ = some (.int .i64 t) := (hb2.cell (p := ⟨w.heap.size + 1, 2, none⟩) (by simp <;> omega)).trans (by simp [go_sem, *]); have HS2 : Hid (SetAt w2 _ ws) := hs2; have HB2 : Hid (Below w.heap.size w w2) := HB1.out.drew.trans (hb2.mono (by show w.heap.size ≤ w1.heap.size; omega)); clear hs2 hb2)
          | (go_at_call 60; refine (HL.out _ _ HS2.out).mono ?_; rintro r w3 ⟨rfl, hb3⟩; have hz3 := hb3.size; have z0 : w3.cell? ⟨w.heap.size, 0, none⟩ = some (.int .i64 n) := (hb3.cell (p := ⟨w.heap.size, 0, none⟩) (by simp <;> omega)).trans (by simp [go_sem, *]); have z1 : w3.cell? ⟨w.heap.size, 1, none⟩ = some (.slice a1 4096 cap1) := (hb3.cell (p := ⟨w.heap.size, 1, none⟩) (by simp <;> omega)).trans (by simp [go_sem, *]); have z2 : w3.cell? ⟨w.heap.size, 2, none⟩ = some (.slice a2 ws.length cap2) := (hb3.cell (p := ⟨w.heap.size, 2, none⟩) (by simp <;> omega)).trans (by simp [go_sem, *]); have z3 : w3.cell? ⟨w.heap.size + 1, 1, none⟩ = some (.int .i64 f) := (hb3.cell (p := ⟨w.heap.size + 1, 1, none⟩) (by simp <;> omega)).trans (by simp [go_sem, *]); have z4 : w3.cell? ⟨w.heap.size + 1, 2, none⟩ = some (.int .i64 t) := (hb3.cell (p := ⟨w.heap.size + 1, 2, none⟩) (by simp <;> omega)).trans (by simp [go_sem, *]); have HB3 : Hid (Below w.heap.size w w3) := HB2.out.trans (hb3.mono (by omega)); clear hb3))
      all_goals go_wp2
      all_goals go_ret
      all_goals first | exact ⟨rfl, HB3.out⟩ | (exfalso; omega)
    by_cases h4 : n = 1099511627776
    · subst h4
      rw [if_pos (.inr rfl)]
      have h3d : ¬ (len : Int) = 4096 := by omega
      clear h3
      go_enter Try.func74, Try.ntmps74
      go_wp2_with (go_at_call 82; refine (HFIT.out _).mono ?_; rintro e w1 ⟨rfl, hb1⟩; have HB1 : Hid (Below w.heap.size w w1) := hb0.out.trans (hb1.mono (by simp; omega)); have hz1 := hb1.size; simp at hz1; have x0 : w1.cell? ⟨w.heap.size, 0, none⟩ = some (.int .i64 1099511627776) := (hb1.cell (p := ⟨w.heap.size, 0, none⟩) (by simp <;> omega)).trans (by simp [go_sem, *]); have x1 : w1.cell? ⟨w.heap.size, 1, none⟩ = some (.slice a1 len cap1) := (hb1.cell (p := ⟨w.heap.size, 1, none⟩) (by simp <;> omega)).trans (by simp [go_sem, *]); have x2 : w1.cell? ⟨w.heap.size, 2, none⟩ = some (.slice a2 ws.length cap2) := (hb1.cell (p := ⟨w.heap.size, 2, none⟩) (by simp <;> omega)).trans (by simp [go_sem, *]); have x3 : w1.cell? ⟨w.heap.size + 1, 1, none⟩ = some (.int .i64 f) := (hb1.cell (p := ⟨w.heap.size + 1, 1, none⟩) (by simp <;> omega)).trans (by simp [go_sem, *]); have x4 : w1.cell? ⟨w.heap.size + 1, 2, none⟩ = some (.int .i64 t) := (hb1.cell (p := ⟨w.heap.size + 1, 2, none⟩) (by simp <;> omega)).trans (by simp [go_sem, *]); clear hb1)
      go_region_held3 (fun w' => w'.cell? ⟨w.heap.size, 2, none⟩ = some (.slice a2 ws.length cap2) ∧ w'.cell? ⟨w.heap.size + 1, 1, none⟩ = some (.int .i64 f) ∧ w'.cell? ⟨w.heap.size + 1, 2, none⟩ = some (.int .i64 t)) (simp [*, go_sem])
        (first
          | (go_at_call 59; refine (HU.out _ HB1.out.drew).mono ?_; rintro r w2 ⟨rfl, hs2, hb2⟩; have hz2 := hb2.size; simp at hz2; have y0 : w2.cell? ⟨w.heap.size, 0, none⟩ = some (.int .i64 1099511627776) := (hb2.cell (p := ⟨w.heap.size, 0, none⟩) (by simp <;> omega)).trans (by simp [go_sem, *]); have y1 : w2.cell? ⟨w.heap.size, 1, none⟩ = some (.slice a1 len cap1) := (hb2.cell (p := ⟨w.heap.size, 1, none⟩) (by simp <;> omega)).trans (by simp [go_sem, *]); have y2 : w2.cell? ⟨w.heap.size, 2, none⟩ = some (.slice a2 ws.length cap2) := (hb2.cell (p := ⟨w.heap.size, 2, none⟩) (by simp <;> omega)).trans (by simp [go_sem, *]); have y3 : w2.cell? ⟨w.heap.size + 1, 1, none⟩ = some (.int .i64 f) := (hb2.cell (p := ⟨w.heap.size + 1, 1, none⟩) (by simp <;> omega)).trans (by simp [go_sem, *]); have y4 : w2.cell? ⟨w.heap.size + 1, 2, none⟩ = some (.int .i64 t) := (hb2.cell (p := ⟨w.heap.size + 1, 2, none⟩) (by simp <;> omega)).trans (by simp [go_sem, *]); have HS2 : Hid (SetAt w2 _ ws) := hs2; have HB2 : Hid (Below w.heap.size w w2) := HB1.out.drew.trans (hb2.mono (by show w.heap.size ≤ w1.heap.size; omega)); clear hs2 hb2)
          | (go_at_call 60; refine (HL.out _ _ HS2.out).mono ?_; rintro r w3 ⟨rfl, hb3⟩; have hz3 := hb3.size; have z0 : w3.cell? ⟨w.heap.size, 0, none⟩ = some (.int .i64 1099511627776) := (hb3.cell (p := ⟨w.heap.size, 0, none⟩) (by simp <;> omega)).trans (by simp [go_sem, *]); have z1 : w3.cell? ⟨w.heap.size, 1, none⟩ = some (.slice a1 len cap1) := (hb3.cell (p := ⟨w.heap.size, 1, none⟩) (by simp <;> omega)).trans (by simp [go_sem, *]); have z2 : w3.cell? ⟨w.heap.size, 2, none⟩ = some (.slice a2 ws.length cap2) := (hb3.cell (p := ⟨w.heap.size, 2, none⟩) (by simp <;> omega)).trans (by simp [go_sem, *]); have z3 : w3.cell? ⟨w.heap.size + 1, 1, none⟩ = some (.int .i64 f) := (hb3.cell (p := ⟨w.heap.size + 1, 1, none⟩) (by simp <;> omega)).trans (by simp [go_sem, *]); have z4 : w3.cell? ⟨w.heap.size + 1, 2, none⟩ = some (.int .i64 t) := (hb3.cell (p := ⟨w.heap.size + 1, 2, none⟩) (by simp <;> omega)).trans (by simp [go_sem, *]); have HB3 : Hid (Below w.heap.size w w3) := HB2.out.trans (hb3.mono (by omega)); clear hb3))
      all_goals go_wp2
      all_goals go_ret
      all_goals first | exact ⟨rfl, HB3.out⟩ | (exfalso; omega)
    rw [if_neg (by simp [h3, h4])]
    have h3d : ¬ (len : Int) = 4096 := by omega
    have h4d : (n == 1099511627776) = false := by simpa using h4
    clear h3 h4
    go_enter Try.func74, Try.ntmps74
    go_wp2_with (go_at_call 82; refine (HFIT.out _).mono ?_; rintro e w1 ⟨rfl, hb1⟩; have HB1 : Hid (Below w.heap.size w w1) := hb0.out.trans (hb1.mono (by simp; omega)); have hz1 := hb1.size; simp at hz1; have x0 : w1.cell? ⟨w.heap.size, 0, none⟩ = some (.int .i64 n) := (hb1.cell (p := ⟨w.heap.size, 0, none⟩) (by simp <;> omega)).trans (by simp [go_sem, *]); have x1 : w1.cell? ⟨w.heap.size, 1, none⟩ = some (.slice a1 len cap1) := (hb1.cell (p := ⟨w.heap.size, 1, none⟩) (by simp <;> omega)).trans (by simp [go_sem, *]); have x2 : w1.cell? ⟨w.heap.size, 2, none⟩ = some (.slice a2 ws.length cap2) := (hb1.cell (p := ⟨w.heap.size, 2, none⟩) (by simp <;> omega)).trans (by simp [go_sem, *]); have x3 : w1.cell? ⟨w.heap.size + 1, 1, none⟩ = some (.int .i64 f) := (hb1.cell (p := ⟨w.heap.size + 1, 1, none⟩) (by simp <;> omega)).trans (by simp [go_sem, *]); have x4 : w1.cell? ⟨w.heap.size + 1, 2, none⟩ = some (.int .i64 t) := (hb1.cell (p := ⟨w.heap.size + 1, 2, none⟩) (by simp <;> omega)).trans (by simp [go_sem, *]); clear hb1)
    go_region_held3 (fun w' => w'.cell? ⟨w.heap.size, 2, none⟩ = some (.slice a2 ws.length cap2) ∧ w'.cell? ⟨w.heap.size + 1, 1, none⟩ = some (.int .i64 f) ∧ w'.cell? ⟨w.heap.size + 1, 2, none⟩ = some (.int .i64 t)) (simp [*, go_sem])
      (first
        | (go_at_call 59; refine (HU.out _ HB1.out.drew).mono ?_; rintro r w2 ⟨rfl, hs2, hb2⟩; have hz2 := hb2.size; simp at hz2; have y0 : w2.cell? ⟨w.heap.size, 0, none⟩ = some (.int .i64 n) := (hb2.cell (p := ⟨w.heap.size, 0, none⟩) (by simp <;> omega)).trans (by simp [go_sem, *]); have y1 : w2.cell? ⟨w.heap.size, 1, none⟩ = some (.slice a1 len cap1) := (hb2.cell (p := ⟨w.heap.size, 1, none⟩) (by simp <;> omega)).trans (by simp [go_sem, *]); have y2 : w2.cell? ⟨w.heap.size, 2, none⟩ = some (.slice a2 ws.length cap2) := (hb2.cell (p := ⟨w.heap.size, 2, none⟩) (by simp <;> omega)).trans (by simp [go_sem, *]); have y3 : w2.cell? ⟨w.heap.size + 1, 1, none⟩ = some (.int .i64 f) := (hb2.cell (p := ⟨w.heap.size + 1, 1, none⟩) (by simp <;> omega)).trans (by simp [go_sem, *]); have y4 : w2.cell? ⟨w.heap.size + 1, 2, none⟩ = some (.int .i64 t) := (hb2.cell (p := ⟨w.heap.size + 1, 2, none⟩) (by simp <;> omega)).trans (by simp [go_sem, *]); have HS2 : Hid (SetAt w2 _ ws) := hs2; have HB2 : Hid (Below w.heap.size w w2) := HB1.out.drew.trans (hb2.mono (by show w.heap.size ≤ w1.heap.size; omega)); clear hs2 hb2)
        | (go_at_call 60; refine (HL.out _ _ HS2.out).mono ?_; rintro r w3 ⟨rfl, hb3⟩; have hz3 := hb3.size; have z0 : w3.cell? ⟨w.heap.size, 0, none⟩ = some (.int .i64 n) := (hb3.cell (p := ⟨w.heap.size, 0, none⟩) (by simp <;> omega)).trans (by simp [go_sem, *]); have z1 : w3.cell? ⟨w.heap.size, 1, none⟩ = some (.slice a1 len cap1) := (hb3.cell (p := ⟨w.heap.size, 1, none⟩) (by simp <;> omega)).trans (by simp [go_sem, *]); have z2 : w3.cell? ⟨w.heap.size, 2, none⟩ = some (.slice a2 ws.length cap2) := (hb3.cell (p := ⟨w.heap.size, 2, none⟩) (by simp <;> omega)).trans (by simp [go_sem, *]); have z3 : w3.cell? ⟨w.heap.size + 1, 1, none⟩ = some (.int .i64 f) := (hb3.cell (p := ⟨w.heap.size + 1, 1, none⟩) (by simp <;> omega)).trans (by simp [go_sem, *]); have z4 : w3.cell? ⟨w.heap.size + 1, 2, none⟩ = some (.int .i64 t) := (hb3.cell (p := ⟨w.heap.size + 1, 2, none⟩) (by simp <;> omega)).trans (by simp [go_sem, *]); have HB3 : Hid (Below w.heap.size w w3) := HB2.out.trans (hb3.mono (by omega)); clear hb3))
    all_goals go_wp2
    all_goals go_ret
    all_goals first | exact ⟨rfl, HB3.out⟩ | (exfalso; omega)
  · have HL : Hid (∀ (u : World) (b : Nat), SetAt u b ws → Calls Try.prog 60 #[.map (some b), .int .i64 f, .int .i64 t] u fun e w' => e = .returned (.bool true) ∧ Below u.heap.size u w') := fun u b h => by rw [← h2]; exact lose_any b ws f t u h hf ht
    simp only [if_true]
    clear h2 hf ht
    go_enter Try.func74, Try.ntmps74
    go_wp2_with (go_at_call 82; refine (HFIT.out _).mono ?_; rintro e w1 ⟨rfl, hb1⟩; have HB1 : Hid (Below w.heap.size w w1) := hb0.out.trans (hb1.mono (by simp; omega)); have hz1 := hb1.size; simp at hz1; have x0 : w1.cell? ⟨w.heap.size, 0, none⟩ = some (.int .i64 n) := (hb1.cell (p := ⟨w.heap.size, 0, none⟩) (by simp <;> omega)).trans (by simp [go_sem, *]); have x1 : w1.cell? ⟨w.heap.size, 1, none⟩ = some (.slice a1 len cap1) := (hb1.cell (p := ⟨w.heap.size, 1, none⟩) (by simp <;> omega)).trans (by simp [go_sem, *]); have x2 : w1.cell? ⟨w.heap.size, 2, none⟩ = some (.slice a2 ws.length cap2) := (hb1.cell (p := ⟨w.heap.size, 2, none⟩) (by simp <;> omega)).trans (by simp [go_sem, *]); have x3 : w1.cell? ⟨w.heap.size + 1, 1, none⟩ = some (.int .i64 f) := (hb1.cell (p := ⟨w.heap.size + 1, 1, none⟩) (by simp <;> omega)).trans (by simp [go_sem, *]); have x4 : w1.cell? ⟨w.heap.size + 1, 2, none⟩ = some (.int .i64 t) := (hb1.cell (p := ⟨w.heap.size + 1, 2, none⟩) (by simp <;> omega)).trans (by simp [go_sem, *]); clear hb1)
    go_region_held3 (fun w' => w'.cell? ⟨w.heap.size, 2, none⟩ = some (.slice a2 ws.length cap2) ∧ w'.cell? ⟨w.heap.size + 1, 1, none⟩ = some (.int .i64 f) ∧ w'.cell? ⟨w.heap.size + 1, 2, none⟩ = some (.int .i64 t)) (simp [*, go_sem])
      (first
        | (go_at_call 59; refine (HU.out _ HB1.out.drew).mono ?_; rintro r w2 ⟨rfl, hs2, hb2⟩; have hz2 := hb2.size; simp at hz2; have y0 : w2.cell? ⟨w.heap.size, 0, none⟩ = some (.int .i64 n) := (hb2.cell (p := ⟨w.heap.size, 0, none⟩) (by simp <;> omega)).trans (by simp [go_sem, *]); have y1 : w2.cell? ⟨w.heap.size, 1, none⟩ = some (.slice a1 len cap1) := (hb2.cell (p := ⟨w.heap.size, 1, none⟩) (by simp <;> omega)).trans (by simp [go_sem, *]); have y2 : w2.cell? ⟨w.heap.size, 2, none⟩ = some (.slice a2 ws.length cap2) := (hb2.cell (p := ⟨w.heap.size, 2, none⟩) (by simp <;> omega)).trans (by simp [go_sem, *]); have y3 : w2.cell? ⟨w.heap.size + 1, 1, none⟩ = some (.int .i64 f) := (hb2.cell (p := ⟨w.heap.size + 1, 1, none⟩) (by simp <;> omega)).trans (by simp [go_sem, *]); have y4 : w2.cell? ⟨w.heap.size + 1, 2, none⟩ = some (.int .i64 t) := (hb2.cell (p := ⟨w.heap.size + 1, 2, none⟩) (by simp <;> omega)).trans (by simp [go_sem, *]); have HS2 : Hid (SetAt w2 _ ws) := hs2; have HB2 : Hid (Below w.heap.size w w2) := HB1.out.drew.trans (hb2.mono (by show w.heap.size ≤ w1.heap.size; omega)); clear hs2 hb2)
        | (go_at_call 60; refine (HL.out _ _ HS2.out).mono ?_; rintro r w3 ⟨rfl, hb3⟩; have hz3 := hb3.size; have z0 : w3.cell? ⟨w.heap.size, 0, none⟩ = some (.int .i64 n) := (hb3.cell (p := ⟨w.heap.size, 0, none⟩) (by simp <;> omega)).trans (by simp [go_sem, *]); have z1 : w3.cell? ⟨w.heap.size, 1, none⟩ = some (.slice a1 len cap1) := (hb3.cell (p := ⟨w.heap.size, 1, none⟩) (by simp <;> omega)).trans (by simp [go_sem, *]); have z2 : w3.cell? ⟨w.heap.size, 2, none⟩ = some (.slice a2 ws.length cap2) := (hb3.cell (p := ⟨w.heap.size, 2, none⟩) (by simp <;> omega)).trans (by simp [go_sem, *]); have z3 : w3.cell? ⟨w.heap.size + 1, 1, none⟩ = some (.int .i64 f) := (hb3.cell (p := ⟨w.heap.size + 1, 1, none⟩) (by simp <;> omega)).trans (by simp [go_sem, *]); have z4 : w3.cell? ⟨w.heap.size + 1, 2, none⟩ = some (.int .i64 t) := (hb3.cell (p := ⟨w.heap.size + 1, 2, none⟩) (by simp <;> omega)).trans (by simp [go_sem, *]); have HB3 : Hid (Below w.heap.size w w3) := HB2.out.trans (hb3.mono (by omega)); clear hb3))
    all_goals go_wp2
    all_goals go_ret
    all_goals first | exact ⟨rfl, HB3.out⟩ | (exfalso; omega)
end Go.Proofs.Ythondmpnleleiaa
