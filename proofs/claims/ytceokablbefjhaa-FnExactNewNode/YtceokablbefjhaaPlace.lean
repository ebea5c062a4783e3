/-
  A node's place: impl.placeFits, spec.l4configOk.
-/
import Derived.Test.YtceokablbefjhaaSize
namespace Go.Proofs.Ytceokablbefjhaa
open Go.RowKit
set_option linter.unusedVariables false
set_option linter.unusedSimpArgs false

def placeB (id sz el bt : Int) : Bool := sizB sz && (inB id 1 sz && (inB el 2 1000 && inB bt 1 el))

theorem placeFits_any (id sz el bt : Int) (w : World) : Calls Try.prog 91 #[.int .i64 id, .int .i64 sz, .int .i64 el, .int .i64 bt] w fun e w' => e = .returned (.bool (placeB id sz el bt)) ∧ w' = w := by
  have g1 : True := trivial
  have g2 : True := trivial
  cases h1 : sizB sz
  · have e : placeB id sz el bt = false := by simp [placeB, h1]
    rw [e]
    go_enter Try.func91, Try.ntmps91
    go_wp2_with (go_at_call 140; refine (sizeFitsN_any _ _).mono ?_; rintro e w1 ⟨rfl, hw⟩; obtain rfl := hw.symm; rw [h1])
    go_ret
    exact ⟨rfl, rfl⟩
  · cases h2 : inB id 1 sz
    · have e : placeB id sz el bt = false := by simp [placeB, h2]
      rw [e]
      go_enter Try.func91, Try.ntmps91
      go_wp2_with (first
        | (go_at_call 140; refine (sizeFitsN_any _ _).mono ?_; rintro e w1 ⟨rfl, hw⟩; obtain rfl := hw.symm; rw [h1])
        | (go_at_call 66; clear g1; refine (within_any id 1 sz _).mono ?_; rintro e w1 ⟨rfl, hw⟩; obtain rfl := hw.symm; rw [h2]))
      go_ret
      exact ⟨rfl, rfl⟩
    · cases h3 : inB el 2 1000
      · have e : placeB id sz el bt = false := by simp [placeB, h3]
        rw [e]
        go_enter Try.func91, Try.ntmps91
        go_wp2_with (first
          | (go_at_call 140; refine (sizeFitsN_any _ _).mono ?_; rintro e w1 ⟨rfl, hw⟩; obtain rfl := hw.symm; rw [h1])
          | (go_at_call 66; clear g1; refine (within_any id 1 sz _).mono ?_; rintro e w1 ⟨rfl, hw⟩; obtain rfl := hw.symm; rw [h2])
          | (go_at_call 66; clear g2; refine (within_any el 2 1000 _).mono ?_; rintro e w1 ⟨rfl, hw⟩; obtain rfl := hw.symm; rw [h3]))
        go_ret
        exact ⟨rfl, rfl⟩
      · have e : placeB id sz el bt = inB bt 1 el := by simp [placeB, h1, h2, h3]
        rw [e]
        go_enter Try.func91, Try.ntmps91
        go_wp2_with (first
          | (go_at_call 140; refine (sizeFitsN_any _ _).mono ?_; rintro e w1 ⟨rfl, hw⟩; obtain rfl := hw.symm; rw [h1])
          | (go_at_call 66; clear g1; refine (within_any id 1 sz _).mono ?_; rintro e w1 ⟨rfl, hw⟩; obtain rfl := hw.symm; rw [h2])
          | (go_at_call 66; clear g2; refine (within_any el 2 1000 _).mono ?_; rintro e w1 ⟨rfl, hw⟩; obtain rfl := hw.symm; rw [h3])
          | (go_at_call 66; refine (within_any bt 1 el _).mono ?_; rintro e w1 ⟨rfl, hw⟩; obtain rfl := hw.symm))
        go_ret
        exact ⟨rfl, rfl⟩
theorem configOk_any (id sz el bt : Int) (w : World) : Calls Try.prog 87 #[.int .i64 id, .int .i64 sz, .int .i64 el, .int .i64 bt] w fun e w' => e = .returned (.bool (placeB id sz el bt)) ∧ w' = w := by
  have g1 : True := trivial
  have g2 : True := trivial
  cases h1 : sizB sz
  · have e : placeB id sz el bt = false := by simp [placeB, h1]
    rw [e]
    go_enter Try.func87, Try.ntmps87
    go_wp2_with (go_at_call 139; refine (l3size_any _ _).mono ?_; rintro e w1 ⟨rfl, hw⟩; obtain rfl := hw.symm; rw [h1])
    go_ret
    exact ⟨rfl, rfl⟩
  · cases h2 : inB id 1 sz
    · have e : placeB id sz el bt = false := by simp [placeB, h2]
      rw [e]
      go_enter Try.func87, Try.ntmps87
      go_wp2_with (first
        | (go_at_call 139; refine (l3size_any _ _).mono ?_; rintro e w1 ⟨rfl, hw⟩; obtain rfl := hw.symm; rw [h1])
        | (go_at_call 60; clear g1; refine (l1in_any id 1 sz _).mono ?_; rintro e w1 ⟨rfl, hw⟩; obtain rfl := hw.symm; rw [h2]))
      go_ret
      exact ⟨rfl, rfl⟩
    · cases h3 : inB el 2 1000
      · have e : placeB id sz el bt = false := by simp [placeB, h3]
        rw [e]
        go_enter Try.func87, Try.ntmps87
        go_wp2_with (first
          | (go_at_call 139; refine (l3size_any _ _).mono ?_; rintro e w1 ⟨rfl, hw⟩; obtain rfl := hw.symm; rw [h1])
          | (go_at_call 60; clear g1; refine (l1in_any id 1 sz _).mono ?_; rintro e w1 ⟨rfl, hw⟩; obtain rfl := hw.symm; rw [h2])
          | (go_at_call 60; clear g2; refine (l1in_any el 2 1000 _).mono ?_; rintro e w1 ⟨rfl, hw⟩; obtain rfl := hw.symm; rw [h3]))
        go_ret
        exact ⟨rfl, rfl⟩
      · have e : placeB id sz el bt = inB bt 1 el := by simp [placeB, h1, h2, h3]
        rw [e]
        go_enter Try.func87, Try.ntmps87
        go_wp2_with (first
          | (go_at_call 139; refine (l3size_any _ _).mono ?_; rintro e w1 ⟨rfl, hw⟩; obtain rfl := hw.symm; rw [h1])
          | (go_at_call 60; clear g1; refine (l1in_any id 1 sz _).mono ?_; rintro e w1 ⟨rfl, hw⟩; obtain rfl := hw.symm; rw [h2])
          | (go_at_call 60; clear g2; refine (l1in_any el 2 1000 _).mono ?_; rintro e w1 ⟨rfl, hw⟩; obtain rfl := hw.symm; rw [h3])
          | (go_at_call 60; refine (l1in_any bt 1 el _).mono ?_; rintro e w1 ⟨rfl, hw⟩; obtain rfl := hw.symm))
        go_ret
        exact ⟨rfl, rfl⟩
end Go.Proofs.Ytceokablbefjhaa
