/-
  Ints in memory of one's own.
-/
import Derived.Test.YtanpindbhdeomaaGreatDoorRowOwn
import Derived.Test.YtanpindbhdeomaaGreatDoorIxB
namespace Go.Proofs.YtanpindbhdeomaaGreatDoor
open Go.RowKit
set_option linter.unusedVariables false
set_option linter.unusedSimpArgs false

/-- ints of one's own -/
def inC (n : Int) : List Value := [.int .i64 n]
theorem inLaw : GLaw inC 1 3 24 := {
  und := Tryz.underlying24
  info := by
    obtain ⟨i0, hi, hz0, hz1, hz2⟩ := info_parts (show (Tryz.prog.info? 3).map (fun i => (i.zero, i.size, i.bytes)) = some (some (.int .i64 0), 1, 8) by kernel_rfl)
    exact ⟨i0, _, _, hi, hz0, hz1, hz2, rfl, by decide⟩
  pos := by decide
  len := fun _ => rfl
  one := fun a u hu => by
    simp only [inC, List.mem_cons, List.not_mem_nil, or_false] at hu
    subst hu; rfl }
theorem ix_sl {w : World} {v : Value} {l : List Int} (h : Sl inC 1 w v l) : Ix w v l := by
  obtain ⟨hl, a, cap, rfl, hc⟩ := h
  refine ⟨hl, a, cap, rfl, fun i hi => ?_⟩
  obtain ⟨b, off, rfl, hj⟩ := hc i hi
  refine ⟨b, off, rfl, fun j hj' => ?_⟩
  have := hj j hj' 0 _ rfl
  simpa using this
end Go.Proofs.YtanpindbhdeomaaGreatDoor
