/-
  slices.Sorted(maps.Keys(m)) at the table's two maps.
-/
import Derived.Test.YtelfejhopjbhpaaTbLaid
import Derived.Test.YtelfejhopjbhpaaTbBase
namespace Go.Proofs.Ytelfejhopjbhpaa
open Go.RowKit Go.Maps Go.Sort Go.Shelf
set_option linter.unusedVariables false

theorem laidSortsS (m : Nat) : AnyZ.SortsIn Try.prog laidSortedS_ren Fence.wide m :=
  ⟨fun blk off cap ss W hH hblk hsz => callsIn_wide.2 (AnyM.slices_Sort_string laidSortS blk off cap ss W hH hblk hsz),
   fun p cap W => callsIn_wide.2 (AnyM.slices_Sort_string_none laidSortS p cap W)⟩
theorem laidSortsI (m : Nat) : AnyZI.SortsIn Try.prog laidSortedI_ren Fence.wide m :=
  ⟨fun blk off cap ss W hH hblk hsz => callsIn_wide.2 (AnyM.slices_Sort_int laidSortI blk off cap ss W hH hblk hsz),
   fun p cap W => callsIn_wide.2 (AnyM.slices_Sort_int_none laidSortI p cap W)⟩

theorem keysS_any (mb : Option Nat) (W : World) : Calls Try.prog 64 #[.map mb] W fun e w' => e = .returned (.func (.func 83) #[] #[.pointer (some ⟨W.heap.size, 0, none⟩)]) ∧ w' = W.alloc (.cells #[.map mb] 66) :=
  (callsIn_wide (n := 5)).1 (AnyZ.keys_in laidKeysS Fence.wide 5 trivial rfl mb W)
theorem keysI_any (mb : Option Nat) (W : World) : Calls Try.prog 66 #[.map mb] W fun e w' => e = .returned (.func (.func 86) #[] #[.pointer (some ⟨W.heap.size, 0, none⟩)]) ∧ w' = W.alloc (.cells #[.map mb] 67) :=
  (callsIn_wide (n := 5)).1 (AnyZI.keys_in laidKeysI Fence.wide 5 trivial rfl mb W)

def stC (b : ByteArray) : List Value := [.string b]
def inC (x : Int) : List Value := [.int .i64 x]
theorem gC_str (l : List ByteArray) : (l.map fun b => b.data.toList).map encStr = gC stC l := by
  induction l with
  | nil => rfl
  | cons b r ih => rw [List.map_cons, List.map_cons, ih, gC]; rfl
theorem gC_int (l : List Int) : l.map encZ = gC inC l := by
  induction l with
  | nil => rfl
  | cons b r ih => rw [List.map_cons, ih, gC]; rfl

theorem sort_pairs {ps : List Pr} (hr : KRise prK ps) {ss : List (List UInt8)} (hs : ss.Perm (strKeys (kMap prK prV ps))) : ss.mergeSort (fun x y => decide (x ≤ y)) = (ps.map (·.k)).map fun b => b.data.toList := by
  have e : strKeys (kMap prK prV ps) = (ps.map (·.k)).map fun b => b.data.toList := by
    unfold kMap strKeys
    simp only [List.map_map]
    rfl
  rw [e] at hs
  have e1 : ss.mergeSort leB = ((ps.map (·.k)).map fun b => b.data.toList).mergeSort leB := mergeSort_of_perm hs
  rw [show ss.mergeSort (fun x y => decide (x ≤ y)) = ss.mergeSort leB from rfl, e1]
  refine List.mergeSort_of_pairwise ?_
  rw [List.map_map, List.pairwise_map]
  refine hr.imp fun h => ?_
  simp only [leB, decide_eq_true_eq]
  exact before_le h
theorem sort_sess {ss : List Se} (hr : KRise seK ss) {xs : List Int} (hs : xs.Perm (intKeys (kMap seK seV ss))) : xs.mergeSort (fun x y => decide (x ≤ y)) = ss.map (·.cl) := by
  have e : intKeys (kMap seK seV ss) = ss.map (·.cl) := by
    unfold kMap intKeys
    simp only [List.map_map]
    rfl
  rw [e] at hs
  have e1 : xs.mergeSort leI = (ss.map (·.cl)).mergeSort leI := mergeSort_of_perm_i hs
  rw [show xs.mergeSort (fun x y => decide (x ≤ y)) = xs.mergeSort leI from rfl, e1]
  refine List.mergeSort_of_pairwise ?_
  rw [List.pairwise_map]
  refine hr.imp fun {a b} h => ?_
  have h' : decide (a.cl < b.cl) = true := h
  simp only [leI, decide_eq_true_eq] at h' ⊢
  omega

abbrev MapP (w : World) (b n : Nat) (ps : List Pr) : Prop := w.ownsMap Try.prog 9 heldE b n (kMap prK prV ps)
abbrev MapS (w : World) (b n : Nat) (ss : List Se) : Prop := w.ownsMap Try.prog 3 heldE b n (kMap seK seV ss)

set_option maxHeartbeats 1000000 in
theorem sortedS_any (b nn : Nat) (ps : List Pr) (w : World) (hown : MapP w b nn ps) (hr : KRise prK ps) (hl : ps.length ≤ 1048576) :
    Calls Try.prog 63 #[.func (.func 83) #[] #[.pointer (some ⟨w.heap.size, 0, none⟩)]] (w.alloc (.cells #[.map (some b)] 66)) fun e w' => ∃ v, e = .returned v ∧
      OwnG stC 1 9 w' (w.heap.size + 1) v (ps.map (·.k)) ∧ Below (w.heap.size + 1) (w.alloc (.cells #[.map (some b)] 66)) w' := by
  refine (callsIn_wide (n := 5)).1 ?_
  have hbl := hown.lt
  have hsz : Maps.size (kMap prK prV ps) = ps.length := size_kMap _ _
  have hseq : SeqGives Fence.wide 2 Try.prog 83 #[.pointer (some ⟨w.heap.size, 0, none⟩)] encStr (fun ss => ss.Perm (strKeys (kMap prK prV ps))) (Maps.size (kMap prK prV ps)) (w.alloc (.cells #[.map (some b)] 66)) :=
    AnyZ.keys_gives (ρ := laidKeysS_ren) { laidKeysS with } Fence.wide _ trivial rfl (by omega) w.heap.size b nn _ _ (by simp) (by simp) (by
      obtain ⟨es, clock, hb, Ft, hs, hD⟩ := hown
      exact ⟨es, clock, (Below.heap_alloc _ _ b hbl).trans hb, Ft, hs, hD⟩)
  refine (AnyZ.sorted_in laidSortedS Fence.wide 5 trivial trivial trivial trivial rfl (by omega) (laidSortsS _) (enters_of Try.func82 (by kernel_rfl) rfl) 83 #[.pointer (some ⟨w.heap.size, 0, none⟩)] trivial (enters_of Try.func83 (by kernel_rfl) rfl) _ _ (by rw [hsz]; unfold maxLen; omega) (by rw [hsz]; omega) _ hseq).mono ?_
  rintro e w' ⟨v, ss, rfl, hp, hrow, _, hb⟩
  refine ⟨v, rfl, ?_, by simpa using hb⟩
  have hlen : ss.length = (ps.map (·.k)).length := by
    have h1 := congrArg List.length (sort_pairs hr hp)
    rw [List.length_mergeSort] at h1
    simpa using h1
  rw [sort_pairs hr hp, gC_str, hlen] at hrow
  simpa [OwnG, show laidSortedS_ren.t 26 = 9 from rfl] using hrow

set_option maxHeartbeats 1000000 in
theorem sortedI_any (b nn : Nat) (ps : List Se) (w : World) (hown : MapS w b nn ps) (hr : KRise seK ps) (hl : ps.length ≤ 1048576) :
    Calls Try.prog 65 #[.func (.func 86) #[] #[.pointer (some ⟨w.heap.size, 0, none⟩)]] (w.alloc (.cells #[.map (some b)] 67)) fun e w' => ∃ v, e = .returned v ∧
      OwnG inC 1 3 w' (w.heap.size + 1) v (ps.map (·.cl)) ∧ Below (w.heap.size + 1) (w.alloc (.cells #[.map (some b)] 67)) w' := by
  refine (callsIn_wide (n := 5)).1 ?_
  have hbl := hown.lt
  have hsz : Maps.size (kMap seK seV ps) = ps.length := size_kMap _ _
  have hseq : SeqGives Fence.wide 2 Try.prog 86 #[.pointer (some ⟨w.heap.size, 0, none⟩)] encZ (fun ss => ss.Perm (intKeys (kMap seK seV ps))) (Maps.size (kMap seK seV ps)) (w.alloc (.cells #[.map (some b)] 67)) :=
    AnyZI.keys_gives (ρ := laidKeysI_ren) { laidKeysI with } Fence.wide _ trivial rfl (by omega) w.heap.size b nn _ _ (by simp) (by simp) (by
      obtain ⟨es, clock, hb, Ft, hs, hD⟩ := hown
      exact ⟨es, clock, (Below.heap_alloc _ _ b hbl).trans hb, Ft, hs, hD⟩)
  refine (AnyZI.sorted_in laidSortedI Fence.wide 5 trivial trivial trivial trivial rfl (by omega) (laidSortsI _) (enters_of Try.func85 (by kernel_rfl) rfl) 86 #[.pointer (some ⟨w.heap.size, 0, none⟩)] trivial (enters_of Try.func86 (by kernel_rfl) rfl) _ _ (by rw [hsz]; unfold maxLen; omega) (by rw [hsz]; omega) _ hseq).mono ?_
  rintro e w' ⟨v, ss, rfl, hp, hrow, _, hb⟩
  refine ⟨v, rfl, ?_, by simpa using hb⟩
  have hlen : ss.length = (ps.map (·.cl)).length := by
    have h1 := congrArg List.length (sort_sess hr hp)
    rw [List.length_mergeSort] at h1
    exact h1
  rw [sort_sess hr hp, gC_int, hlen] at hrow
  simpa [OwnG, show laidSortedI_ren.t 26 = 3 from rfl] using hrow
end Go.Proofs.Ytelfejhopjbhpaa
