/-
  slices.Delete at packets: one packet out of a row of one's own.
-/
import Derived.Test.YthondmpnleleiaaPkMk
import Derived.Deep.RegionLaw
import Derived.Deep.MidRow
import Derived.Lib.SliceRun
namespace Go.Proofs.Ythondmpnleleiaa
open Go.RowKit
set_option linter.unusedVariables false
set_option linter.unusedSimpArgs false

def zeroPk : List Value := [.int .i64 0, .int .i64 0, .int .i64 0, .slice none 0 0]
theorem zeroPkV (w : World) : (zeroValue 48).run Try.prog w = .ok (.agg #[.int .i64 0, .int .i64 0, .int .i64 0, .slice none 0 0]) w := by kernel_rfl
theorem run_clear_pk (w : World) (ty : TypeId) (b o c : Nat) (hc : ∀ j, j < 4 → (w.cell? ⟨b, o + j, none⟩).isSome = true) (hf : ∀ j, j < 4 → w.frozen? ⟨b, o + j, none⟩ = false) :
    (Builtin.clear_ #[27] ty #[.slice (some ⟨b, o, none⟩) 1 c]).run Try.prog w = .ok (.tuple #[]) (w.setCells b o zeroPk) := by
  have hzc : (Builtin.zeroCells (Value.agg #[.int .i64 0, .int .i64 0, .int .i64 0, .slice none 0 0]).cells 1).toList = zeroPk := by kernel_rfl
  have hst := run_storeCells_cells (P := Try.prog) b o zeroPk 0 w (by simpa [zeroPk] using hc) (by simpa [zeroPk] using hf) (by intro v hv; simp only [zeroPk, List.mem_cons, List.not_mem_nil, or_false] at hv; rcases hv with rfl | rfl | rfl | rfl <;> rfl)
  simp only [Nat.add_zero] at hst
  simp [Builtin.clear_, run_underlying Try.underlying27, zeroPkV, hzc, hst]

/-- the row behind the deletion -/
theorem del_at {w : World} {g i : Nat} {L : List Pk} (hi : i < L.length) (hth : w.there g 0 (L.length * 4)) (hc : ∀ j (h : j < L.length), PkAt w g (j * 4) L[j]) :
    ∀ j (h : j < (L.eraseIdx i).length), PkAt ((w.setCells g (i * 4) (pksC (L.drop (i + 1)))).setCells g ((L.length - 1) * 4) zeroPk) g (j * 4) (L.eraseIdx i)[j] := by
  intro j hj
  have hj' : j < L.length - 1 := by rw [List.length_eraseIdx_of_lt hi] at hj; exact hj
  have hlen : (pksC (L.drop (i + 1))).length = (L.length - (i + 1)) * 4 := by rw [pksC_len, List.length_drop]
  have key : ∀ t, t < 4 → ((w.setCells g (i * 4) (pksC (L.drop (i + 1)))).setCells g ((L.length - 1) * 4) zeroPk).cell? ⟨g, j * 4 + t, none⟩ = (pkC (L.eraseIdx i)[j])[t]? := by
    intro t ht
    rw [World.cell?_setCells_out _ _ _ _ _ (fun _ _ => .inl (by simp only []; omega))]
    by_cases hji : j < i
    · rw [World.cell?_setCells_out _ _ _ _ _ (fun _ _ => .inl (by simp only []; omega))]
      have e : (L.eraseIdx i)[j] = L[j] := by rw [List.getElem_eraseIdx]; simp [hji]
      rw [e]
      obtain ⟨c0, c1, c2, c3⟩ := hc j (by omega)
      rcases (show t = 0 ∨ t = 1 ∨ t = 2 ∨ t = 3 by omega) with rfl | rfl | rfl | rfl
      · exact c0
      · exact c1
      · exact c2
      · exact c3
    · have e : (L.eraseIdx i)[j] = L[j + 1] := by rw [List.getElem_eraseIdx]; simp [hji]
      have hk : (j - i) * 4 + t < (pksC (L.drop (i + 1))).length := by rw [hlen]; omega
      have h1 := World.cell?_setCells_in g (pksC (L.drop (i + 1))) (i * 4) w (fun k hk' => by
        have := (hth (i * 4 + k) (by rw [hlen] at hk'; omega)).1
        rwa [Nat.zero_add] at this) ((j - i) * 4 + t) hk
      rw [show j * 4 + t = i * 4 + ((j - i) * 4 + t) by omega, h1, e, ← List.getElem?_eq_getElem hk, pksC_get _ (j - i) (by rw [List.length_drop]; omega) t ht]
      congr 2
      rw [List.getElem_drop]
      congr 1
      omega
  exact ⟨key 0 (by omega), key 1 (by omega), key 2 (by omega), key 3 (by omega)⟩

set_option maxHeartbeats 4000000 in
set_option maxRecDepth 100000 in
theorem delete_any (g cap : Nat) (L : List Pk) (i : Nat) (hi : i < L.length) (hcap : L.length ≤ cap) (hm : cap ≤ maxLen) (w : World) (hth : w.there g 0 (L.length * 4)) (hc : ∀ j (h : j < L.length), PkAt w g (j * 4) L[j]) (hone : ∀ p ∈ L, p.2.oneCell' = true) (z : Int) (hz : z = (i : Int) + 1) :
    Calls Try.prog 80 #[.slice (some ⟨g, 0, none⟩) L.length cap, .int .i64 i, .int .i64 z] w fun e w' => e = .returned (.slice (some ⟨g, 0, none⟩) (L.length - 1) cap) ∧ w' = (w.drew.setCells g (i * 4) (pksC (L.drop (i + 1)))).setCells g ((L.length - 1) * 4) zeroPk := by
  obtain ⟨j, hj⟩ : ∃ j, j = i + 1 := ⟨_, rfl⟩
  obtain rfl : z = (j : Int) := by omega
  rw [← hj]
  clear hz
  unfold maxLen at hm
  have hlen : (pksC (L.drop j)).length = (L.length - j) * 4 := by rw [pksC_len, List.length_drop]
  obtain ⟨i0, hi0, hz0, hz1, hz2⟩ := info_parts infoPk
  have hthd : ∀ k, k < L.length * 4 → (w.drew.cell? ⟨g, k, none⟩).isSome = true ∧ w.drew.frozen? ⟨g, k, none⟩ = false := fun k hk => by
    have := hth k hk
    rwa [Nat.zero_add] at this
  obtain ⟨news, hnews⟩ : ∃ news, news = pksC (L.drop j) := ⟨_, rfl⟩
  rw [← hnews] at hlen ⊢
  obtain ⟨A, hA, hsrc⟩ : ∃ A : Addr, Hid ((if cap = j then some (⟨g, 0, none⟩ : Addr) else some ⟨g, j * 4, none⟩) = some A) ∧ Hid (∀ t u, news[t]? = some u → w.drew.cell? (A.add t) = some u) := by
    by_cases h : cap = j
    · refine ⟨⟨g, 0, none⟩, by show _ = _; simp [h], fun t u hu => ?_⟩
      have h0 : news.length = 0 := by rw [hlen]; omega
      rw [List.length_eq_zero_iff.1 h0] at hu
      simp at hu
    · refine ⟨⟨g, j * 4, none⟩, by show _ = _; simp [h], fun t u hu => ?_⟩
      have ht : t < (L.length - j) * 4 := by
        have := (List.getElem?_eq_some_iff.1 hu).1
        rwa [hlen] at this
      rw [hnews, show t = t / 4 * 4 + t % 4 by omega, pksC_get _ (t / 4) (by rw [List.length_drop]; omega) (t % 4) (Nat.mod_lt _ (by omega)), List.getElem_drop] at hu
      rw [Addr.add_lit]
      obtain ⟨c0, c1, c2, c3⟩ := hc (j + t / 4) (by omega)
      have e : j * 4 + t = (j + t / 4) * 4 + t % 4 := by omega
      rw [e]
      have hr : t % 4 < 4 := Nat.mod_lt _ (by omega)
      generalize t % 4 = r at hu hr ⊢
      rcases (show r = 0 ∨ r = 1 ∨ r = 2 ∨ r = 3 by omega) with rfl | rfl | rfl | rfl
      · exact c0.trans hu
      · exact c1.trans hu
      · exact c2.trans hu
      · exact c3.trans hu
  have s1 : Hid (news.length = (L.length - j) * 4) := hlen
  have s2 : Hid (∀ u ∈ news, u.oneCell' = true) := by
    intro u hu
    rw [hnews] at hu
    obtain ⟨t, ht, rfl⟩ := List.mem_iff_getElem.1 hu
    have hu' : (pksC (L.drop j))[t]? = some (pksC (L.drop j))[t] := List.getElem?_eq_getElem ht
    generalize (pksC (L.drop j))[t] = u at hu'
    have ht' : t < (L.length - j) * 4 := by rw [pksC_len, List.length_drop] at ht; exact ht
    rw [show t = t / 4 * 4 + t % 4 by omega, pksC_get _ (t / 4) (by rw [List.length_drop]; omega) (t % 4) (Nat.mod_lt _ (by omega)), List.getElem_drop] at hu'
    have hp := hone L[j + t / 4] (List.getElem_mem _)
    have hr : t % 4 < 4 := Nat.mod_lt _ (by omega)
    generalize t % 4 = r at hu' hr
    rcases (show r = 0 ∨ r = 1 ∨ r = 2 ∨ r = 3 by omega) with rfl | rfl | rfl | rfl
    · simp [pkC] at hu'; subst hu'; rfl
    · simp [pkC] at hu'; subst hu'; rfl
    · simp [pkC] at hu'; subst hu'; rfl
    · simp [pkC] at hu'; subst hu'; exact hp
  have s3 : Hid (∀ t, t < news.length → (w.drew.cell? ⟨g, 0 + i * 4 + t, none⟩).isSome = true ∧ w.drew.frozen? ⟨g, 0 + i * 4 + t, none⟩ = false) := fun t ht => by
    rw [hlen] at ht
    rw [Nat.zero_add]
    exact hthd _ (by omega)
  obtain ⟨W1, hW1⟩ : ∃ W1, W1 = w.drew.setCells g (i * 4) news := ⟨_, rfl⟩
  have hcl : ∀ ty c, (Builtin.clear_ #[27] ty #[.slice (some ⟨g, (i + (L.length - j)) * 4, none⟩) 1 c]).run Try.prog W1 = .ok (.tuple #[]) (W1.setCells g ((i + (L.length - j)) * 4) zeroPk) := fun ty c => run_clear_pk W1 ty g _ c (fun j hj => by
      rw [hW1]; exact World.isSome_setCells g _ _ _ _ (hthd _ (by omega)).1) (fun j hj => by
      rw [hW1, World.frozen?_setCells]; exact (hthd _ (by omega)).2)
  have hW : Hid (W1 = w.drew.setCells g (0 + i * 4) news) := by show _ = _; rw [Nat.zero_add]; exact hW1
  rw [← hW1, show L.length - 1 = i + (L.length - j) by omega]
  have hic : i ≤ cap := by omega
  have hjc : j ≤ cap := by omega
  have hjl : j ≤ L.length := by omega
  have hne : i < j := by omega
  have hne' : ¬ i = j := by omega
  have h1l : L.length - (i + (L.length - j)) = 1 := by omega
  have hij : i + (L.length - j) ≤ cap := by omega
  have hin : i + (L.length - j) ≤ L.length := by omega
  clear hW1 hth hc hthd hnews hlen hone hj
  generalize L.length = n at *
  go_enter Try.func80, Try.ntmps80
  go_wp2_with fail
  have hA' := hA.out
  go_region_law (refine step_append_room rfl (.tmp 22) (.tmp 25) 27 rfl 48 i0 4 Try.underlying27 hi0 hz1 g 0 i cap (by simp [Act.eval, Act.put]) A (n - j) (cap - j) news (by simp [Act.eval, Act.put]) s1.out hsrc.out s2.out (by omega) s3.out ?_; rw [← hW.out])
  go_wp2
  go_ret
  exact ⟨rfl, rfl⟩
end Go.Proofs.Ythondmpnleleiaa
