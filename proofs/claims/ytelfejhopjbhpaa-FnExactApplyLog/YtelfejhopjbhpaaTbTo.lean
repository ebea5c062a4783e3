/-
  laws.toPairS, laws.toSessionS.
-/
import Derived.Test.YtelfejhopjbhpaaTbRow
import Derived.Test.YtelfejhopjbhpaaBlk
import Derived.Deep.MidRow
namespace Go.Proofs.Ytelfejhopjbhpaa
open Go.RowKit Go.Maps
set_option linter.unusedVariables false
set_option linter.unusedSimpArgs false

theorem infoPairS : (Try.prog.info? 76).map (·.size) = some 2 := by kernel_rfl
set_option maxHeartbeats 2000000 in
set_option maxRecDepth 100000 in
theorem toPair_any (p : Pr) (w : World) :
    Calls Try.prog 76 #[.agg #[.string p.k, .string p.v]] w fun x w' => x = .returned (.agg #[.string p.k, .string p.v]) ∧ Below w.heap.size w w' := by
  go_enter Try.func76, Try.ntmps76
  go_wp2
  refine bodyPost_ret (v := .agg #[.string p.k, .string p.v]) (by simp [results, Try.results76, go_sem]) rfl ⟨rfl, ?_⟩
  exact ((((Below.refl _ _).alloc (Nat.le_refl _) _).alloc (by simp) _).alloc (by simp; omega) _)
set_option maxHeartbeats 4000000 in
set_option maxRecDepth 100000 in
theorem toPairS_c (v : Value) (l : List Pr) (w : World) (hv : Sl prC 2 w v l) (hl' : l.length ≤ 1048576) :
    Calls Try.prog 51 #[v] w fun x w' => x = .returned (.slice (some ⟨w.heap.size, 0, none⟩) l.length l.length) ∧ CopiedG prC 2 w w' l l.length := by
  have HV : Hid (Sl prC 2 w v l) := hv
  obtain ⟨hl, a, cap, rfl, _⟩ := hv
  obtain ⟨i0, hi, hz0, hz1, hz2⟩ := info_parts infoPr
  have hmk : ∀ u : World, (Instr.makeSlice 26 (.int .i64 (l.length : Int)) (.int .i64 (l.length : Int))).run Try.prog u =
      .ok (.slice (some ⟨u.heap.size, 0, none⟩) l.length l.length) (u.alloc (.cells (madeCells #[.string ⟨#[]⟩, .string ⟨#[]⟩] (l.length * 2)) 76)) := fun u => by
    have h := run_make (P := Try.prog) u 26 76 i0 _ Try.underlying26 hi hz0 .i64 .i64 (l.length : Int) (l.length : Int) (by omega) (Int.le_refl _) (by rw [hz2]; omega) (by omega)
    simpa [hz1, Value.cells] using h
  go_enter Try.func51, Try.ntmps51
  go_wp2
  go_loopw [4] (fun i wr => ∃ k : Nat, k ≤ l.length ∧ i = .int .i64 k ∧ CopiedG prC 2 w wr l k) (fun i _ => l.length - (RowKit.intOf i).toNat)
  case atStart => exact ⟨0, Nat.zero_le _, rfl, CopiedG.start _ _ w l _ _⟩
  case round =>
    obtain ⟨k, hk, rfl, hC⟩ := hrel
    by_cases hlt : k < l.length
    · obtain ⟨b, off, rfl, hj⟩ := Ps.at_ (HV.out.below hC.below) hlt
      obtain ⟨c0, c1⟩ := hj k hlt
      have hlt' : (k : Int) < (l.length : Int) := by omega
      have HC : Hid (CopiedG prC 2 w wr l k) := hC
      have HTO : Hid (∀ u, Calls Try.prog 76 #[.agg #[.string l[k].k, .string l[k].v]] u fun x w' => x = .returned (.agg #[.string l[k].k, .string l[k].v]) ∧ Below u.heap.size u w') := fun u => toPair_any l[k] u
      have HST : Hid (∀ u, CopiedG prC 2 w u l k → CopiedG prC 2 w (u.setCells w.heap.size (k * 2) [.string l[k].k, .string l[k].v]) l (k + 1)) := fun u h => h.step hlt (fun _ => rfl)
      have hzz := hC.below.size
      have hws := hC.size
      clear hj hC
      generalize l[k] = p at *
      go_wp2_with (first
        | (go_at_call 76; refine (HTO.out _).mono ?_; rintro x w1 ⟨rfl, hb⟩; have HC1 : Hid (CopiedG prC 2 w w1 l k) := HC.out.later hb; have hth := there_sub HC1.out.there (k * 2) 2 (row_le hlt (Nat.le_refl _)))
        | (have hBA := HC1; refine gate_st 76 (.tmp 21) (.tmp 20) rfl ?_; clear hBA; refine wpList_store_mid rfl 76 (.tmp 21) (.tmp 20) rfl w.heap.size (k * 2) #[.string p.k, .string p.v] rfl rfl hth infoPairS (by simp [Value.oneCell']) ?_))
      go_roundw
      case rel => exact ⟨k + 1, by omega, by go_num, HST.out _ HC1.out⟩
      case measure => simp [RowKit.intOf]; omega
    · have e : k = l.length := by omega
      subst e
      go_wp2
      go_ret
      exact ⟨rfl, hC⟩
theorem toPairS_u (v : Value) (l : List Pr) (w : World) (hv : Sl prC 2 w v l) (hl : l.length ≤ 1048576) :
    Calls Try.prog 51 #[v] w fun x w' => ∃ q, x = .returned (.slice (some ⟨q, 0, none⟩) l.length l.length) ∧ RowR prC 2 w.heap.size w'.heap.size w' (.slice (some ⟨q, 0, none⟩) l.length l.length) l ∧ Below w.heap.size w w' :=
  (toPairS_c v l w hv hl).mono fun x w' ⟨h1, h2⟩ => ⟨_, h1, h2.rr (by unfold maxLen; omega), h2.below⟩
theorem infoSessionS : (Try.prog.info? 78).map (·.size) = some 4 := by kernel_rfl
set_option maxHeartbeats 2000000 in
set_option maxRecDepth 100000 in
theorem toSession_any (p : Se) (w : World) :
    Calls Try.prog 77 #[.agg #[.int .i64 p.cl, .int .i64 p.sq, .int .i64 p.cd, .string p.v]] w fun x w' => x = .returned (.agg #[.int .i64 p.cl, .int .i64 p.sq, .int .i64 p.cd, .string p.v]) ∧ Below w.heap.size w w' := by
  go_enter Try.func77, Try.ntmps77
  go_wp2
  refine bodyPost_ret (v := .agg #[.int .i64 p.cl, .int .i64 p.sq, .int .i64 p.cd, .string p.v]) (by simp [results, Try.results77, go_sem]) rfl ⟨rfl, ?_⟩
  exact ((((Below.refl _ _).alloc (Nat.le_refl _) _).alloc (by simp) _).alloc (by simp; omega) _)
set_option maxHeartbeats 4000000 in
set_option maxRecDepth 100000 in
theorem toSessionS_c (v : Value) (l : List Se) (w : World) (hv : Sl seC 4 w v l) (hl' : l.length ≤ 1048576) :
    Calls Try.prog 52 #[v] w fun x w' => x = .returned (.slice (some ⟨w.heap.size, 0, none⟩) l.length l.length) ∧ CopiedG seC 4 w w' l l.length := by
  have HV : Hid (Sl seC 4 w v l) := hv
  obtain ⟨hl, a, cap, rfl, _⟩ := hv
  obtain ⟨i0, hi, hz0, hz1, hz2⟩ := info_parts infoSe
  have hmk : ∀ u : World, (Instr.makeSlice 27 (.int .i64 (l.length : Int)) (.int .i64 (l.length : Int))).run Try.prog u =
      .ok (.slice (some ⟨u.heap.size, 0, none⟩) l.length l.length) (u.alloc (.cells (madeCells #[.int .i64 0, .int .i64 0, .int .i64 0, .string ⟨#[]⟩] (l.length * 4)) 78)) := fun u => by
    have h := run_make (P := Try.prog) u 27 78 i0 _ Try.underlying27 hi hz0 .i64 .i64 (l.length : Int) (l.length : Int) (by omega) (Int.le_refl _) (by rw [hz2]; omega) (by omega)
    simpa [hz1, Value.cells] using h
  go_enter Try.func52, Try.ntmps52
  go_wp2
  go_loopw [4] (fun i wr => ∃ k : Nat, k ≤ l.length ∧ i = .int .i64 k ∧ CopiedG seC 4 w wr l k) (fun i _ => l.length - (RowKit.intOf i).toNat)
  case atStart => exact ⟨0, Nat.zero_le _, rfl, CopiedG.start _ _ w l _ _⟩
  case round =>
    obtain ⟨k, hk, rfl, hC⟩ := hrel
    by_cases hlt : k < l.length
    · obtain ⟨b, off, rfl, hj⟩ := Ss.at_ (HV.out.below hC.below) hlt
      obtain ⟨c0, c1, c2, c3⟩ := hj k hlt
      have hlt' : (k : Int) < (l.length : Int) := by omega
      have HC : Hid (CopiedG seC 4 w wr l k) := hC
      have HTO : Hid (∀ u, Calls Try.prog 77 #[.agg #[.int .i64 l[k].cl, .int .i64 l[k].sq, .int .i64 l[k].cd, .string l[k].v]] u fun x w' => x = .returned (.agg #[.int .i64 l[k].cl, .int .i64 l[k].sq, .int .i64 l[k].cd, .string l[k].v]) ∧ Below u.heap.size u w') := fun u => toSession_any l[k] u
      have HST : Hid (∀ u, CopiedG seC 4 w u l k → CopiedG seC 4 w (u.setCells w.heap.size (k * 4) [.int .i64 l[k].cl, .int .i64 l[k].sq, .int .i64 l[k].cd, .string l[k].v]) l (k + 1)) := fun u h => h.step hlt (fun _ => rfl)
      have hzz := hC.below.size
      have hws := hC.size
      clear hj hC
      generalize l[k] = p at *
      go_wp2_with (first
        | (go_at_call 77; refine (HTO.out _).mono ?_; rintro x w1 ⟨rfl, hb⟩; have HC1 : Hid (CopiedG seC 4 w w1 l k) := HC.out.later hb; have hth := there_sub HC1.out.there (k * 4) 4 (row_le hlt (Nat.le_refl _)))
        | (have hBA := HC1; refine gate_st 78 (.tmp 21) (.tmp 20) rfl ?_; clear hBA; refine wpList_store_mid rfl 78 (.tmp 21) (.tmp 20) rfl w.heap.size (k * 4) #[.int .i64 p.cl, .int .i64 p.sq, .int .i64 p.cd, .string p.v] rfl rfl hth infoSessionS (by simp [Value.oneCell']) ?_))
      go_roundw
      case rel => exact ⟨k + 1, by omega, by go_num, HST.out _ HC1.out⟩
      case measure => simp [RowKit.intOf]; omega
    · have e : k = l.length := by omega
      subst e
      go_wp2
      go_ret
      exact ⟨rfl, hC⟩
theorem toSessionS_u (v : Value) (l : List Se) (w : World) (hv : Sl seC 4 w v l) (hl : l.length ≤ 1048576) :
    Calls Try.prog 52 #[v] w fun x w' => ∃ q, x = .returned (.slice (some ⟨q, 0, none⟩) l.length l.length) ∧ RowR seC 4 w.heap.size w'.heap.size w' (.slice (some ⟨q, 0, none⟩) l.length l.length) l ∧ Below w.heap.size w w' :=
  (toSessionS_c v l w hv hl).mono fun x w' ⟨h1, h2⟩ => ⟨_, h1, h2.rr (by unfold maxLen; omega), h2.below⟩

end Go.Proofs.Ytelfejhopjbhpaa
