/-
  spec.l5session, spec.l5value, spec.l5sessionOk.
-/
import Derived.Test.YtnoihfincifphaaTbFit
import Derived.Test.YtnoihfincifphaaL1in
import Derived.Test.YtnoihfincifphaaBlk
namespace Go.Proofs.Ytnoihfincifphaa
open Go.RowKit Go.Maps
set_option linter.unusedVariables false
set_option linter.unusedSimpArgs false

theorem find_here {α : Type} (p : α → Bool) (l : List α) (k : Nat) (h : k < l.length) (hn : ∀ x ∈ l.take k, p x = false) (hp : p l[k] = true) : l.find? p = some l[k] := by
  have e : l = l.take k ++ l[k] :: l.drop (k + 1) := by rw [← List.drop_eq_getElem_cons h, List.take_append_drop]
  have h1 : (l.take k).find? p = none := List.find?_eq_none.2 fun x hx => by rw [hn x hx]; simp
  have h2 : (l.take k ++ l[k] :: l.drop (k + 1)).find? p = some l[k] := by
    rw [List.find?_append, h1, List.find?_cons, hp]; rfl
  rwa [← e] at h2
theorem not_take {α : Type} {p : α → Bool} {l : List α} {k : Nat} (hn : ∀ x ∈ l.take k, p x = false) (h : k < l.length) (hp : p l[k] = false) : ∀ x ∈ l.take (k + 1), p x = false := by
  rw [List.take_succ_eq_append_getElem h]
  intro x hx
  rcases List.mem_append.1 hx with hx | hx
  · exact hn x hx
  · rw [List.mem_singleton.1 hx]; exact hp

set_option maxHeartbeats 4000000 in
set_option maxRecDepth 100000 in
theorem l5session_any (v u : Value) (ss : List Se) (cl : Int) (w : World) (hv : ∃ a n cap, v = .slice a n cap) (hu : Ss w u ss) (hm : ss.length ≤ 1048576) :
    Calls Try.prog 71 #[.agg #[v, u], .int .i64 cl] w fun e w' => e = .returned (.agg #[.int .i64 (sesOf ss cl).cl, .int .i64 (sesOf ss cl).sq, .int .i64 (sesOf ss cl).cd, .string (sesOf ss cl).v]) ∧ Below w.heap.size w w' := by
  obtain ⟨a, n, cap, rfl⟩ := hv
  obtain ⟨a2, cap2, rfl⟩ : ∃ a cap, u = .slice a ss.length cap := by obtain ⟨_, a, cap, e, _⟩ := hu; exact ⟨a, cap, e⟩
  have HU : Hid (Ss w (.slice a2 ss.length cap2) ss) := hu
  clear hu
  have HB : Hid (Below w.heap.size w ((w.alloc (.cells #[.slice a n cap, .slice a2 ss.length cap2] 42)).alloc (.cells #[.int .i64 0, .int .i64 0, .int .i64 0, .string ⟨#[]⟩] 120))) := ((Below.refl _ _).alloc (Nat.le_refl _) _).alloc (by simp) _
  go_enter Try.func71, Try.ntmps71
  go_wp2
  go_loopw [5] (fun i wr => ∃ k : Nat, k ≤ ss.length ∧ i = .int .i64 k ∧ (∀ x ∈ ss.take k, (x.cl == cl) = false) ∧ wr = ((w.alloc (.cells #[.slice a n cap, .slice a2 ss.length cap2] 42)).alloc (.cells #[.int .i64 0, .int .i64 0, .int .i64 0, .string ⟨#[]⟩] 120))) (fun i _ => ss.length - (RowKit.intOf i).toNat)
  case atStart => exact ⟨0, Nat.zero_le _, rfl, by simp, rfl⟩
  case round =>
    obtain ⟨k, hk, rfl, hx, rfl⟩ := hrel
    have HX : Hid (∀ x ∈ ss.take k, (x.cl == cl) = false) := hx
    clear hx
    by_cases hlt : k < ss.length
    · obtain ⟨b, off, rfl, hj⟩ := Ss.at_ (HU.out.below HB.out) hlt
      obtain ⟨c0, c1, c2, c3⟩ := hj k hlt
      cases he : (ss[k].cl == cl)
      · have HN : Hid (∀ x ∈ ss.take (k + 1), (x.cl == cl) = false) := not_take (p := fun s : Se => s.cl == cl) HX.out hlt he
        clear hj
        generalize ss[k] = p at *
        go_wp2
        go_roundw
        case rel => exact ⟨k + 1, by omega, by go_num, HN.out, trivial⟩
        case measure => simp [RowKit.intOf]; omega
      · have HR : Hid (sesOf ss cl = ss[k]) := by
          show _ = _
          unfold sesOf; rw [find_here (fun s : Se => s.cl == cl) ss k hlt HX.out he]; rfl
        clear hj
        generalize ss[k] = p at *
        go_wp2
        refine bodyPost_ret (v := .agg #[.int .i64 p.cl, .int .i64 p.sq, .int .i64 p.cd, .string p.v]) (by simp [results, Try.results71, go_sem, *]) rfl ⟨by rw [HR.out] <;> rfl, ?_⟩
        exact ((Below.refl _ _).alloc (Nat.le_refl _) _).alloc (by simp) _
    · have HR : Hid (sesOf ss cl = ⟨0, 0, 0, tx0⟩) := by
        show _ = _
        have h := HX.out
        rw [List.take_of_length_le (by omega)] at h
        unfold sesOf
        rw [List.find?_eq_none.2 fun x hx => by rw [h x hx]; simp]; rfl
      go_wp2
      refine bodyPost_ret (v := .agg #[.int .i64 0, .int .i64 0, .int .i64 0, .string ⟨#[]⟩]) (by simp [results, Try.results71, go_sem, *]) rfl ⟨by rw [HR.out] <;> rfl, ?_⟩
      exact ((Below.refl _ _).alloc (Nat.le_refl _) _).alloc (by simp) _

set_option maxHeartbeats 4000000 in
set_option maxRecDepth 100000 in
theorem l5value_any (v u : Value) (ps : List Pr) (key : ByteArray) (w : World) (hv : Ps w v ps) (hu : ∃ a n cap, u = .slice a n cap) (hm : ps.length ≤ 1048576) :
    Calls Try.prog 72 #[.agg #[v, u], .string key] w fun e w' => e = .returned (.tuple #[.string ((ps.find? fun p => decide (p.k = key)).elim ⟨#[]⟩ Pr.v), .bool (ps.find? fun p => decide (p.k = key)).isSome]) ∧ Below w.heap.size w w' := by
  obtain ⟨a2, n2, cap2, rfl⟩ := hu
  obtain ⟨a, cap, rfl⟩ : ∃ a cap, v = .slice a ps.length cap := by obtain ⟨_, a, cap, e, _⟩ := hv; exact ⟨a, cap, e⟩
  have HV : Hid (Ps w (.slice a ps.length cap) ps) := hv
  clear hv
  have HB : Hid (Below w.heap.size w (w.alloc (.cells #[.slice a ps.length cap, .slice a2 n2 cap2] 42))) := (Below.refl _ _).alloc (Nat.le_refl _) _
  go_enter Try.func72, Try.ntmps72
  go_wp2
  go_loopw [6] (fun i wr => ∃ k : Nat, k ≤ ps.length ∧ i = .int .i64 k ∧ (∀ x ∈ ps.take k, decide (x.k = key) = false) ∧ wr = w.alloc (.cells #[.slice a ps.length cap, .slice a2 n2 cap2] 42)) (fun i _ => ps.length - (RowKit.intOf i).toNat)
  case atStart => exact ⟨0, Nat.zero_le _, rfl, by simp, rfl⟩
  case round =>
    obtain ⟨k, hk, rfl, hx, rfl⟩ := hrel
    have HX : Hid (∀ x ∈ ps.take k, decide (x.k = key) = false) := hx
    clear hx
    by_cases hlt : k < ps.length
    · obtain ⟨b, off, rfl, hj⟩ := Ps.at_ (HV.out.below HB.out) hlt
      obtain ⟨c0, c1⟩ := hj k hlt
      by_cases he : ps[k].k = key
      · have HR : Hid ((ps.find? fun p => decide (p.k = key)) = some ps[k]) := find_here (fun p : Pr => decide (p.k = key)) ps k hlt HX.out (by simpa using he)
        have hq : (ps[k].k.toList == key.toList) = true := by rw [he]; simp
        clear hj he
        generalize ps[k] = p at *
        go_wp2
        refine bodyPost_ret (v := .tuple #[.string p.v, .bool true]) (by simp [results, Try.results72, go_sem, *]) rfl ⟨by rw [HR.out] <;> rfl, HB.out⟩
      · have HN : Hid (∀ x ∈ ps.take (k + 1), decide (x.k = key) = false) := not_take (p := fun p : Pr => decide (p.k = key)) HX.out hlt (by simpa using he)
        have hq : (ps[k].k.toList == key.toList) = false := by
          rw [ByteArray.toList_eq, ByteArray.toList_eq, beq_eq_false_iff_ne]
          exact fun h => he (WideShapes.bytes_inj h)
        clear hj he
        generalize ps[k] = p at *
        go_wp2
        go_roundw
        case rel => exact ⟨k + 1, by omega, by go_num, HN.out, trivial⟩
        case measure => simp [RowKit.intOf]; omega
    · have HR : Hid ((ps.find? fun p => decide (p.k = key)) = none) := by
        show _ = _
        have h := HX.out
        rw [List.take_of_length_le (by omega)] at h
        rw [List.find?_eq_none.2 fun x hx => by rw [h x hx]; simp]
      go_wp2
      refine bodyPost_ret (v := .tuple #[.string ⟨#[]⟩, .bool false]) (by simp [results, Try.results72, go_sem, *]) rfl ⟨by rw [HR.out] <;> rfl, HB.out⟩

set_option maxHeartbeats 4000000 in
theorem l5sessionOk_any (s : Se) (hs : s.v.size ≤ 1048576) (w : World) :
    Calls Try.prog 89 #[.agg #[.int .i64 s.cl, .int .i64 s.sq, .int .i64 s.cd, .string s.v]] w fun e w' => Says (SeOk s) e ∧ Below w.heap.size w w' := by
  cases h0 : inB s.cl 1 8
  · have HN : Hid (¬ SeOk s) := fun h => by rw [(inB_iff _ _ _).2 h.1] at h0; cases h0
    go_enter Try.func89, Try.ntmps89
    go_wp2_with (go_at_call 70; refine (l1in_any _ _ _ _).mono ?_; rintro r w' ⟨rfl, rfl⟩)
    go_ret
    exact ⟨.no HN.out, (Below.refl _ _).alloc (Nat.le_refl _) _⟩
  · cases h1 : inB s.sq 1 1073741824
    · have HN : Hid (¬ SeOk s) := fun h => by rw [(inB_iff _ _ _).2 h.2.1] at h1; cases h1
      go_enter Try.func89, Try.ntmps89
      go_wp2_with (go_at_call 70; refine (l1in_any _ _ _ _).mono ?_; rintro r w' ⟨rfl, rfl⟩)
      go_ret
      exact ⟨.no HN.out, (Below.refl _ _).alloc (Nat.le_refl _) _⟩
    · cases h2 : inB s.cd 1 4
      · have HN : Hid (¬ SeOk s) := fun h => by rw [(inB_iff _ _ _).2 h.2.2.1] at h2; cases h2
        go_enter Try.func89, Try.ntmps89
        go_wp2_with (go_at_call 70; refine (l1in_any _ _ _ _).mono ?_; rintro r w' ⟨rfl, rfl⟩)
        go_ret
        exact ⟨.no HN.out, (Below.refl _ _).alloc (Nat.le_refl _) _⟩
      · by_cases h3 : s.v.size ≤ 64
        · have HN : Hid (SeOk s) := ⟨(inB_iff _ _ _).1 h0, (inB_iff _ _ _).1 h1, (inB_iff _ _ _).1 h2, h3⟩
          have hd : decide ((s.v.size : Int) ≤ 64) = true := by simp; omega
          go_enter Try.func89, Try.ntmps89
          go_wp2_with (go_at_call 70; refine (l1in_any _ _ _ _).mono ?_; rintro r w' ⟨rfl, rfl⟩)
          go_ret
          refine ⟨?_, (Below.refl _ _).alloc (Nat.le_refl _) _⟩
          go_light
          first | exact .yes HN.out | (rw [hd]; exact .yes HN.out) | (simp only [hd]; exact .yes HN.out)
        · have HN : Hid (¬ SeOk s) := fun h => h3 h.2.2.2
          have hd : decide ((s.v.size : Int) ≤ 64) = false := by simp; omega
          go_enter Try.func89, Try.ntmps89
          go_wp2_with (go_at_call 70; refine (l1in_any _ _ _ _).mono ?_; rintro r w' ⟨rfl, rfl⟩)
          go_ret
          refine ⟨?_, (Below.refl _ _).alloc (Nat.le_refl _) _⟩
          go_light
          first | exact .no HN.out | (rw [hd]; exact .no HN.out) | (simp only [hd]; exact .no HN.out)
end Go.Proofs.Ytnoihfincifphaa
