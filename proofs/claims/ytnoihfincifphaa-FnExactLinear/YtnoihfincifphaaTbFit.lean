/-
  impl.tableFits.
-/
import Derived.Test.YtnoihfincifphaaTbBase
import Derived.Test.YtnoihfincifphaaGround
import Derived.Laws.Cover1
namespace Go.Proofs.Ytnoihfincifphaa
open Go.RowKit Go.Maps
set_option linter.unusedVariables false
set_option linter.unusedSimpArgs false

/-- the answer is true just where P holds -/
def Says (P : Prop) (e : Ending) : Prop := ∃ c : Bool, e = .returned (.bool c) ∧ (c = true ↔ P)
theorem Says.yes {P : Prop} (h : P) : Says P (.returned (.bool true)) := ⟨true, rfl, by simp [h]⟩
theorem Says.no {P : Prop} (h : ¬ P) : Says P (.returned (.bool false)) := ⟨false, rfl, by simp [h]⟩
theorem Says.bool {P : Prop} {e : Ending} (h : Says P e) : (P ∧ e = .returned (.bool true)) ∨ (¬ P ∧ e = .returned (.bool false)) := by
  obtain ⟨c, rfl, h⟩ := h
  cases c
  · exact .inr ⟨by simpa using h, rfl⟩
  · exact .inl ⟨by simpa using h, rfl⟩

/-- the key of the last pair; none: the empty text -/
def lastK (l : List Pr) : ByteArray := (l.getLast?.map (·.k)).getD tx0
theorem lastK_snoc (l : List Pr) (p : Pr) : lastK (l ++ [p]) = p.k := by simp [lastK]
structure PsL (l : List Pr) : Prop where
  all : ∀ p ∈ l, PrOk p
  rise : KRise prK l
theorem PsL.nil : PsL [] := ⟨by simp, .nil⟩
theorem PsL.take {l : List Pr} (h : PsL l) (k : Nat) : PsL (l.take k) := ⟨fun p hp => h.all p (List.mem_of_mem_take hp), h.rise.sublist (List.take_sublist k l)⟩
theorem tx0_before (b : ByteArray) : txB tx0 b = decide (0 < b.size) := by
  unfold txB txK tx0
  show bytesBefore [] b.data.toList = _
  cases e : b.data.toList with
  | nil => have : b.size = 0 := by rw [← ByteArray.size_data, ← Array.length_toList, e]; rfl
           simp [bytesBefore, this]
  | cons x r => have : b.size = r.length + 1 := by rw [← ByteArray.size_data, ← Array.length_toList, e]; rfl
                simp [bytesBefore, this]
theorem fitP_step (l : List Pr) (p : Pr) (h : PsL l) : PsL (l ++ [p]) ↔ txB (lastK l) p.k = true ∧ p.k.size ≤ 64 ∧ p.v.size ≤ 64 := by
  rcases List.eq_nil_or_concat l with rfl | ⟨r, q, rfl⟩
  · have : lastK [] = tx0 := rfl
    rw [this, tx0_before]
    constructor
    · intro h1
      obtain ⟨a, b, c⟩ := h1.all p (by simp)
      exact ⟨by simp; omega, b, c⟩
    · rintro ⟨a, b, c⟩
      refine ⟨fun q hq => ?_, List.pairwise_singleton _ _⟩
      rw [List.nil_append, List.mem_singleton] at hq
      subst hq
      have a' : 0 < q.k.size := by simpa using a
      exact ⟨a', b, c⟩
  · rw [List.concat_eq_append] at h ⊢
    rw [lastK_snoc]
    constructor
    · intro h1
      obtain ⟨a, b, c⟩ := h1.all p (by simp)
      exact ⟨(List.pairwise_append.1 h1.rise).2.2 q (by simp) p (by simp), b, c⟩
    · rintro ⟨a, b, c⟩
      have hr : ∀ x ∈ r ++ [q], (prK x).before (prK p) = true := fun x hx => by
        rcases List.mem_append.1 hx with hx | hx
        · exact prOrd.trans _ _ _ ((List.pairwise_append.1 h.rise).2.2 x hx q (by simp)) a
        · rw [List.mem_singleton.1 hx]; exact a
      refine ⟨fun x hx => ?_, List.pairwise_append.2 ⟨h.rise, List.pairwise_singleton _ _, fun x hx y hy => by rw [List.mem_singleton.1 hy]; exact hr x hx⟩⟩
      rcases List.mem_append.1 hx with hx | hx
      · exact h.all x hx
      · rw [List.mem_singleton.1 hx]
        refine ⟨?_, b, c⟩
        have h0 : txB tx0 p.k = true := by
          cases hb : txB tx0 p.k
          · rw [tx0_before] at hb
            have e0 : p.k.size = 0 := by simpa using hb
            have e1 : p.k = tx0 := ByteArray.ext (by apply Array.ext'; apply List.eq_nil_of_length_eq_zero; simpa using e0)
            have a' : txB q.k p.k = true := a
            have h2 := (h.all q (by simp)).1
            have h3 : txB tx0 q.k = true := by rw [tx0_before]; simp; omega
            rw [e1] at a'
            have := txOrd.asym q.k tx0 a'
            unfold txB at h3
            rw [this] at h3; cases h3
          · rfl
        rw [tx0_before] at h0
        have h0' : 0 < p.k.size := by simpa using h0
        exact h0'
theorem leq_tx (a b : ByteArray) : (Op.bytesLess a.toList b.toList || a.toList == b.toList) = !txB b a := by
  rw [less_tx]
  cases h : txB b a
  · by_cases e : a = b
    · subst e; simp
    · cases h' : txB a b
      · exact absurd (txK_inj (txOrd.total a b h' h)) e
      · simp
  · have h1 : txB a b = false := txOrd.asym b a h
    have h2 : ¬ a = b := by rintro rfl; unfold txB at h; rw [txOrd.irr] at h; cases h
    rw [h1, ByteArray.toList_eq, ByteArray.toList_eq]
    simp only [Bool.false_or, Bool.not_true, beq_eq_false_iff_ne]
    exact fun e => h2 (WideShapes.bytes_inj e)

set_option maxHeartbeats 4000000 in
set_option maxRecDepth 100000 in
theorem pairsFit_any (v : Value) (ps : List Pr) (w : World) (hv : Ps w v ps) (ht : ∀ p ∈ ps, p.k.size ≤ 1048576 ∧ p.v.size ≤ 1048576) (hn : ps.length ≤ 1048576) :
    Calls Try.prog 92 #[v] w fun e w' => Says (PsOk ps) e ∧ Below w.heap.size w w' := by
  obtain ⟨a, cap, rfl⟩ : ∃ a cap, v = .slice a ps.length cap := by obtain ⟨_, a, cap, e, _⟩ := hv; exact ⟨a, cap, e⟩
  have HV : Hid (Ps w (.slice a ps.length cap) ps) := hv
  clear hv
  by_cases h256 : ps.length ≤ 256
  · go_enter Try.func92, Try.ntmps92
    go_wp2
    go_loopw [3, 11] (fun x i wr => ∃ k : Nat, k ≤ ps.length ∧ i = .int .i64 k ∧ x = .string (lastK (ps.take k)) ∧ PsL (ps.take k) ∧ Below w.heap.size w wr) (fun _ i _ => ps.length - (RowKit.intOf i).toNat)
    case atStart => exact ⟨0, Nat.zero_le _, rfl, rfl, .nil, Below.refl _ _⟩
    case round =>
      obtain ⟨k, hk, rfl, rfl, hL, hB⟩ := hrel
      have HB : Hid (Below w.heap.size w wr) := hB
      have HL : Hid (PsL (ps.take k)) := hL
      clear hL hB
      by_cases hlt : k < ps.length
      · obtain ⟨b, off, rfl, hj⟩ := Ps.at_ (HV.out.below HB.out) hlt
        obtain ⟨c0, c1⟩ := hj k hlt
        obtain ⟨z0, z1⟩ := ht _ (List.getElem_mem hlt)
        have HT : Hid (ps.take (k + 1) = ps.take k ++ [ps[k]]) := List.take_succ_eq_append_getElem hlt
        clear hj ht
        generalize ps[k] = p at *
        have HS : Hid (PsL (ps.take (k + 1)) ↔ txB (lastK (ps.take k)) p.k = true ∧ p.k.size ≤ 64 ∧ p.v.size ≤ 64) := by
          show _ ↔ _
          rw [HT.out]; exact fitP_step _ _ HL.out
        have HLK : Hid (lastK (ps.take (k + 1)) = p.k) := by
          show _ = _
          rw [HT.out, lastK_snoc]
        generalize lastK (ps.take k) = last at *
        cases h1 : txB last p.k
        · have hq : (Op.bytesLess p.k.toList last.toList || p.k.toList == last.toList) = true := by rw [leq_tx, h1]; rfl
          have HN : Hid (¬ PsOk ps) := fun h => by
            have h2 := HS.out.1 (PsL.take ⟨h.all, h.rise⟩ _)
            rw [h1] at h2; cases h2.1
          go_wp2
          go_ret
          exact ⟨.no HN.out, HB.out.alloc HB.out.size _⟩
        · have hq : (Op.bytesLess p.k.toList last.toList || p.k.toList == last.toList) = false := by rw [leq_tx, h1]; rfl
          by_cases h2 : p.k.size ≤ 64
          · by_cases h3 : p.v.size ≤ 64
            · have HN : Hid (PsL (ps.take (k + 1))) := HS.out.2 ⟨h1, h2, h3⟩
              go_wp2
              go_roundw
              case rel => exact ⟨k + 1, by omega, by go_num, by rw [HLK.out], HN.out, HB.out.alloc HB.out.size _⟩
              case measure => simp [RowKit.intOf]; omega
            · have HN : Hid (¬ PsOk ps) := fun h => h3 (HS.out.1 (PsL.take ⟨h.all, h.rise⟩ _)).2.2
              go_wp2
              go_ret
              exact ⟨.no HN.out, HB.out.alloc HB.out.size _⟩
          · have HN : Hid (¬ PsOk ps) := fun h => h2 (HS.out.1 (PsL.take ⟨h.all, h.rise⟩ _)).2.1
            go_wp2
            go_ret
            exact ⟨.no HN.out, HB.out.alloc HB.out.size _⟩
      · have HN : Hid (PsOk ps) := by
          have h := HL.out
          rw [List.take_of_length_le (by omega)] at h
          exact ⟨h256, h.all, h.rise⟩
        go_wp2
        go_ret
        exact ⟨.yes HN.out, HB.out⟩
  · go_enter Try.func92, Try.ntmps92
    go_wp2
    go_ret
    exact ⟨.no fun h => h256 h.len, Below.refl _ _⟩

/-! ### sessions -/
structure SsL (l : List Se) : Prop where
  all : ∀ s ∈ l, SeOk s
  rise : KRise seK l
theorem SsL.nil : SsL [] := ⟨by simp, .nil⟩
theorem SsL.take {l : List Se} (h : SsL l) (k : Nat) : SsL (l.take k) := ⟨fun p hp => h.all p (List.mem_of_mem_take hp), h.rise.sublist (List.take_sublist k l)⟩
def lastC (l : List Se) : Int := (l.getLast?.map (·.cl)).getD 0
theorem lastC_snoc (l : List Se) (p : Se) : lastC (l ++ [p]) = p.cl := by simp [lastC]
theorem seK_lt {a b : Se} : (seK a).before (seK b) = true ↔ a.cl < b.cl := by
  show decide (a.cl < b.cl) = true ↔ _
  simp
def SeFit (s : Se) : Prop := (1 ≤ s.sq ∧ s.sq ≤ 1073741824) ∧ (1 ≤ s.cd ∧ s.cd ≤ 4) ∧ s.v.size ≤ 64
theorem lastC_range {l : List Se} (h : SsL l) : 0 ≤ lastC l ∧ lastC l ≤ 8 := by
  rcases List.eq_nil_or_concat l with rfl | ⟨r, q, rfl⟩
  · exact ⟨by decide, by decide⟩
  · rw [List.concat_eq_append] at h ⊢
    rw [lastC_snoc]
    have := (h.all q (by simp)).1
    omega
theorem fitS_step (l : List Se) (p : Se) (h : SsL l) : SsL (l ++ [p]) ↔ (lastC l + 1 ≤ p.cl ∧ p.cl ≤ 8) ∧ SeFit p := by
  rcases List.eq_nil_or_concat l with rfl | ⟨r, q, rfl⟩
  · have : lastC [] = 0 := rfl
    rw [this]
    constructor
    · intro h1
      obtain ⟨a, b⟩ := h1.all p (by simp)
      exact ⟨by omega, b⟩
    · rintro ⟨a, b⟩
      refine ⟨fun q hq => ?_, List.pairwise_singleton _ _⟩
      rw [List.nil_append, List.mem_singleton] at hq
      subst hq
      exact ⟨by omega, b⟩
  · rw [List.concat_eq_append] at h ⊢
    rw [lastC_snoc]
    have hq := (h.all q (by simp)).1
    constructor
    · intro h1
      obtain ⟨a, b⟩ := h1.all p (by simp)
      have := seK_lt.1 ((List.pairwise_append.1 h1.rise).2.2 q (by simp) p (by simp))
      exact ⟨by omega, b⟩
    · rintro ⟨a, b⟩
      have hqp : (seK q).before (seK p) = true := seK_lt.2 (by omega)
      have hr : ∀ x ∈ r ++ [q], (seK x).before (seK p) = true := fun x hx => by
        rcases List.mem_append.1 hx with hx | hx
        · exact seOrd.trans _ _ _ ((List.pairwise_append.1 h.rise).2.2 x hx q (by simp)) hqp
        · rw [List.mem_singleton.1 hx]; exact hqp
      refine ⟨fun x hx => ?_, List.pairwise_append.2 ⟨h.rise, List.pairwise_singleton _ _, fun x hx y hy => by rw [List.mem_singleton.1 hy]; exact hr x hx⟩⟩
      rcases List.mem_append.1 hx with hx | hx
      · exact h.all x hx
      · rw [List.mem_singleton.1 hx]
        exact ⟨by omega, b⟩
theorem SsOk.l {l : List Se} (h : SsOk l) : SsL l := ⟨h.all, h.rise⟩

set_option maxHeartbeats 4000000 in
theorem sessionFits_any (s : Se) (hs : s.v.size ≤ 1048576) (w : World) :
    Calls Try.prog 105 #[.agg #[.int .i64 s.cl, .int .i64 s.sq, .int .i64 s.cd, .string s.v]] w fun e w' => Says (SeFit s) e ∧ Below w.heap.size w w' := by
  cases h1 : inB s.sq 1 1073741824
  · have HN : Hid (¬ SeFit s) := fun h => by rw [(inB_iff _ _ _).2 h.1] at h1; cases h1
    go_enter Try.func105, Try.ntmps105
    go_wp2_with (go_at_call 78; refine (within_any _ _ _ _).mono ?_; rintro r w' ⟨rfl, rfl⟩)
    go_ret
    exact ⟨.no HN.out, (Below.refl _ _).alloc (Nat.le_refl _) _⟩
  · cases h2 : inB s.cd 1 4
    · have HN : Hid (¬ SeFit s) := fun h => by rw [(inB_iff _ _ _).2 h.2.1] at h2; cases h2
      go_enter Try.func105, Try.ntmps105
      go_wp2_with (go_at_call 78; refine (within_any _ _ _ _).mono ?_; rintro r w' ⟨rfl, rfl⟩)
      go_ret
      exact ⟨.no HN.out, (Below.refl _ _).alloc (Nat.le_refl _) _⟩
    · by_cases h3 : s.v.size ≤ 64
      · have HN : Hid (SeFit s) := ⟨(inB_iff _ _ _).1 h1, (inB_iff _ _ _).1 h2, h3⟩
        have hd : decide ((s.v.size : Int) ≤ 64) = true := by simp; omega
        go_enter Try.func105, Try.ntmps105
        go_wp2_with (go_at_call 78; refine (within_any _ _ _ _).mono ?_; rintro r w' ⟨rfl, rfl⟩)
        go_ret
        refine ⟨?_, (Below.refl _ _).alloc (Nat.le_refl _) _⟩
        go_light
        first | exact .yes HN.out | (rw [hd]; exact .yes HN.out) | (simp only [hd]; exact .yes HN.out)
      · have HN : Hid (¬ SeFit s) := fun h => h3 h.2.2
        have hd : decide ((s.v.size : Int) ≤ 64) = false := by simp; omega
        go_enter Try.func105, Try.ntmps105
        go_wp2_with (go_at_call 78; refine (within_any _ _ _ _).mono ?_; rintro r w' ⟨rfl, rfl⟩)
        go_ret
        refine ⟨?_, (Below.refl _ _).alloc (Nat.le_refl _) _⟩
        go_light
        first | exact .no HN.out | (rw [hd]; exact .no HN.out) | (simp only [hd]; exact .no HN.out)

set_option maxHeartbeats 4000000 in
set_option maxRecDepth 100000 in
theorem sessionsFit_any (v : Value) (ss : List Se) (w : World) (hv : Ss w v ss) (ht : ∀ p ∈ ss, p.v.size ≤ 1048576) (hn : ss.length ≤ 1048576) :
    Calls Try.prog 93 #[v] w fun e w' => Says (SsOk ss) e ∧ Below w.heap.size w w' := by
  obtain ⟨a, cap, rfl⟩ : ∃ a cap, v = .slice a ss.length cap := by obtain ⟨_, a, cap, e, _⟩ := hv; exact ⟨a, cap, e⟩
  have HV : Hid (Ss w (.slice a ss.length cap) ss) := hv
  clear hv
  go_enter Try.func93, Try.ntmps93
  go_wp2
  go_loopw [3, 8] (fun x i wr => ∃ k : Nat, k ≤ ss.length ∧ i = .int .i64 k ∧ x = .int .i64 (lastC (ss.take k)) ∧ SsL (ss.take k) ∧ Below w.heap.size w wr) (fun _ i _ => ss.length - (RowKit.intOf i).toNat)
  case atStart => exact ⟨0, Nat.zero_le _, rfl, rfl, .nil, Below.refl _ _⟩
  case round =>
    obtain ⟨k, hk, rfl, rfl, hL, hB⟩ := hrel
    have HB : Hid (Below w.heap.size w wr) := hB
    have HL : Hid (SsL (ss.take k)) := hL
    have hr := lastC_range hL
    clear hL hB
    by_cases hlt : k < ss.length
    · obtain ⟨b, off, rfl, hj⟩ := Ss.at_ (HV.out.below HB.out) hlt
      obtain ⟨c0, c1, c2, c3⟩ := hj k hlt
      have z1 := ht _ (List.getElem_mem hlt)
      have HT : Hid (ss.take (k + 1) = ss.take k ++ [ss[k]]) := List.take_succ_eq_append_getElem hlt
      clear hj ht
      generalize ss[k] = p at *
      have HS : Hid (SsL (ss.take (k + 1)) ↔ (lastC (ss.take k) + 1 ≤ p.cl ∧ p.cl ≤ 8) ∧ SeFit p) := by
        show _ ↔ _
        rw [HT.out]; exact fitS_step _ _ HL.out
      have HLK : Hid (lastC (ss.take (k + 1)) = p.cl) := by
        show _ = _
        rw [HT.out, lastC_snoc]
      have HF : Hid (∀ w', Calls Try.prog 105 #[.agg #[.int .i64 p.cl, .int .i64 p.sq, .int .i64 p.cd, .string p.v]] w' fun e w'' => Says (SeFit p) e ∧ Below w'.heap.size w' w'') := fun w' => sessionFits_any p z1 w'
      generalize lastC (ss.take k) = last at *
      cases h1 : inB p.cl (last + 1) 8
      · have HN : Hid (¬ SsOk ss) := fun h => by
          have h2 := (HS.out.1 (SsL.take h.l _)).1
          rw [(inB_iff _ _ _).2 h2] at h1; cases h1
        go_wp2_with (go_at_call 78; refine (within_any _ _ _ _).mono ?_; rintro r w' ⟨rfl, rfl⟩)
        go_ret
        exact ⟨.no HN.out, HB.out.alloc HB.out.size _⟩
      · by_cases h2 : SeFit p
        · have HN : Hid (SsL (ss.take (k + 1))) := HS.out.2 ⟨(inB_iff _ _ _).1 h1, h2⟩
          have HF2 : Hid (∀ w', Calls Try.prog 105 #[.agg #[.int .i64 p.cl, .int .i64 p.sq, .int .i64 p.cd, .string p.v]] w' fun e w'' => e = .returned (.bool true) ∧ Below w'.heap.size w' w'') := fun w' => (HF.out w').mono fun e w'' ⟨h, hb⟩ => ⟨by rcases h.bool with ⟨_, h⟩ | ⟨h, _⟩; exact h; exact absurd h2 h, hb⟩
          clear h2
          go_wp2_with (first
            | (go_at_call 78; refine (within_any _ _ _ _).mono ?_; rintro r w' ⟨rfl, rfl⟩)
            | (go_at_call 105; refine (HF2.out _).mono ?_; rintro r w1 ⟨rfl, hb1⟩; have q0 : w1.cell? ⟨wr.heap.size, 0, none⟩ = some (.int .i64 p.cl) := (hb1.cell (p := ⟨wr.heap.size, 0, none⟩) (by simp)).trans (by simp [go_sem]); have HB1 : Hid (Below _ _ w1) := hb1; clear hb1))
          go_roundw
          case rel => exact ⟨k + 1, by omega, by go_num, by rw [HLK.out], HN.out, (HB.out.alloc HB.out.size _).trans (HB1.out.mono (by have := HB.out.size; simp; omega))⟩
          case measure => simp [RowKit.intOf]; omega
        · have HN : Hid (¬ SsOk ss) := fun h => h2 (HS.out.1 (SsL.take h.l _)).2
          have HF2 : Hid (∀ w', Calls Try.prog 105 #[.agg #[.int .i64 p.cl, .int .i64 p.sq, .int .i64 p.cd, .string p.v]] w' fun e w'' => e = .returned (.bool false) ∧ Below w'.heap.size w' w'') := fun w' => (HF.out w').mono fun e w'' ⟨h, hb⟩ => ⟨by rcases h.bool with ⟨h, _⟩ | ⟨_, h⟩; exact absurd h h2; exact h, hb⟩
          clear h2
          go_wp2_with (first
            | (go_at_call 78; refine (within_any _ _ _ _).mono ?_; rintro r w' ⟨rfl, rfl⟩)
            | (go_at_call 105; refine (HF2.out _).mono ?_; rintro r w1 ⟨rfl, hb1⟩; have HB1 : Hid (Below _ _ w1) := hb1; clear hb1))
          go_ret
          exact ⟨.no HN.out, (HB.out.alloc HB.out.size _).trans (HB1.out.mono (by have := HB.out.size; simp; omega))⟩
    · have HN : Hid (SsOk ss) := by
        have h := HL.out
        rw [List.take_of_length_le (by omega)] at h
        exact ⟨h.all, h.rise⟩
      go_wp2
      go_ret
      exact ⟨.yes HN.out, HB.out⟩

set_option maxHeartbeats 4000000 in
theorem tableFits_any (v u : Value) (ps : List Pr) (ss : List Se) (w : World) (hv : Ps w v ps) (hu : Ss w u ss) (ht : ∀ p ∈ ps, p.k.size ≤ 1048576 ∧ p.v.size ≤ 1048576) (hs : ∀ p ∈ ss, p.v.size ≤ 1048576) (hn : ps.length ≤ 1048576) (hm : ss.length ≤ 1048576) :
    Calls Try.prog 69 #[.agg #[v, u]] w fun e w' => Says (PsOk ps ∧ SsOk ss) e ∧ Below w.heap.size w w' := by
  obtain ⟨a, cap, rfl⟩ : ∃ a cap, v = .slice a ps.length cap := by obtain ⟨_, a, cap, e, _⟩ := hv; exact ⟨a, cap, e⟩
  obtain ⟨a2, cap2, rfl⟩ : ∃ a cap, u = .slice a ss.length cap := by obtain ⟨_, a, cap, e, _⟩ := hu; exact ⟨a, cap, e⟩
  have HP : Hid (∀ w', Below w.heap.size w w' → Calls Try.prog 92 #[.slice a ps.length cap] w' fun e w'' => Says (PsOk ps) e ∧ Below w'.heap.size w' w'') := fun w' hb => pairsFit_any _ ps w' (hv.below hb) ht hn
  have HS : Hid (∀ w', Below w.heap.size w w' → Calls Try.prog 93 #[.slice a2 ss.length cap2] w' fun e w'' => Says (SsOk ss) e ∧ Below w'.heap.size w' w'') := fun w' hb => sessionsFit_any _ ss w' (hu.below hb) hs hm
  have hb0 : Hid (Below w.heap.size w (w.alloc (.cells #[.slice a ps.length cap, .slice a2 ss.length cap2] 42))) := (Below.refl _ _).alloc (Nat.le_refl _) _
  clear hv hu ht hs
  by_cases h1 : PsOk ps
  · have H1 : Hid (∀ w', Below w.heap.size w w' → Calls Try.prog 92 #[.slice a ps.length cap] w' fun e w'' => e = .returned (.bool true) ∧ Below w'.heap.size w' w'') := fun w' hb => (HP.out w' hb).mono fun e w'' ⟨h, hb⟩ => ⟨by rcases h.bool with ⟨_, h⟩ | ⟨h, _⟩; exact h; exact absurd h1 h, hb⟩
    by_cases h2 : SsOk ss
    · have H2 : Hid (∀ w', Below w.heap.size w w' → Calls Try.prog 93 #[.slice a2 ss.length cap2] w' fun e w'' => e = .returned (.bool true) ∧ Below w'.heap.size w' w'') := fun w' hb => (HS.out w' hb).mono fun e w'' ⟨h, hb⟩ => ⟨by rcases h.bool with ⟨_, h⟩ | ⟨h, _⟩; exact h; exact absurd h2 h, hb⟩
      have HN : Hid (PsOk ps ∧ SsOk ss) := ⟨h1, h2⟩
      clear h1 h2
      go_enter Try.func69, Try.ntmps69
      go_wp2_with (first
        | (go_at_call 92; refine (H1.out _ hb0.out).mono ?_; rintro r w1 ⟨rfl, hb1⟩; have HB1 : Hid (Below w.heap.size w w1) := hb0.out.trans (hb1.mono (by simp)); have q1 : w1.cell? ⟨w.heap.size, 1, none⟩ = some (.slice a2 ss.length cap2) := (hb1.cell (p := ⟨w.heap.size, 1, none⟩) (by simp)).trans (by simp [go_sem]); clear hb1)
        | (go_at_call 93; refine (H2.out _ HB1.out).mono ?_; rintro r w2 ⟨rfl, hb2⟩; have HB2 : Hid (Below w.heap.size w w2) := HB1.out.trans (hb2.mono HB1.out.size); clear hb2))
      go_ret
      exact ⟨.yes HN.out, HB2.out⟩
    · have H2 : Hid (∀ w', Below w.heap.size w w' → Calls Try.prog 93 #[.slice a2 ss.length cap2] w' fun e w'' => e = .returned (.bool false) ∧ Below w'.heap.size w' w'') := fun w' hb => (HS.out w' hb).mono fun e w'' ⟨h, hb⟩ => ⟨by rcases h.bool with ⟨h, _⟩ | ⟨_, h⟩; exact absurd h h2; exact h, hb⟩
      have HN : Hid (¬ (PsOk ps ∧ SsOk ss)) := fun h => h2 h.2
      clear h1 h2
      go_enter Try.func69, Try.ntmps69
      go_wp2_with (first
        | (go_at_call 92; refine (H1.out _ hb0.out).mono ?_; rintro r w1 ⟨rfl, hb1⟩; have HB1 : Hid (Below w.heap.size w w1) := hb0.out.trans (hb1.mono (by simp)); have q1 : w1.cell? ⟨w.heap.size, 1, none⟩ = some (.slice a2 ss.length cap2) := (hb1.cell (p := ⟨w.heap.size, 1, none⟩) (by simp)).trans (by simp [go_sem]); clear hb1)
        | (go_at_call 93; refine (H2.out _ HB1.out).mono ?_; rintro r w2 ⟨rfl, hb2⟩; have HB2 : Hid (Below w.heap.size w w2) := HB1.out.trans (hb2.mono HB1.out.size); clear hb2))
      go_ret
      exact ⟨.no HN.out, HB2.out⟩
  · have H1 : Hid (∀ w', Below w.heap.size w w' → Calls Try.prog 92 #[.slice a ps.length cap] w' fun e w'' => e = .returned (.bool false) ∧ Below w'.heap.size w' w'') := fun w' hb => (HP.out w' hb).mono fun e w'' ⟨h, hb⟩ => ⟨by rcases h.bool with ⟨h, _⟩ | ⟨_, h⟩; exact absurd h h1; exact h, hb⟩
    have HN : Hid (¬ (PsOk ps ∧ SsOk ss)) := fun h => h1 h.1
    clear h1
    go_enter Try.func69, Try.ntmps69
    go_wp2_with (go_at_call 92; refine (H1.out _ hb0.out).mono ?_; rintro r w1 ⟨rfl, hb1⟩; have HB1 : Hid (Below w.heap.size w w1) := hb0.out.trans (hb1.mono (by simp)); clear hb1)
    go_ret
    exact ⟨.no HN.out, HB1.out⟩
end Go.Proofs.Ytnoihfincifphaa
