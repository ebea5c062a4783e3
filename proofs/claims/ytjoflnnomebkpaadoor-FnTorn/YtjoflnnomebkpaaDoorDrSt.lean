/-
  spec.l2drawStable.
-/
import Derived.Test.YtjoflnnomebkpaaDoorDrNx
namespace Go.Proofs.YtjoflnnomebkpaaDoor
open Go.RowKit
set_option linter.unusedVariables false
set_option linter.unusedSimpArgs false

/-- the entries of a drawn state, and where the draws stand -/
def stE (l : List Int) (k n : Nat) : List Ent × Nat × Int := entsD l (k + 1 + 1 + 1) (1 + ((pickV l (k + 1 + 1) 3 : Nat) : Int)) (pickV l (k + 1) (n + 1))
def stT (l : List Int) (k n : Nat) : Int := if pickV l ((stE l k n).2.1 + 1) 14 = 0 then 1073741824 else lowV (stE l k n).1 (stE l k n).1.length + ((pickV l (stE l k n).2.1 3 : Nat) : Int)
/-- a drawn state: term, vote, log, where the draws stand -/
def stD (l : List Int) (k n : Nat) : Int × Int × List Ent × Nat :=
  if pickV l k 12 = 0 then (0, 0, [], k + 1) else (stT l k n, ((pickV l ((stE l k n).2.1 + 1 + 1) 8 : Nat) : Int), (stE l k n).1, (stE l k n).2.1 + 1 + 1 + 1)

theorem entsD_memS (l : List Int) (k : Nat) (t : Int) (n : Nat) (h0 : 0 ≤ t) (h1 : t ≤ 1073741824) : ∀ e ∈ (entsD l k t n).1, 0 ≤ e.t ∧ e.t ≤ 1073741824 := by
  induction n with
  | zero => intro e he; simp [entsD] at he
  | succ n ih =>
    intro e he
    rw [entsD] at he
    rcases List.mem_append.1 he with he | he
    · exact ih e he
    · simp only [List.mem_singleton] at he
      have h2 := entsD_t l k t n h0 h1
      have h3 := entT_le l (entsD l k t n).2.1 (entsD l k t n).2.2 (by omega) h2.2
      subst he
      unfold entE
      split <;> (dsimp only; omega)
theorem ownE_blkS {w w' : World} {B b : Nat} {v : Value} {l : List Ent} {C : Array Value} {t : TypeId} (h : OwnE w B v l) (hb : Blk w b C t) (hne : 92 ≠ t) (hk : ∀ q, q ≠ b → w'.heap[q]? = w.heap[q]?) : OwnE w' B v l :=
  h.block fun q hq => hk q (fun e => ownsRow.neBlk h.2 hb hne (by rw [hq, e]))
theorem set_keepS (w : World) (b j : Nat) (x : Value) : ∀ q, q ≠ b → (w.setCell ⟨b, j, none⟩ x).heap[q]? = w.heap[q]? := fun q hq => Below.heap_setCell _ _ _ _ hq
set_option maxHeartbeats 16000000 in
set_option maxRecDepth 100000 in
theorem l2drawStable_any (g : Nat) (w : World) (v : Value) (l : List Int) (k n : Nat) (hL : l.length ≤ 1048576) (hk : k ≤ 400000000) (hn : n ≤ 200) (h : Src w g v l k) :
    Calls Tryd.prog 53 #[.pointer (some ⟨g, 0, none⟩), .int .i64 n] w fun r w' => ∃ ea ec, r = .returned (.agg #[.int .i64 (stD l k n).1, .int .i64 (stD l k n).2.1, .slice ea (stD l k n).2.2.1.length ec]) ∧ OwnE w' w.heap.size (.slice ea (stD l k n).2.2.1.length ec) (stD l k n).2.2.1 ∧ Src w' g v l (stD l k n).2.2.2 ∧ w.grownBy w' (some g) := by
  have hg0 : g < w.heap.size := h.lt
  have HD0 : Hid (Dr w ((w.alloc (.cells #[.int .i64 0, .int .i64 0, .slice none 0 0] 39)).alloc (.cells #[.int .i64 0, .int .i64 0, .slice none 0 0] 39)) g v l k [(w.heap.size, #[.int .i64 0, .int .i64 0, .slice none 0 0], 39), (w.heap.size + 1, #[.int .i64 0, .int .i64 0, .slice none 0 0], 39)]) := by
    have hX := ((Dr.start h).new #[.int .i64 0, .int .i64 0, .slice none 0 0] 39 (noU8_of rfl)).new #[.int .i64 0, .int .i64 0, .slice none 0 0] 39 (noU8_of rfl)
    have hY : Dr w ((w.alloc (.cells #[.int .i64 0, .int .i64 0, .slice none 0 0] 39)).alloc (.cells #[.int .i64 0, .int .i64 0, .slice none 0 0] 39)) g v l k [(w.heap.size, #[.int .i64 0, .int .i64 0, .slice none 0 0], 39), (w.heap.size + 1, #[.int .i64 0, .int .i64 0, .slice none 0 0], 39)] := by simpa using hX
    exact hY
  clear h
  unfold stD
  have bp := pickV_lt l k 12 (by omega)
  obtain ⟨p, hp⟩ : ∃ p, p = pickV l k 12 := ⟨_, rfl⟩
  have Hp : Hid (p = pickV l k 12) := hp
  rw [← hp] at bp ⊢
  clear hp
  by_cases c0 : p = 0
  · subst c0
    rw [if_pos rfl]
    dsimp only
    go_enter Tryd.func53, Tryd.ntmps53
    go_wp2_with (go_at_call 44; refine (HD0.out.pickG 12 hL (by omega) (by omega) (by omega)).mono ?_; rintro e w1 ⟨rfl, hd_, hg_⟩; rw [← Hp.out]; have HDw1 : Hid (Dr w w1 g v l (k + 1) [(w.heap.size, #[.int .i64 0, .int .i64 0, .slice none 0 0], 39), (w.heap.size + 1, #[.int .i64 0, .int .i64 0, .slice none 0 0], 39)]) := hd_; have ce1 := (hd_.blk 1 rfl).cell; have ce0 := (hd_.blk 0 rfl).cell; have fe0 := (hd_.blk 0 rfl).free; clear hd_ hg_)
    have d2 := HDw1.out.set 0 rfl 0 (by simp) (.int .i64 0) rfl
    have d3 := d2.set 0 rfl 1 (by simp) (.int .i64 0) rfl
    have d4 := d3.set 0 rfl 2 (by simp) (.slice none 0 0) rfl
    exact bodyPost_ret (results_blk Tryd.results53 rfl (d4.blk 0 rfl) Tryd.underlying39 rfl infoStb rfl) rfl ⟨none, 0, rfl, OwnE.nil _ _, d4.src, d4.grown⟩
  · rw [if_neg c0]
    have c1 : ((p : Int) == 0) = false := by rw [beq_eq_false_iff_ne]; omega
    dsimp only
    have HsT : Hid (stT l k n = if pickV l ((stE l k n).2.1 + 1) 14 = 0 then 1073741824 else lowV (stE l k n).1 (stE l k n).1.length + ((pickV l (stE l k n).2.1 3 : Nat) : Int)) := (rfl : stT l k n = _)
    generalize stT l k n = TT at *
    have HsE : Hid (stE l k n = entsD l (k + 1 + 1 + 1) (1 + ((pickV l (k + 1 + 1) 3 : Nat) : Int)) (pickV l (k + 1) (n + 1))) := (rfl : stE l k n = _)
    have bn1 := pickV_lt l (k + 1) (n + 1) (by omega)
    obtain ⟨n1, hn1⟩ : ∃ n1, n1 = pickV l (k + 1) (n + 1) := ⟨_, rfl⟩
    have Hn1 : Hid (n1 = pickV l (k + 1) (n + 1)) := hn1
    have bt3 := pickV_lt l (k + 1 + 1) 3 (by omega)
    obtain ⟨t3, ht3⟩ : ∃ t3, t3 = pickV l (k + 1 + 1) 3 := ⟨_, rfl⟩
    have Ht3 : Hid (t3 = pickV l (k + 1 + 1) 3) := ht3
    rw [← hn1] at bn1 HsE
    rw [← ht3] at bt3 HsE
    clear hn1 ht3
    obtain ⟨D, KD, TD, hDe⟩ : ∃ D KD TD, stE l k n = (D, KD, TD) := ⟨_, _, _, rfl⟩
    rw [hDe] at HsT HsE ⊢
    clear hDe
    dsimp only at HsT ⊢
    have hDl := entsD_len l (k + 1 + 1 + 1) (1 + (t3 : Int)) n1
    have hDk := entsD_k l (k + 1 + 1 + 1) (1 + (t3 : Int)) n1
    rw [← HsE.out] at hDl hDk
    dsimp only at hDl hDk
    have hlow : 0 ≤ lowV D D.length ∧ lowV D D.length ≤ 1073741824 := by
      have hme := entsD_memS l (k + 1 + 1 + 1) (1 + (t3 : Int)) n1 (by omega) (by omega)
      rw [← HsE.out] at hme
      rcases Nat.eq_zero_or_pos D.length with h0 | h0
      · rw [h0]; exact ⟨(by show (0 : Int) ≤ 1; omega), (by show (1 : Int) ≤ 1073741824; omega)⟩
      · have h1 := lowV_succ D (D.length - 1) (by omega)
        rw [show D.length - 1 + 1 = D.length by omega] at h1
        rw [h1]
        exact hme _ (List.getElem_mem _)
    obtain ⟨lw, hlw⟩ : ∃ lw, lw = lowV D D.length := ⟨_, rfl⟩
    rw [← hlw] at hlow HsT
    have Hlw : Hid (lw = lowV D D.length) := hlw
    obtain ⟨hlw0, hlwM⟩ := hlow
    clear hlw
    have bq3 := pickV_lt l KD 3 (by omega)
    obtain ⟨q3, hq3⟩ : ∃ q3, q3 = pickV l KD 3 := ⟨_, rfl⟩
    have Hq3 : Hid (q3 = pickV l KD 3) := hq3
    have bq14 := pickV_lt l (KD + 1) 14 (by omega)
    obtain ⟨q14, hq14⟩ : ∃ q14, q14 = pickV l (KD + 1) 14 := ⟨_, rfl⟩
    have Hq14 : Hid (q14 = pickV l (KD + 1) 14) := hq14
    have bq8 := pickV_lt l (KD + 1 + 1) 8 (by omega)
    obtain ⟨q8, hq8⟩ : ∃ q8, q8 = pickV l (KD + 1 + 1) 8 := ⟨_, rfl⟩
    have Hq8 : Hid (q8 = pickV l (KD + 1 + 1) 8) := hq8
    rw [← hq3] at bq3 HsT
    rw [← hq14] at bq14 HsT
    rw [← hq8] at bq8 ⊢
    clear hq3 hq14 hq8
    have HEs : Hid (∀ (u : World), Src u g v l (k + 1 + 1 + 1) → Calls Tryd.prog 87 #[.pointer (some ⟨g, 0, none⟩), .int .i64 n1, .int .i64 (1 + (t3 : Int))] u fun r w' => ∃ ev, r = .returned ev ∧ OwnE w' u.heap.size ev D ∧ Src w' g v l KD ∧ u.grownBy w' (some g)) := fun u hu => by
      have := l1drawEntries_any g u v l (k + 1 + 1 + 1) n1 (1 + (t3 : Int)) hL (by omega) (by omega) ⟨by omega, by omega⟩ hu
      rw [← HsE.out] at this
      exact this
    have HPN : Hid (∀ u : World, Dr w u g v l (k + 1) [(w.heap.size, #[.int .i64 0, .int .i64 0, .slice none 0 0], 39), (w.heap.size + 1, #[.int .i64 0, .int .i64 0, .slice none 0 0], 39)] → Calls Tryd.prog 44 #[.pointer (some ⟨g, 0, none⟩), .int .i64 ((n : Int) + 1)] u fun e w' => e = .returned (.int .i64 (n1 : Nat)) ∧ Dr w w' g v l (k + 1 + 1) [(w.heap.size, #[.int .i64 0, .int .i64 0, .slice none 0 0], 39), (w.heap.size + 1, #[.int .i64 0, .int .i64 0, .slice none 0 0], 39)]) := fun u hu => by
      rw [Hn1.out]
      exact hu.pick1 (n + 1) hL (by omega) (by omega) (by omega)
    clear HsE
    have HDl : Hid (D.length = n1) := hDl
    clear hDl
    have A1 : True := trivial
    have A2 : True := trivial
    go_enter Tryd.func53, Tryd.ntmps53
    go_upto_if 24 with (first
      | (go_at_call 44; clear A1; refine (HD0.out.pickG 12 hL (by omega) (by omega) (by omega)).mono ?_; rintro e w1 ⟨rfl, hd_, hg_⟩; rw [← Hp.out]; have HDw1 : Hid (Dr w w1 g v l (k + 1) [(w.heap.size, #[.int .i64 0, .int .i64 0, .slice none 0 0], 39), (w.heap.size + 1, #[.int .i64 0, .int .i64 0, .slice none 0 0], 39)]) := hd_; have cew1 := (hd_.blk 1 rfl).cell; have few1 := (hd_.blk 1 rfl).free; clear hd_ hg_)
      | (go_at_call 44; clear A2; refine (HPN.out _ HDw1.out).mono ?_; rintro e w2 ⟨rfl, hd_⟩; have HDw2 : Hid (Dr w w2 g v l (k + 1 + 1) [(w.heap.size, #[.int .i64 0, .int .i64 0, .slice none 0 0], 39), (w.heap.size + 1, #[.int .i64 0, .int .i64 0, .slice none 0 0], 39)]) := hd_; clear hd_)
      | (go_at_call 44; refine (HDw2.out.pickG 3 hL (by omega) (by omega) (by omega)).mono ?_; rintro e w3 ⟨rfl, hd_, hg_⟩; rw [← Ht3.out]; have HDw3 : Hid (Dr w w3 g v l (k + 1 + 1 + 1) [(w.heap.size, #[.int .i64 0, .int .i64 0, .slice none 0 0], 39), (w.heap.size + 1, #[.int .i64 0, .int .i64 0, .slice none 0 0], 39)]) := hd_; have cew3 := (hd_.blk 1 rfl).cell; have few3 := (hd_.blk 1 rfl).free; clear hd_ hg_)
      | (go_at_call 87; refine (HEs.out _ HDw3.out.src).mono ?_; rintro e w4 ⟨mv, rfl, ho4, hs4, hg4⟩; have HDw4 : Hid (Dr w w4 g v l KD [(w.heap.size, #[.int .i64 0, .int .i64 0, .slice none 0 0], 39), (w.heap.size + 1, #[.int .i64 0, .int .i64 0, .slice none 0 0], 39)]) := HDw3.out.call hs4 hg4; obtain ⟨ea, ec, hmv⟩ := ho4.shape; rw [HDl.out] at hmv; subst hmv; have HO4 : Hid (OwnE w4 w.heap.size (.slice ea n1 ec) D) := ho4.le HDw3.out.size; clear ho4 hs4 hg4))
    clear HEs HPN HDw1 HDw2 HDw3
    go_cut [7] (fun s7 wx => s7 = .int .i64 lw ∧ wx = w4)
    case first =>
      cases n1 with
      | zero =>
        have hl1 : lw = 1 := by rw [Hlw.out, HDl.out]; rfl
        have Hl1 : Hid (lw = 1) := hl1
        clear hl1
        go_wp2_with fail
        go_meet
        exact ⟨by rw [Hl1.out], rfl⟩
      | succ m =>
        have hmD : m < D.length := by rw [HDl.out]; omega
        have hl1 : lw = D[m].t := by rw [Hlw.out, HDl.out]; exact lowV_succ D m hmD
        obtain ⟨q, ha, ⟨d0, _⟩, _⟩ := ownAt HO4.out HDl.out.symm (k := m) hmD (by unfold maxLen; omega)
        rw [← hl1] at d0
        subst ha
        have hx1 : (m : Int) < (m : Int) + 1 := by omega
        have hx2 : (0 : Int) < (m : Int) + 1 := by omega
        clear hl1
        go_wp2_with fail
        go_meet
        exact ⟨rfl, rfl⟩
    case rest =>
      obtain ⟨rfl, rfl⟩ := hcut
      have ceL := (HDw4.out.blk 1 rfl).cell
      have feL := (HDw4.out.blk 1 rfl).free
      obtain ⟨W4, hW4⟩ : ∃ W4, W4 = wc := ⟨_, rfl⟩
      subst hW4
      have HDs4 : Hid (Dr w (W4.setCell ⟨w.heap.size + 1, 2, none⟩ (.slice ea n1 ec)) g v l KD [(w.heap.size, #[.int .i64 0, .int .i64 0, .slice none 0 0], 39), (w.heap.size + 1, #[.int .i64 0, .int .i64 0, .slice ea n1 ec], 39)]) := HDw4.out.set 1 rfl 2 (by simp) (.slice ea n1 ec) rfl
      have HOs4 : Hid (OwnE (W4.setCell ⟨w.heap.size + 1, 2, none⟩ (.slice ea n1 ec)) w.heap.size (.slice ea n1 ec) D) := ownE_blkS HO4.out (HDw4.out.blk 1 rfl) (by decide) (set_keepS _ _ _ _)
      have A3 : True := trivial
      go_upto_if 41 with (first
        | (go_at_call 44; clear A3; refine (HDs4.out.pickG 3 hL (by omega) (by omega) (by omega)).mono ?_; rintro e w5 ⟨rfl, hd_, hg_⟩; rw [← Hq3.out]; have HDw5 : Hid (Dr w w5 g v l (KD + 1) [(w.heap.size, #[.int .i64 0, .int .i64 0, .slice none 0 0], 39), (w.heap.size + 1, #[.int .i64 0, .int .i64 0, .slice ea n1 ec], 39)]) := hd_; have cew5 := (hd_.blk 1 rfl).cell; have few5 := (hd_.blk 1 rfl).free; have HOw5 : Hid (OwnE w5 w.heap.size (.slice ea n1 ec) D) := HOs4.out.grown hg_ hg0; have HDs5 : Hid (Dr w (w5.setCell ⟨w.heap.size + 1, 0, none⟩ (.int .i64 (lw + (q3 : Int)))) g v l (KD + 1) [(w.heap.size, #[.int .i64 0, .int .i64 0, .slice none 0 0], 39), (w.heap.size + 1, #[.int .i64 (lw + (q3 : Int)), .int .i64 0, .slice ea n1 ec], 39)]) := hd_.set 1 rfl 0 (by simp) (.int .i64 (lw + (q3 : Int))) rfl; have HOs5 : Hid (OwnE (w5.setCell ⟨w.heap.size + 1, 0, none⟩ (.int .i64 (lw + (q3 : Int)))) w.heap.size (.slice ea n1 ec) D) := ownE_blkS HOw5.out (hd_.blk 1 rfl) (by decide) (set_keepS _ _ _ _); clear hd_ hg_)
        | (go_at_call 44; refine (HDs5.out.pickG 14 hL (by omega) (by omega) (by omega)).mono ?_; rintro e w6 ⟨rfl, hd_, hg_⟩; rw [← Hq14.out]; have HDw6 : Hid (Dr w w6 g v l (KD + 1 + 1) [(w.heap.size, #[.int .i64 0, .int .i64 0, .slice none 0 0], 39), (w.heap.size + 1, #[.int .i64 (lw + (q3 : Int)), .int .i64 0, .slice ea n1 ec], 39)]) := hd_; have cew6 := (hd_.blk 1 rfl).cell; have few6 := (hd_.blk 1 rfl).free; have HOw6 : Hid (OwnE w6 w.heap.size (.slice ea n1 ec) D) := HOs5.out.grown hg_ hg0; clear hd_ hg_))
      go_cut [41] (fun _ wx => OwnE wx w.heap.size (.slice ea n1 ec) D ∧ Dr w wx g v l (KD + 1 + 1) [(w.heap.size, #[.int .i64 0, .int .i64 0, .slice none 0 0], 39), (w.heap.size + 1, #[.int .i64 TT, .int .i64 0, .slice ea n1 ec], 39)])
      case first =>
        by_cases c14 : q14 = 0
        · subst c14
          rw [if_pos rfl] at HsT
          have hT := HsT.out
          subst hT
          go_wp2_with fail
          go_meet
          exact ⟨ownE_blkS HOw6.out (HDw6.out.blk 1 rfl) (by decide) (set_keepS _ _ _ _), HDw6.out.set 1 rfl 0 (by simp) (.int .i64 1073741824) rfl⟩
        · rw [if_neg c14] at HsT
          have hT := HsT.out
          subst hT
          have c15 : ((q14 : Int) == 0) = false := by rw [beq_eq_false_iff_ne]; omega
          go_wp2_with fail
          go_meet
          exact ⟨HOw6.out, HDw6.out⟩
      case rest =>
        obtain ⟨ho, hd⟩ := hcut
        have HO7 : Hid (OwnE wc w.heap.size (.slice ea n1 ec) D) := ho
        have HD7 : Hid (Dr w wc g v l (KD + 1 + 1) [(w.heap.size, #[.int .i64 0, .int .i64 0, .slice none 0 0], 39), (w.heap.size + 1, #[.int .i64 TT, .int .i64 0, .slice ea n1 ec], 39)]) := hd
        clear ho hd
        go_wp2_with (go_at_call 44; refine (HD7.out.pickG 8 hL (by omega) (by omega) (by omega)).mono ?_; rintro e w8 ⟨rfl, hd_, hg_⟩; rw [← Hq8.out]; have HDw8 : Hid (Dr w w8 g v l (KD + 1 + 1 + 1) [(w.heap.size, #[.int .i64 0, .int .i64 0, .slice none 0 0], 39), (w.heap.size + 1, #[.int .i64 TT, .int .i64 0, .slice ea n1 ec], 39)]) := hd_; have cew8 := (hd_.blk 1 rfl).cell; have few8 := (hd_.blk 1 rfl).free; have HOw8 : Hid (OwnE w8 w.heap.size (.slice ea n1 ec) D) := HO7.out.grown hg_ hg0; have cz8 := (hd_.blk 0 rfl).cell; have fz8 := (hd_.blk 0 rfl).free; clear hd_ hg_)
        have d1 := HDw8.out.set 1 rfl 1 (by simp) (.int .i64 (q8 : Int)) rfl
        have o1 := ownE_blkS HOw8.out (HDw8.out.blk 1 rfl) (by decide) (set_keepS _ _ 1 (.int .i64 (q8 : Int)))
        have d2 := d1.set 0 rfl 0 (by simp) (.int .i64 TT) rfl
        have d3 := d2.set 0 rfl 1 (by simp) (.int .i64 (q8 : Int)) rfl
        have d4 := d3.set 0 rfl 2 (by simp) (.slice ea n1 ec) rfl
        have o2 := ownE_blkS o1 (d1.blk 0 rfl) (by decide) (set_keepS _ _ 0 (.int .i64 TT))
        have o3 := ownE_blkS o2 (d2.blk 0 rfl) (by decide) (set_keepS _ _ 1 (.int .i64 (q8 : Int)))
        have o4 := ownE_blkS o3 (d3.blk 0 rfl) (by decide) (set_keepS _ _ 2 (.slice ea n1 ec))
        exact bodyPost_ret (results_blk Tryd.results53 rfl (d4.blk 0 rfl) Tryd.underlying39 rfl infoStb rfl) rfl ⟨ea, ec, by rw [HDl.out]; rfl, by rw [HDl.out]; exact o4, d4.src, d4.grown⟩
end Go.Proofs.YtjoflnnomebkpaaDoor
