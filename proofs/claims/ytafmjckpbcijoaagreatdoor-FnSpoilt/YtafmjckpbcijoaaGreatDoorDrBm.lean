/-
  spec.l1badMsg.
-/
import Derived.Test.YtafmjckpbcijoaaGreatDoorBadBase
namespace Go.Proofs.YtafmjckpbcijoaaGreatDoor
open Go.RowKit
set_option linter.unusedVariables false
set_option linter.unusedSimpArgs false

structure MsgE where
  ki : Int
  fr : Int
  td : Int
  tm : Int
  li : Int
  lt : Int
  cm : Int
  ok : Int
  hi : Int
  es : List Ent
def mbV (l : List Int) (k : Nat) : Int × Nat := if pickV l (k + 1) 3 = 0 then (4096 + ((pickV l (k + 1 + 1) 3 : Nat) : Int) - 1, k + 1 + 1 + 1) else (((pickV l k 5 : Nat) : Int) - 2, k + 1 + 1)
/-- a message with one thing spoilt, and where the draws stand: behind the number v -/
def badN (l : List Int) (V : Int) (k : Nat) (m : MsgE) : MsgE × Nat :=
  if pickV l k 11 = 0 then ({ m with ki := ((pickV l (k + 1) 10 : Nat) : Int) - 1 }, k + 1 + 1)
  else if pickV l k 11 = 1 then ({ m with fr := ((pickV l (k + 1) 11 : Nat) : Int) - 1 }, k + 1 + 1)
  else if pickV l k 11 = 2 then ({ m with td := ((pickV l (k + 1) 11 : Nat) : Int) - 1 }, k + 1 + 1)
  else if pickV l k 11 = 3 then ({ m with tm := ((pickV l (k + 1) 2 : Nat) : Int) * (1073741824 + ((pickV l (k + 1 + 1) 2 : Nat) : Int)) }, k + 1 + 1 + 1)
  else if pickV l k 11 = 4 then ({ m with li := V }, k + 1)
  else if pickV l k 11 = 5 then ({ m with lt := m.tm + V }, k + 1)
  else if pickV l k 11 = 6 then ({ m with cm := V }, k + 1)
  else if pickV l k 11 = 7 then ({ m with ok := V }, k + 1)
  else if pickV l k 11 = 8 then ({ m with hi := V }, k + 1)
  else if pickV l k 11 = 9 then ({ m with es := (entsD l (k + 1 + 1) 1 (31 + pickV l (k + 1) 4)).1 }, (entsD l (k + 1 + 1) 1 (31 + pickV l (k + 1) 4)).2.1)
  else if m.es.length = 0 then ({ m with es := (entsD l (k + 1) 1 1).1 }, (entsD l (k + 1) 1 1).2.1)
  else if pickV l (k + 1 + 1) 2 = 0 then ({ m with es := m.es.set (pickV l (k + 1) m.es.length) (setTE (m.lt + V) (entAtD m.es (pickV l (k + 1) m.es.length))) }, k + 1 + 1 + 1)
  else ({ m with es := m.es.set (pickV l (k + 1) m.es.length) (setCE (badC l (k + 1 + 1 + 1) (entAtD m.es (pickV l (k + 1) m.es.length)).cmd).1 (entAtD m.es (pickV l (k + 1) m.es.length))) }, (badC l (k + 1 + 1 + 1) (entAtD m.es (pickV l (k + 1) m.es.length)).cmd).2)
def badM (l : List Int) (k : Nat) (m : MsgE) : MsgE × Nat := badN l (mbV l k).1 (mbV l k).2 m
theorem ownE_blkM {w w' : World} {B b : Nat} {v : Value} {l : List Ent} {C : Array Value} {t : TypeId} (h : OwnE w B v l) (hb : Blk w b C t) (hne : 87 ≠ t) (hk : ∀ q, q ≠ b → w'.heap[q]? = w.heap[q]?) : OwnE w' B v l :=
  h.block fun q hq => hk q (fun e => ownsRow.neBlk h.2 hb hne (by rw [hq, e]))
theorem set_keepM (w : World) (b j : Nat) (x : Value) : ∀ q, q ≠ b → (w.setCell ⟨b, j, none⟩ x).heap[q]? = w.heap[q]? := fun q hq => Below.heap_setCell _ _ _ _ hq
theorem setRow_keepM (w : World) (b : Nat) (C : Array Value) : ∀ q, q ≠ b → (w.setRow b C).heap[q]? = w.heap[q]? := fun q hq => setRow_other _ _ _ _ hq
theorem infoMsgB : (Tryz.prog.info? 27).map (·.size) = some 10 := by kernel_rfl
theorem mbV_ok (l : List Int) (k : Nat) : -2 ≤ (mbV l k).1 ∧ (mbV l k).1 ≤ 4098 ∧ (mbV l k).2 ≤ k + 3 := by
  have h1 := pickV_lt l (k + 1 + 1) 3 (by decide)
  have h2 := pickV_lt l k 5 (by decide)
  unfold mbV
  split <;> (dsimp only; omega)
set_option maxHeartbeats 16000000 in
set_option maxRecDepth 100000 in
theorem l1badMsg_any (g : Nat) (w0 w : World) (v : Value) (l : List Int) (k : Nat) (m : MsgE) (a : Option Addr) (cap n : Nat) (hL : l.length ≤ 1048576) (hk : k ≤ 300000000) (hn : n = m.es.length) (hn2 : n ≤ 200) (htm : -4294967296 ≤ m.tm ∧ m.tm ≤ 4294967296) (hlt : -4294967296 ≤ m.lt ∧ m.lt ≤ 4294967296) (h : Dr w0 w g v l k []) (hO : OwnE w w0.heap.size (.slice a n cap) m.es) :
    Calls Tryz.prog 24 #[.pointer (some ⟨g, 0, none⟩), .agg #[.int .i64 m.ki, .int .i64 m.fr, .int .i64 m.td, .int .i64 m.tm, .int .i64 m.li, .int .i64 m.lt, .int .i64 m.cm, .int .i64 m.ok, .int .i64 m.hi, .slice a n cap]] w fun r w' => ∃ ea ec, r = .returned (.agg #[.int .i64 (badM l k m).1.ki, .int .i64 (badM l k m).1.fr, .int .i64 (badM l k m).1.td, .int .i64 (badM l k m).1.tm, .int .i64 (badM l k m).1.li, .int .i64 (badM l k m).1.lt, .int .i64 (badM l k m).1.cm, .int .i64 (badM l k m).1.ok, .int .i64 (badM l k m).1.hi, .slice ea (badM l k m).1.es.length ec]) ∧ OwnE w' w0.heap.size (.slice ea (badM l k m).1.es.length ec) (badM l k m).1.es ∧ Dr w0 w' g v l (badM l k m).2 [] ∧ ∀ b, b < w.heap.size → b ≠ g → (Value.slice a n cap).ownBlock ≠ some b → w'.heap[b]? = w.heap[b]? := by
  have hg0 : g < w.heap.size := h.src.lt
  have HD0 : Hid (Dr w ((w.alloc (.cells #[.int .i64 m.ki, .int .i64 m.fr, .int .i64 m.td, .int .i64 m.tm, .int .i64 m.li, .int .i64 m.lt, .int .i64 m.cm, .int .i64 m.ok, .int .i64 m.hi, .slice a n cap] 27)).alloc (.cells #[.int .i64 0, .int .i64 0, .int .i64 0, .int .i64 0, .int .i64 0, .int .i64 0, .int .i64 0, .int .i64 0, .int .i64 0, .slice none 0 0] 27)) g v l k [(w.heap.size, #[.int .i64 m.ki, .int .i64 m.fr, .int .i64 m.td, .int .i64 m.tm, .int .i64 m.li, .int .i64 m.lt, .int .i64 m.cm, .int .i64 m.ok, .int .i64 m.hi, .slice a n cap], 27), (w.heap.size + 1, #[.int .i64 0, .int .i64 0, .int .i64 0, .int .i64 0, .int .i64 0, .int .i64 0, .int .i64 0, .int .i64 0, .int .i64 0, .slice none 0 0], 27)]) := by
    have hX := ((Dr.start h.src).new #[.int .i64 m.ki, .int .i64 m.fr, .int .i64 m.td, .int .i64 m.tm, .int .i64 m.li, .int .i64 m.lt, .int .i64 m.cm, .int .i64 m.ok, .int .i64 m.hi, .slice a n cap] 27 (noU8_of rfl)).new #[.int .i64 0, .int .i64 0, .int .i64 0, .int .i64 0, .int .i64 0, .int .i64 0, .int .i64 0, .int .i64 0, .int .i64 0, .slice none 0 0] 27 (noU8_of rfl)
    have hY : Dr w ((w.alloc (.cells #[.int .i64 m.ki, .int .i64 m.fr, .int .i64 m.td, .int .i64 m.tm, .int .i64 m.li, .int .i64 m.lt, .int .i64 m.cm, .int .i64 m.ok, .int .i64 m.hi, .slice a n cap] 27)).alloc (.cells #[.int .i64 0, .int .i64 0, .int .i64 0, .int .i64 0, .int .i64 0, .int .i64 0, .int .i64 0, .int .i64 0, .int .i64 0, .slice none 0 0] 27)) g v l k [(w.heap.size, #[.int .i64 m.ki, .int .i64 m.fr, .int .i64 m.td, .int .i64 m.tm, .int .i64 m.li, .int .i64 m.lt, .int .i64 m.cm, .int .i64 m.ok, .int .i64 m.hi, .slice a n cap], 27), (w.heap.size + 1, #[.int .i64 0, .int .i64 0, .int .i64 0, .int .i64 0, .int .i64 0, .int .i64 0, .int .i64 0, .int .i64 0, .int .i64 0, .slice none 0 0], 27)] := by simpa using hX
    exact hY
  have HW : Hid (Dr w0 w g v l k []) := h
  have HO : Hid (OwnE w w0.heap.size (.slice a n cap) m.es) := hO
  have Hn : Hid (n = m.es.length) := hn
  clear h hO hn
  unfold badM
  have hV := mbV_ok l k
  have HV : Hid (mbV l k = if pickV l (k + 1) 3 = 0 then (4096 + ((pickV l (k + 1 + 1) 3 : Nat) : Int) - 1, k + 1 + 1 + 1) else (((pickV l k 5 : Nat) : Int) - 2, k + 1 + 1)) := (rfl : mbV l k = _)
  generalize mbV l k = VK at *
  obtain ⟨V, K⟩ := VK
  dsimp only at hV ⊢
  obtain ⟨hV1, hV2, hK⟩ := hV
  have hB : badN l V K m = badN l V K m := rfl
  conv at hB => rhs; unfold badN
  have HB : Hid (badN l V K m = _) := hB
  generalize badN l V K m = R at *
  clear hB
  obtain ⟨p5, hp5⟩ : ∃ p, p = pickV l k 5 := ⟨_, rfl⟩
  have b5 := pickV_lt l k 5 (by decide)
  obtain ⟨p3, hp3⟩ : ∃ p, p = pickV l (k + 1) 3 := ⟨_, rfl⟩
  have b3 := pickV_lt l (k + 1) 3 (by decide)
  obtain ⟨q3, hq3⟩ : ∃ p, p = pickV l (k + 1 + 1) 3 := ⟨_, rfl⟩
  have c3 := pickV_lt l (k + 1 + 1) 3 (by decide)
  rw [← hp5] at b5 HV
  rw [← hp3] at b3 HV
  rw [← hq3] at c3 HV
  have Hp5 : Hid (p5 = pickV l k 5) := hp5
  have Hp3 : Hid (p3 = pickV l (k + 1) 3) := hp3
  have Hq3 : Hid (q3 = pickV l (k + 1 + 1) 3) := hq3
  clear hp5 hp3 hq3
  obtain ⟨p, hp⟩ : ∃ p, p = pickV l K 11 := ⟨_, rfl⟩
  have b11 := pickV_lt l K 11 (by decide)
  rw [← hp] at b11 HB
  have Hp : Hid (p = pickV l K 11) := hp
  clear hp
  obtain ⟨nR, hnR⟩ : ∃ n, n = R.1.es.length := ⟨_, rfl⟩
  rw [← hnR]
  have HnR : Hid (nR = R.1.es.length) := hnR
  clear hnR
  have A1 : True := trivial
  have A2 : True := trivial
  go_enter Tryz.func24, Tryz.ntmps24
  go_upto_if 13 with (first
    | (go_at_call 23; clear A2; refine (HD0.out.pick1 5 hL (by omega) (by decide) (by decide)).mono ?_; rintro e w1 ⟨rfl, hd_⟩; rw [← Hp5.out]; have HDw1 : Hid (Dr w w1 g v l (k + 1) [(w.heap.size, #[.int .i64 m.ki, .int .i64 m.fr, .int .i64 m.td, .int .i64 m.tm, .int .i64 m.li, .int .i64 m.lt, .int .i64 m.cm, .int .i64 m.ok, .int .i64 m.hi, .slice a n cap], 27), (w.heap.size + 1, #[.int .i64 0, .int .i64 0, .int .i64 0, .int .i64 0, .int .i64 0, .int .i64 0, .int .i64 0, .int .i64 0, .int .i64 0, .slice none 0 0], 27)]) := hd_; have cew1 := (hd_.blk 0 rfl).cell; have few1 := (hd_.blk 0 rfl).free; clear hd_)
    | (go_at_call 23; refine (HDw1.out.pick1 3 hL (by omega) (by decide) (by decide)).mono ?_; rintro e w2 ⟨rfl, hd_⟩; rw [← Hp3.out]; have HDw2 : Hid (Dr w w2 g v l (k + 1 + 1) [(w.heap.size, #[.int .i64 m.ki, .int .i64 m.fr, .int .i64 m.td, .int .i64 m.tm, .int .i64 m.li, .int .i64 m.lt, .int .i64 m.cm, .int .i64 m.ok, .int .i64 m.hi, .slice a n cap], 27), (w.heap.size + 1, #[.int .i64 0, .int .i64 0, .int .i64 0, .int .i64 0, .int .i64 0, .int .i64 0, .int .i64 0, .int .i64 0, .int .i64 0, .slice none 0 0], 27)]) := hd_; have cew2 := (hd_.blk 0 rfl).cell; have few2 := (hd_.blk 0 rfl).free; clear hd_))
  go_cut [5] (fun s5 wx => s5 = .int .i64 V ∧ Dr w wx g v l K [(w.heap.size, #[.int .i64 m.ki, .int .i64 m.fr, .int .i64 m.td, .int .i64 m.tm, .int .i64 m.li, .int .i64 m.lt, .int .i64 m.cm, .int .i64 m.ok, .int .i64 m.hi, .slice a n cap], 27), (w.heap.size + 1, #[.int .i64 0, .int .i64 0, .int .i64 0, .int .i64 0, .int .i64 0, .int .i64 0, .int .i64 0, .int .i64 0, .int .i64 0, .slice none 0 0], 27)])
  case first =>
    by_cases c0 : p3 = 0
    · subst c0
      rw [if_pos rfl] at HV
      have hVV := HV.out
      injection hVV with e1 e2
      have E1 : Hid (V = 4096 + (q3 : Int) - 1) := e1
      have E2 : Hid (K = k + 1 + 1 + 1) := e2
      clear e1 e2
      go_wp2_with (go_at_call 23; refine (HDw2.out.pick1 3 hL (by omega) (by decide) (by decide)).mono ?_; rintro e w3 ⟨rfl, hd_⟩; rw [← Hq3.out]; have HDw3 : Hid (Dr w w3 g v l (k + 1 + 1 + 1) [(w.heap.size, #[.int .i64 m.ki, .int .i64 m.fr, .int .i64 m.td, .int .i64 m.tm, .int .i64 m.li, .int .i64 m.lt, .int .i64 m.cm, .int .i64 m.ok, .int .i64 m.hi, .slice a n cap], 27), (w.heap.size + 1, #[.int .i64 0, .int .i64 0, .int .i64 0, .int .i64 0, .int .i64 0, .int .i64 0, .int .i64 0, .int .i64 0, .int .i64 0, .slice none 0 0], 27)]) := hd_; have cew3 := (hd_.blk 0 rfl).cell; have few3 := (hd_.blk 0 rfl).free; clear hd_)
      go_meet
      exact ⟨by rw [E1.out], by rw [E2.out]; exact HDw3.out⟩
    · rw [if_neg c0] at HV
      have hVV := HV.out
      injection hVV with e1 e2
      have E1 : Hid (V = (p5 : Int) - 2) := e1
      have E2 : Hid (K = k + 1 + 1) := e2
      clear e1 e2
      have c1 : ((p3 : Int) == 0) = false := by rw [beq_eq_false_iff_ne]; omega
      go_wp2_with fail
      go_meet
      exact ⟨by rw [E1.out], by rw [E2.out]; exact HDw2.out⟩
  case rest =>
    obtain ⟨rfl, hd⟩ := hcut
    have HDK : Hid (Dr w wc g v l K [(w.heap.size, #[.int .i64 m.ki, .int .i64 m.fr, .int .i64 m.td, .int .i64 m.tm, .int .i64 m.li, .int .i64 m.lt, .int .i64 m.cm, .int .i64 m.ok, .int .i64 m.hi, .slice a n cap], 27), (w.heap.size + 1, #[.int .i64 0, .int .i64 0, .int .i64 0, .int .i64 0, .int .i64 0, .int .i64 0, .int .i64 0, .int .i64 0, .int .i64 0, .slice none 0 0], 27)]) := hd
    have cek := (hd.blk 0 rfl).cell
    have fek := (hd.blk 0 rfl).free
    clear hd HD0 HDw1 HDw2
    rcases (show p = 0 ∨ p = 1 ∨ p = 2 ∨ p = 3 ∨ p = 4 ∨ p = 5 ∨ p = 6 ∨ p = 7 ∨ p = 8 ∨ p = 9 ∨ (p = 10 ∧ n = 0) ∨ (p = 10 ∧ 0 < n) by omega) with c0 | c0 | c0 | c0 | c0 | c0 | c0 | c0 | c0 | c0 | ⟨c0, c1⟩ | ⟨c0, c1⟩
    · subst c0
      rw [if_pos rfl] at HB
      have bq := pickV_lt l (K + 1) 10 (by decide)
      obtain ⟨q, hq⟩ : ∃ q, q = pickV l (K + 1) 10 := ⟨_, rfl⟩
      have Hq : Hid (q = pickV l (K + 1) 10) := hq
      rw [← hq] at bq HB
      clear hq
      go_wp2_with (first
        | (go_at_call 23; clear A1; refine (HDK.out.pick1 11 hL (by omega) (by decide) (by decide)).mono ?_; rintro e w4 ⟨rfl, hd_⟩; rw [← Hp.out]; have HDw4 : Hid (Dr w w4 g v l (K + 1) [(w.heap.size, #[.int .i64 m.ki, .int .i64 m.fr, .int .i64 m.td, .int .i64 m.tm, .int .i64 m.li, .int .i64 m.lt, .int .i64 m.cm, .int .i64 m.ok, .int .i64 m.hi, .slice a n cap], 27), (w.heap.size + 1, #[.int .i64 0, .int .i64 0, .int .i64 0, .int .i64 0, .int .i64 0, .int .i64 0, .int .i64 0, .int .i64 0, .int .i64 0, .slice none 0 0], 27)]) := hd_; have cew4 := (hd_.blk 0 rfl).cell; have few4 := (hd_.blk 0 rfl).free; clear hd_)
        | (go_at_call 23; refine (HDw4.out.pick1 10 hL (by omega) (by decide) (by decide)).mono ?_; rintro e w5 ⟨rfl, hd_⟩; rw [← Hq.out]; have HDw5 : Hid (Dr w w5 g v l (K + 1 + 1) [(w.heap.size, #[.int .i64 m.ki, .int .i64 m.fr, .int .i64 m.td, .int .i64 m.tm, .int .i64 m.li, .int .i64 m.lt, .int .i64 m.cm, .int .i64 m.ok, .int .i64 m.hi, .slice a n cap], 27), (w.heap.size + 1, #[.int .i64 0, .int .i64 0, .int .i64 0, .int .i64 0, .int .i64 0, .int .i64 0, .int .i64 0, .int .i64 0, .int .i64 0, .slice none 0 0], 27)]) := hd_; have cew5 := (hd_.blk 0 rfl).cell; have few5 := (hd_.blk 0 rfl).free; have HDx : Hid (Dr w (w5.setCell ⟨w.heap.size, 0, none⟩ (.int .i64 ((q : Int) - 1))) g v l (K + 1 + 1) [(w.heap.size, #[.int .i64 ((q : Int) - 1), .int .i64 m.fr, .int .i64 m.td, .int .i64 m.tm, .int .i64 m.li, .int .i64 m.lt, .int .i64 m.cm, .int .i64 m.ok, .int .i64 m.hi, .slice a n cap], 27), (w.heap.size + 1, #[.int .i64 0, .int .i64 0, .int .i64 0, .int .i64 0, .int .i64 0, .int .i64 0, .int .i64 0, .int .i64 0, .int .i64 0, .slice none 0 0], 27)]) := hd_.set 0 rfl 0 (by simp) (.int .i64 ((q : Int) - 1)) rfl; clear hd_)
        | (have hBA := HDx; refine gate_ld 27 (.tmp 3) rfl ?_; clear hBA; refine wpl_load_blk rfl 27 (.tmp 3) rfl (w.heap.size) rfl (HDx.out.blk 0 rfl) Tryz.underlying27 rfl infoMsgB rfl ?_)
        | (have hBA := HDx; refine gate_st 27 (.tmp 4) _ rfl ?_; clear hBA; refine wpl_store_blk rfl 27 (.tmp 4) _ rfl (w.heap.size + 1) rfl rfl (HDx.out.blk 1 rfl) infoMsgB rfl rfl (by simp [Value.oneCell']) ?_))
      have hR := HDx.out.row 1 rfl #[.int .i64 ((q : Int) - 1), .int .i64 m.fr, .int .i64 m.td, .int .i64 m.tm, .int .i64 m.li, .int .i64 m.lt, .int .i64 m.cm, .int .i64 m.ok, .int .i64 m.hi, .slice a n cap] (noU8_of rfl)
      have hq := badAt_quiet HW.out HO.out hR.src hR.grown
      have hes : R.1.es = m.es := by rw [HB.out]
      exact bodyPost_ret (results_blk Tryz.results24 rfl (hR.blk 1 rfl) Tryz.underlying27 rfl infoMsgB rfl) rfl ⟨a, cap, by rw [HnR.out, HB.out]; dsimp only; rw [← Hn.out], by rw [HnR.out, hes, ← Hn.out]; exact hq.1, by rw [HB.out]; exact hq.2.1, hq.2.2⟩
    · subst c0
      rw [if_neg (by decide), if_pos rfl] at HB
      have bq := pickV_lt l (K + 1) 11 (by decide)
      obtain ⟨q, hq⟩ : ∃ q, q = pickV l (K + 1) 11 := ⟨_, rfl⟩
      have Hq : Hid (q = pickV l (K + 1) 11) := hq
      rw [← hq] at bq HB
      clear hq
      go_wp2_with (first
        | (go_at_call 23; clear A1; refine (HDK.out.pick1 11 hL (by omega) (by decide) (by decide)).mono ?_; rintro e w4 ⟨rfl, hd_⟩; rw [← Hp.out]; have HDw4 : Hid (Dr w w4 g v l (K + 1) [(w.heap.size, #[.int .i64 m.ki, .int .i64 m.fr, .int .i64 m.td, .int .i64 m.tm, .int .i64 m.li, .int .i64 m.lt, .int .i64 m.cm, .int .i64 m.ok, .int .i64 m.hi, .slice a n cap], 27), (w.heap.size + 1, #[.int .i64 0, .int .i64 0, .int .i64 0, .int .i64 0, .int .i64 0, .int .i64 0, .int .i64 0, .int .i64 0, .int .i64 0, .slice none 0 0], 27)]) := hd_; have cew4 := (hd_.blk 0 rfl).cell; have few4 := (hd_.blk 0 rfl).free; clear hd_)
        | (go_at_call 23; refine (HDw4.out.pick1 11 hL (by omega) (by decide) (by decide)).mono ?_; rintro e w5 ⟨rfl, hd_⟩; rw [← Hq.out]; have HDw5 : Hid (Dr w w5 g v l (K + 1 + 1) [(w.heap.size, #[.int .i64 m.ki, .int .i64 m.fr, .int .i64 m.td, .int .i64 m.tm, .int .i64 m.li, .int .i64 m.lt, .int .i64 m.cm, .int .i64 m.ok, .int .i64 m.hi, .slice a n cap], 27), (w.heap.size + 1, #[.int .i64 0, .int .i64 0, .int .i64 0, .int .i64 0, .int .i64 0, .int .i64 0, .int .i64 0, .int .i64 0, .int .i64 0, .slice none 0 0], 27)]) := hd_; have cew5 := (hd_.blk 0 rfl).cell; have few5 := (hd_.blk 0 rfl).free; have HDx : Hid (Dr w (w5.setCell ⟨w.heap.size, 1, none⟩ (.int .i64 ((q : Int) - 1))) g v l (K + 1 + 1) [(w.heap.size, #[.int .i64 m.ki, .int .i64 ((q : Int) - 1), .int .i64 m.td, .int .i64 m.tm, .int .i64 m.li, .int .i64 m.lt, .int .i64 m.cm, .int .i64 m.ok, .int .i64 m.hi, .slice a n cap], 27), (w.heap.size + 1, #[.int .i64 0, .int .i64 0, .int .i64 0, .int .i64 0, .int .i64 0, .int .i64 0, .int .i64 0, .int .i64 0, .int .i64 0, .slice none 0 0], 27)]) := hd_.set 0 rfl 1 (by simp) (.int .i64 ((q : Int) - 1)) rfl; clear hd_)
        | (have hBA := HDx; refine gate_ld 27 (.tmp 3) rfl ?_; clear hBA; refine wpl_load_blk rfl 27 (.tmp 3) rfl (w.heap.size) rfl (HDx.out.blk 0 rfl) Tryz.underlying27 rfl infoMsgB rfl ?_)
        | (have hBA := HDx; refine gate_st 27 (.tmp 4) _ rfl ?_; clear hBA; refine wpl_store_blk rfl 27 (.tmp 4) _ rfl (w.heap.size + 1) rfl rfl (HDx.out.blk 1 rfl) infoMsgB rfl rfl (by simp [Value.oneCell']) ?_))
      have hR := HDx.out.row 1 rfl #[.int .i64 m.ki, .int .i64 ((q : Int) - 1), .int .i64 m.td, .int .i64 m.tm, .int .i64 m.li, .int .i64 m.lt, .int .i64 m.cm, .int .i64 m.ok, .int .i64 m.hi, .slice a n cap] (noU8_of rfl)
      have hq := badAt_quiet HW.out HO.out hR.src hR.grown
      have hes : R.1.es = m.es := by rw [HB.out]
      exact bodyPost_ret (results_blk Tryz.results24 rfl (hR.blk 1 rfl) Tryz.underlying27 rfl infoMsgB rfl) rfl ⟨a, cap, by rw [HnR.out, HB.out]; dsimp only; rw [← Hn.out], by rw [HnR.out, hes, ← Hn.out]; exact hq.1, by rw [HB.out]; exact hq.2.1, hq.2.2⟩
    · subst c0
      rw [if_neg (by decide), if_neg (by decide), if_pos rfl] at HB
      have bq := pickV_lt l (K + 1) 11 (by decide)
      obtain ⟨q, hq⟩ : ∃ q, q = pickV l (K + 1) 11 := ⟨_, rfl⟩
      have Hq : Hid (q = pickV l (K + 1) 11) := hq
      rw [← hq] at bq HB
      clear hq
      go_wp2_with (first
        | (go_at_call 23; clear A1; refine (HDK.out.pick1 11 hL (by omega) (by decide) (by decide)).mono ?_; rintro e w4 ⟨rfl, hd_⟩; rw [← Hp.out]; have HDw4 : Hid (Dr w w4 g v l (K + 1) [(w.heap.size, #[.int .i64 m.ki, .int .i64 m.fr, .int .i64 m.td, .int .i64 m.tm, .int .i64 m.li, .int .i64 m.lt, .int .i64 m.cm, .int .i64 m.ok, .int .i64 m.hi, .slice a n cap], 27), (w.heap.size + 1, #[.int .i64 0, .int .i64 0, .int .i64 0, .int .i64 0, .int .i64 0, .int .i64 0, .int .i64 0, .int .i64 0, .int .i64 0, .slice none 0 0], 27)]) := hd_; have cew4 := (hd_.blk 0 rfl).cell; have few4 := (hd_.blk 0 rfl).free; clear hd_)
        | (go_at_call 23; refine (HDw4.out.pick1 11 hL (by omega) (by decide) (by decide)).mono ?_; rintro e w5 ⟨rfl, hd_⟩; rw [← Hq.out]; have HDw5 : Hid (Dr w w5 g v l (K + 1 + 1) [(w.heap.size, #[.int .i64 m.ki, .int .i64 m.fr, .int .i64 m.td, .int .i64 m.tm, .int .i64 m.li, .int .i64 m.lt, .int .i64 m.cm, .int .i64 m.ok, .int .i64 m.hi, .slice a n cap], 27), (w.heap.size + 1, #[.int .i64 0, .int .i64 0, .int .i64 0, .int .i64 0, .int .i64 0, .int .i64 0, .int .i64 0, .int .i64 0, .int .i64 0, .slice none 0 0], 27)]) := hd_; have cew5 := (hd_.blk 0 rfl).cell; have few5 := (hd_.blk 0 rfl).free; have HDx : Hid (Dr w (w5.setCell ⟨w.heap.size, 2, none⟩ (.int .i64 ((q : Int) - 1))) g v l (K + 1 + 1) [(w.heap.size, #[.int .i64 m.ki, .int .i64 m.fr, .int .i64 ((q : Int) - 1), .int .i64 m.tm, .int .i64 m.li, .int .i64 m.lt, .int .i64 m.cm, .int .i64 m.ok, .int .i64 m.hi, .slice a n cap], 27), (w.heap.size + 1, #[.int .i64 0, .int .i64 0, .int .i64 0, .int .i64 0, .int .i64 0, .int .i64 0, .int .i64 0, .int .i64 0, .int .i64 0, .slice none 0 0], 27)]) := hd_.set 0 rfl 2 (by simp) (.int .i64 ((q : Int) - 1)) rfl; clear hd_)
        | (have hBA := HDx; refine gate_ld 27 (.tmp 3) rfl ?_; clear hBA; refine wpl_load_blk rfl 27 (.tmp 3) rfl (w.heap.size) rfl (HDx.out.blk 0 rfl) Tryz.underlying27 rfl infoMsgB rfl ?_)
        | (have hBA := HDx; refine gate_st 27 (.tmp 4) _ rfl ?_; clear hBA; refine wpl_store_blk rfl 27 (.tmp 4) _ rfl (w.heap.size + 1) rfl rfl (HDx.out.blk 1 rfl) infoMsgB rfl rfl (by simp [Value.oneCell']) ?_))
      have hR := HDx.out.row 1 rfl #[.int .i64 m.ki, .int .i64 m.fr, .int .i64 ((q : Int) - 1), .int .i64 m.tm, .int .i64 m.li, .int .i64 m.lt, .int .i64 m.cm, .int .i64 m.ok, .int .i64 m.hi, .slice a n cap] (noU8_of rfl)
      have hq := badAt_quiet HW.out HO.out hR.src hR.grown
      have hes : R.1.es = m.es := by rw [HB.out]
      exact bodyPost_ret (results_blk Tryz.results24 rfl (hR.blk 1 rfl) Tryz.underlying27 rfl infoMsgB rfl) rfl ⟨a, cap, by rw [HnR.out, HB.out]; dsimp only; rw [← Hn.out], by rw [HnR.out, hes, ← Hn.out]; exact hq.1, by rw [HB.out]; exact hq.2.1, hq.2.2⟩
    · subst c0
      rw [if_neg (by decide), if_neg (by decide), if_neg (by decide), if_pos rfl] at HB
      have bq := pickV_lt l (K + 1) 2 (by decide)
      obtain ⟨q, hq⟩ : ∃ q, q = pickV l (K + 1) 2 := ⟨_, rfl⟩
      have Hq : Hid (q = pickV l (K + 1) 2) := hq
      rw [← hq] at bq HB
      clear hq
      have br := pickV_lt l (K + 1 + 1) 2 (by decide)
      obtain ⟨r, hr⟩ : ∃ q, q = pickV l (K + 1 + 1) 2 := ⟨_, rfl⟩
      have Hr : Hid (r = pickV l (K + 1 + 1) 2) := hr
      rw [← hr] at br HB
      clear hr
      have hw : IntKind.i64.wrap ((q : Int) * (1073741824 + (r : Int))) = (q : Int) * (1073741824 + (r : Int)) := (by rcases (show q = 0 ∨ q = 1 by omega) with rfl | rfl <;> rw [IntKind.wrap_i64] <;> simp <;> omega)
      have A3 : True := trivial
      go_wp2_with (first
        | (go_at_call 23; clear A1; refine (HDK.out.pick1 11 hL (by omega) (by decide) (by decide)).mono ?_; rintro e w4 ⟨rfl, hd_⟩; rw [← Hp.out]; have HDw4 : Hid (Dr w w4 g v l (K + 1) [(w.heap.size, #[.int .i64 m.ki, .int .i64 m.fr, .int .i64 m.td, .int .i64 m.tm, .int .i64 m.li, .int .i64 m.lt, .int .i64 m.cm, .int .i64 m.ok, .int .i64 m.hi, .slice a n cap], 27), (w.heap.size + 1, #[.int .i64 0, .int .i64 0, .int .i64 0, .int .i64 0, .int .i64 0, .int .i64 0, .int .i64 0, .int .i64 0, .int .i64 0, .slice none 0 0], 27)]) := hd_; have cew4 := (hd_.blk 0 rfl).cell; have few4 := (hd_.blk 0 rfl).free; clear hd_)
        | (go_at_call 23; clear A3; refine (HDw4.out.pick1 2 hL (by omega) (by decide) (by decide)).mono ?_; rintro e w5 ⟨rfl, hd_⟩; rw [← Hq.out]; have HDw5 : Hid (Dr w w5 g v l (K + 1 + 1) [(w.heap.size, #[.int .i64 m.ki, .int .i64 m.fr, .int .i64 m.td, .int .i64 m.tm, .int .i64 m.li, .int .i64 m.lt, .int .i64 m.cm, .int .i64 m.ok, .int .i64 m.hi, .slice a n cap], 27), (w.heap.size + 1, #[.int .i64 0, .int .i64 0, .int .i64 0, .int .i64 0, .int .i64 0, .int .i64 0, .int .i64 0, .int .i64 0, .int .i64 0, .slice none 0 0], 27)]) := hd_; have cew5 := (hd_.blk 0 rfl).cell; have few5 := (hd_.blk 0 rfl).free; clear hd_)
        | (go_at_call 23; refine (HDw5.out.pick1 2 hL (by omega) (by decide) (by decide)).mono ?_; rintro e w6 ⟨rfl, hd_⟩; rw [← Hr.out]; have HDw6 : Hid (Dr w w6 g v l (K + 1 + 1 + 1) [(w.heap.size, #[.int .i64 m.ki, .int .i64 m.fr, .int .i64 m.td, .int .i64 m.tm, .int .i64 m.li, .int .i64 m.lt, .int .i64 m.cm, .int .i64 m.ok, .int .i64 m.hi, .slice a n cap], 27), (w.heap.size + 1, #[.int .i64 0, .int .i64 0, .int .i64 0, .int .i64 0, .int .i64 0, .int .i64 0, .int .i64 0, .int .i64 0, .int .i64 0, .slice none 0 0], 27)]) := hd_; have cew6 := (hd_.blk 0 rfl).cell; have few6 := (hd_.blk 0 rfl).free; have HDx : Hid (Dr w (w6.setCell ⟨w.heap.size, 3, none⟩ (.int .i64 ((q : Int) * (1073741824 + (r : Int))))) g v l (K + 1 + 1 + 1) [(w.heap.size, #[.int .i64 m.ki, .int .i64 m.fr, .int .i64 m.td, .int .i64 ((q : Int) * (1073741824 + (r : Int))), .int .i64 m.li, .int .i64 m.lt, .int .i64 m.cm, .int .i64 m.ok, .int .i64 m.hi, .slice a n cap], 27), (w.heap.size + 1, #[.int .i64 0, .int .i64 0, .int .i64 0, .int .i64 0, .int .i64 0, .int .i64 0, .int .i64 0, .int .i64 0, .int .i64 0, .slice none 0 0], 27)]) := hd_.set 0 rfl 3 (by simp) (.int .i64 ((q : Int) * (1073741824 + (r : Int)))) rfl; clear hd_)
        | (have hBA := HDx; refine gate_ld 27 (.tmp 3) rfl ?_; clear hBA; refine wpl_load_blk rfl 27 (.tmp 3) rfl (w.heap.size) rfl (HDx.out.blk 0 rfl) Tryz.underlying27 rfl infoMsgB rfl ?_)
        | (have hBA := HDx; refine gate_st 27 (.tmp 4) _ rfl ?_; clear hBA; refine wpl_store_blk rfl 27 (.tmp 4) _ rfl (w.heap.size + 1) rfl rfl (HDx.out.blk 1 rfl) infoMsgB rfl rfl (by simp [Value.oneCell']) ?_))
      have hR := HDx.out.row 1 rfl #[.int .i64 m.ki, .int .i64 m.fr, .int .i64 m.td, .int .i64 ((q : Int) * (1073741824 + (r : Int))), .int .i64 m.li, .int .i64 m.lt, .int .i64 m.cm, .int .i64 m.ok, .int .i64 m.hi, .slice a n cap] (noU8_of rfl)
      have hq := badAt_quiet HW.out HO.out hR.src hR.grown
      have hes : R.1.es = m.es := by rw [HB.out]
      exact bodyPost_ret (results_blk Tryz.results24 rfl (hR.blk 1 rfl) Tryz.underlying27 rfl infoMsgB rfl) rfl ⟨a, cap, by rw [HnR.out, HB.out]; dsimp only; rw [← Hn.out], by rw [HnR.out, hes, ← Hn.out]; exact hq.1, by rw [HB.out]; exact hq.2.1, hq.2.2⟩
    · subst c0
      rw [if_neg (by decide), if_neg (by decide), if_neg (by decide), if_neg (by decide), if_pos rfl] at HB
      go_wp2_with (first
        | (go_at_call 23; clear A1; refine (HDK.out.pick1 11 hL (by omega) (by decide) (by decide)).mono ?_; rintro e w4 ⟨rfl, hd_⟩; rw [← Hp.out]; have HDw4 : Hid (Dr w w4 g v l (K + 1) [(w.heap.size, #[.int .i64 m.ki, .int .i64 m.fr, .int .i64 m.td, .int .i64 m.tm, .int .i64 m.li, .int .i64 m.lt, .int .i64 m.cm, .int .i64 m.ok, .int .i64 m.hi, .slice a n cap], 27), (w.heap.size + 1, #[.int .i64 0, .int .i64 0, .int .i64 0, .int .i64 0, .int .i64 0, .int .i64 0, .int .i64 0, .int .i64 0, .int .i64 0, .slice none 0 0], 27)]) := hd_; have cew4 := (hd_.blk 0 rfl).cell; have few4 := (hd_.blk 0 rfl).free; have HDx : Hid (Dr w (w4.setCell ⟨w.heap.size, 4, none⟩ (.int .i64 V)) g v l (K + 1) [(w.heap.size, #[.int .i64 m.ki, .int .i64 m.fr, .int .i64 m.td, .int .i64 m.tm, .int .i64 V, .int .i64 m.lt, .int .i64 m.cm, .int .i64 m.ok, .int .i64 m.hi, .slice a n cap], 27), (w.heap.size + 1, #[.int .i64 0, .int .i64 0, .int .i64 0, .int .i64 0, .int .i64 0, .int .i64 0, .int .i64 0, .int .i64 0, .int .i64 0, .slice none 0 0], 27)]) := hd_.set 0 rfl 4 (by simp) (.int .i64 V) rfl; clear hd_)
        | (have hBA := HDx; refine gate_ld 27 (.tmp 3) rfl ?_; clear hBA; refine wpl_load_blk rfl 27 (.tmp 3) rfl (w.heap.size) rfl (HDx.out.blk 0 rfl) Tryz.underlying27 rfl infoMsgB rfl ?_)
        | (have hBA := HDx; refine gate_st 27 (.tmp 4) _ rfl ?_; clear hBA; refine wpl_store_blk rfl 27 (.tmp 4) _ rfl (w.heap.size + 1) rfl rfl (HDx.out.blk 1 rfl) infoMsgB rfl rfl (by simp [Value.oneCell']) ?_))
      have hR := HDx.out.row 1 rfl #[.int .i64 m.ki, .int .i64 m.fr, .int .i64 m.td, .int .i64 m.tm, .int .i64 V, .int .i64 m.lt, .int .i64 m.cm, .int .i64 m.ok, .int .i64 m.hi, .slice a n cap] (noU8_of rfl)
      have hq := badAt_quiet HW.out HO.out hR.src hR.grown
      have hes : R.1.es = m.es := by rw [HB.out]
      exact bodyPost_ret (results_blk Tryz.results24 rfl (hR.blk 1 rfl) Tryz.underlying27 rfl infoMsgB rfl) rfl ⟨a, cap, by rw [HnR.out, HB.out]; dsimp only; rw [← Hn.out], by rw [HnR.out, hes, ← Hn.out]; exact hq.1, by rw [HB.out]; exact hq.2.1, hq.2.2⟩
    · subst c0
      rw [if_neg (by decide), if_neg (by decide), if_neg (by decide), if_neg (by decide), if_neg (by decide), if_pos rfl] at HB
      have hw : IntKind.i64.wrap (m.tm + V) = m.tm + V := (by rw [IntKind.wrap_i64]; omega)
      go_wp2_with (first
        | (go_at_call 23; clear A1; refine (HDK.out.pick1 11 hL (by omega) (by decide) (by decide)).mono ?_; rintro e w4 ⟨rfl, hd_⟩; rw [← Hp.out]; have HDw4 : Hid (Dr w w4 g v l (K + 1) [(w.heap.size, #[.int .i64 m.ki, .int .i64 m.fr, .int .i64 m.td, .int .i64 m.tm, .int .i64 m.li, .int .i64 m.lt, .int .i64 m.cm, .int .i64 m.ok, .int .i64 m.hi, .slice a n cap], 27), (w.heap.size + 1, #[.int .i64 0, .int .i64 0, .int .i64 0, .int .i64 0, .int .i64 0, .int .i64 0, .int .i64 0, .int .i64 0, .int .i64 0, .slice none 0 0], 27)]) := hd_; have cew4 := (hd_.blk 0 rfl).cell; have few4 := (hd_.blk 0 rfl).free; have HDx : Hid (Dr w (w4.setCell ⟨w.heap.size, 5, none⟩ (.int .i64 (m.tm + V))) g v l (K + 1) [(w.heap.size, #[.int .i64 m.ki, .int .i64 m.fr, .int .i64 m.td, .int .i64 m.tm, .int .i64 m.li, .int .i64 (m.tm + V), .int .i64 m.cm, .int .i64 m.ok, .int .i64 m.hi, .slice a n cap], 27), (w.heap.size + 1, #[.int .i64 0, .int .i64 0, .int .i64 0, .int .i64 0, .int .i64 0, .int .i64 0, .int .i64 0, .int .i64 0, .int .i64 0, .slice none 0 0], 27)]) := hd_.set 0 rfl 5 (by simp) (.int .i64 (m.tm + V)) rfl; clear hd_)
        | (have hBA := HDx; refine gate_ld 27 (.tmp 3) rfl ?_; clear hBA; refine wpl_load_blk rfl 27 (.tmp 3) rfl (w.heap.size) rfl (HDx.out.blk 0 rfl) Tryz.underlying27 rfl infoMsgB rfl ?_)
        | (have hBA := HDx; refine gate_st 27 (.tmp 4) _ rfl ?_; clear hBA; refine wpl_store_blk rfl 27 (.tmp 4) _ rfl (w.heap.size + 1) rfl rfl (HDx.out.blk 1 rfl) infoMsgB rfl rfl (by simp [Value.oneCell']) ?_))
      have hR := HDx.out.row 1 rfl #[.int .i64 m.ki, .int .i64 m.fr, .int .i64 m.td, .int .i64 m.tm, .int .i64 m.li, .int .i64 (m.tm + V), .int .i64 m.cm, .int .i64 m.ok, .int .i64 m.hi, .slice a n cap] (noU8_of rfl)
      have hq := badAt_quiet HW.out HO.out hR.src hR.grown
      have hes : R.1.es = m.es := by rw [HB.out]
      exact bodyPost_ret (results_blk Tryz.results24 rfl (hR.blk 1 rfl) Tryz.underlying27 rfl infoMsgB rfl) rfl ⟨a, cap, by rw [HnR.out, HB.out]; dsimp only; rw [← Hn.out], by rw [HnR.out, hes, ← Hn.out]; exact hq.1, by rw [HB.out]; exact hq.2.1, hq.2.2⟩
    · subst c0
      rw [if_neg (by decide), if_neg (by decide), if_neg (by decide), if_neg (by decide), if_neg (by decide), if_neg (by decide), if_pos rfl] at HB
      go_wp2_with (first
        | (go_at_call 23; clear A1; refine (HDK.out.pick1 11 hL (by omega) (by decide) (by decide)).mono ?_; rintro e w4 ⟨rfl, hd_⟩; rw [← Hp.out]; have HDw4 : Hid (Dr w w4 g v l (K + 1) [(w.heap.size, #[.int .i64 m.ki, .int .i64 m.fr, .int .i64 m.td, .int .i64 m.tm, .int .i64 m.li, .int .i64 m.lt, .int .i64 m.cm, .int .i64 m.ok, .int .i64 m.hi, .slice a n cap], 27), (w.heap.size + 1, #[.int .i64 0, .int .i64 0, .int .i64 0, .int .i64 0, .int .i64 0, .int .i64 0, .int .i64 0, .int .i64 0, .int .i64 0, .slice none 0 0], 27)]) := hd_; have cew4 := (hd_.blk 0 rfl).cell; have few4 := (hd_.blk 0 rfl).free; have HDx : Hid (Dr w (w4.setCell ⟨w.heap.size, 6, none⟩ (.int .i64 V)) g v l (K + 1) [(w.heap.size, #[.int .i64 m.ki, .int .i64 m.fr, .int .i64 m.td, .int .i64 m.tm, .int .i64 m.li, .int .i64 m.lt, .int .i64 V, .int .i64 m.ok, .int .i64 m.hi, .slice a n cap], 27), (w.heap.size + 1, #[.int .i64 0, .int .i64 0, .int .i64 0, .int .i64 0, .int .i64 0, .int .i64 0, .int .i64 0, .int .i64 0, .int .i64 0, .slice none 0 0], 27)]) := hd_.set 0 rfl 6 (by simp) (.int .i64 V) rfl; clear hd_)
        | (have hBA := HDx; refine gate_ld 27 (.tmp 3) rfl ?_; clear hBA; refine wpl_load_blk rfl 27 (.tmp 3) rfl (w.heap.size) rfl (HDx.out.blk 0 rfl) Tryz.underlying27 rfl infoMsgB rfl ?_)
        | (have hBA := HDx; refine gate_st 27 (.tmp 4) _ rfl ?_; clear hBA; refine wpl_store_blk rfl 27 (.tmp 4) _ rfl (w.heap.size + 1) rfl rfl (HDx.out.blk 1 rfl) infoMsgB rfl rfl (by simp [Value.oneCell']) ?_))
      have hR := HDx.out.row 1 rfl #[.int .i64 m.ki, .int .i64 m.fr, .int .i64 m.td, .int .i64 m.tm, .int .i64 m.li, .int .i64 m.lt, .int .i64 V, .int .i64 m.ok, .int .i64 m.hi, .slice a n cap] (noU8_of rfl)
      have hq := badAt_quiet HW.out HO.out hR.src hR.grown
      have hes : R.1.es = m.es := by rw [HB.out]
      exact bodyPost_ret (results_blk Tryz.results24 rfl (hR.blk 1 rfl) Tryz.underlying27 rfl infoMsgB rfl) rfl ⟨a, cap, by rw [HnR.out, HB.out]; dsimp only; rw [← Hn.out], by rw [HnR.out, hes, ← Hn.out]; exact hq.1, by rw [HB.out]; exact hq.2.1, hq.2.2⟩
    · subst c0
      rw [if_neg (by decide), if_neg (by decide), if_neg (by decide), if_neg (by decide), if_neg (by decide), if_neg (by decide), if_neg (by decide), if_pos rfl] at HB
      go_wp2_with (first
        | (go_at_call 23; clear A1; refine (HDK.out.pick1 11 hL (by omega) (by decide) (by decide)).mono ?_; rintro e w4 ⟨rfl, hd_⟩; rw [← Hp.out]; have HDw4 : Hid (Dr w w4 g v l (K + 1) [(w.heap.size, #[.int .i64 m.ki, .int .i64 m.fr, .int .i64 m.td, .int .i64 m.tm, .int .i64 m.li, .int .i64 m.lt, .int .i64 m.cm, .int .i64 m.ok, .int .i64 m.hi, .slice a n cap], 27), (w.heap.size + 1, #[.int .i64 0, .int .i64 0, .int .i64 0, .int .i64 0, .int .i64 0, .int .i64 0, .int .i64 0, .int .i64 0, .int .i64 0, .slice none 0 0], 27)]) := hd_; have cew4 := (hd_.blk 0 rfl).cell; have few4 := (hd_.blk 0 rfl).free; have HDx : Hid (Dr w (w4.setCell ⟨w.heap.size, 7, none⟩ (.int .i64 V)) g v l (K + 1) [(w.heap.size, #[.int .i64 m.ki, .int .i64 m.fr, .int .i64 m.td, .int .i64 m.tm, .int .i64 m.li, .int .i64 m.lt, .int .i64 m.cm, .int .i64 V, .int .i64 m.hi, .slice a n cap], 27), (w.heap.size + 1, #[.int .i64 0, .int .i64 0, .int .i64 0, .int .i64 0, .int .i64 0, .int .i64 0, .int .i64 0, .int .i64 0, .int .i64 0, .slice none 0 0], 27)]) := hd_.set 0 rfl 7 (by simp) (.int .i64 V) rfl; clear hd_)
        | (have hBA := HDx; refine gate_ld 27 (.tmp 3) rfl ?_; clear hBA; refine wpl_load_blk rfl 27 (.tmp 3) rfl (w.heap.size) rfl (HDx.out.blk 0 rfl) Tryz.underlying27 rfl infoMsgB rfl ?_)
        | (have hBA := HDx; refine gate_st 27 (.tmp 4) _ rfl ?_; clear hBA; refine wpl_store_blk rfl 27 (.tmp 4) _ rfl (w.heap.size + 1) rfl rfl (HDx.out.blk 1 rfl) infoMsgB rfl rfl (by simp [Value.oneCell']) ?_))
      have hR := HDx.out.row 1 rfl #[.int .i64 m.ki, .int .i64 m.fr, .int .i64 m.td, .int .i64 m.tm, .int .i64 m.li, .int .i64 m.lt, .int .i64 m.cm, .int .i64 V, .int .i64 m.hi, .slice a n cap] (noU8_of rfl)
      have hq := badAt_quiet HW.out HO.out hR.src hR.grown
      have hes : R.1.es = m.es := by rw [HB.out]
      exact bodyPost_ret (results_blk Tryz.results24 rfl (hR.blk 1 rfl) Tryz.underlying27 rfl infoMsgB rfl) rfl ⟨a, cap, by rw [HnR.out, HB.out]; dsimp only; rw [← Hn.out], by rw [HnR.out, hes, ← Hn.out]; exact hq.1, by rw [HB.out]; exact hq.2.1, hq.2.2⟩
    · subst c0
      rw [if_neg (by decide), if_neg (by decide), if_neg (by decide), if_neg (by decide), if_neg (by decide), if_neg (by decide), if_neg (by decide), if_neg (by decide), if_pos rfl] at HB
      go_wp2_with (first
        | (go_at_call 23; clear A1; refine (HDK.out.pick1 11 hL (by omega) (by decide) (by decide)).mono ?_; rintro e w4 ⟨rfl, hd_⟩; rw [← Hp.out]; have HDw4 : Hid (Dr w w4 g v l (K + 1) [(w.heap.size, #[.int .i64 m.ki, .int .i64 m.fr, .int .i64 m.td, .int .i64 m.tm, .int .i64 m.li, .int .i64 m.lt, .int .i64 m.cm, .int .i64 m.ok, .int .i64 m.hi, .slice a n cap], 27), (w.heap.size + 1, #[.int .i64 0, .int .i64 0, .int .i64 0, .int .i64 0, .int .i64 0, .int .i64 0, .int .i64 0, .int .i64 0, .int .i64 0, .slice none 0 0], 27)]) := hd_; have cew4 := (hd_.blk 0 rfl).cell; have few4 := (hd_.blk 0 rfl).free; have HDx : Hid (Dr w (w4.setCell ⟨w.heap.size, 8, none⟩ (.int .i64 V)) g v l (K + 1) [(w.heap.size, #[.int .i64 m.ki, .int .i64 m.fr, .int .i64 m.td, .int .i64 m.tm, .int .i64 m.li, .int .i64 m.lt, .int .i64 m.cm, .int .i64 m.ok, .int .i64 V, .slice a n cap], 27), (w.heap.size + 1, #[.int .i64 0, .int .i64 0, .int .i64 0, .int .i64 0, .int .i64 0, .int .i64 0, .int .i64 0, .int .i64 0, .int .i64 0, .slice none 0 0], 27)]) := hd_.set 0 rfl 8 (by simp) (.int .i64 V) rfl; clear hd_)
        | (have hBA := HDx; refine gate_ld 27 (.tmp 3) rfl ?_; clear hBA; refine wpl_load_blk rfl 27 (.tmp 3) rfl (w.heap.size) rfl (HDx.out.blk 0 rfl) Tryz.underlying27 rfl infoMsgB rfl ?_)
        | (have hBA := HDx; refine gate_st 27 (.tmp 4) _ rfl ?_; clear hBA; refine wpl_store_blk rfl 27 (.tmp 4) _ rfl (w.heap.size + 1) rfl rfl (HDx.out.blk 1 rfl) infoMsgB rfl rfl (by simp [Value.oneCell']) ?_))
      have hR := HDx.out.row 1 rfl #[.int .i64 m.ki, .int .i64 m.fr, .int .i64 m.td, .int .i64 m.tm, .int .i64 m.li, .int .i64 m.lt, .int .i64 m.cm, .int .i64 m.ok, .int .i64 V, .slice a n cap] (noU8_of rfl)
      have hq := badAt_quiet HW.out HO.out hR.src hR.grown
      have hes : R.1.es = m.es := by rw [HB.out]
      exact bodyPost_ret (results_blk Tryz.results24 rfl (hR.blk 1 rfl) Tryz.underlying27 rfl infoMsgB rfl) rfl ⟨a, cap, by rw [HnR.out, HB.out]; dsimp only; rw [← Hn.out], by rw [HnR.out, hes, ← Hn.out]; exact hq.1, by rw [HB.out]; exact hq.2.1, hq.2.2⟩
    · subst c0
      rw [if_neg (by decide), if_neg (by decide), if_neg (by decide), if_neg (by decide), if_neg (by decide), if_neg (by decide), if_neg (by decide), if_neg (by decide), if_neg (by decide), if_pos rfl] at HB
      have bq := pickV_lt l (K + 1) 4 (by decide)
      obtain ⟨q, hq⟩ : ∃ q, q = pickV l (K + 1) 4 := ⟨_, rfl⟩
      have Hq : Hid (q = pickV l (K + 1) 4) := hq
      rw [← hq] at bq HB
      clear hq
      have HEs : Hid (∀ u : World, Src u g v l (K + 1 + 1) → Calls Tryz.prog 48 #[.pointer (some ⟨g, 0, none⟩), .int .i64 (31 + (q : Int)), .int .i64 1] u fun r w' => ∃ ev, r = .returned ev ∧ OwnE w' u.heap.size ev (entsD l (K + 1 + 1) 1 (31 + q)).1 ∧ Src w' g v l (entsD l (K + 1 + 1) 1 (31 + q)).2.1 ∧ u.grownBy w' (some g)) := fun u hu => by
        have := l1drawEntries_any g u v l (K + 1 + 1) (31 + q) 1 hL (by omega) (by omega) ⟨by omega, by omega⟩ hu
        rw [show (((31 + q : Nat)) : Int) = 31 + (q : Int) by omega] at this
        exact this
      generalize entsD l (K + 1 + 1) 1 (31 + q) = ED at *
      obtain ⟨E1, E2, E3⟩ := ED
      dsimp only at HEs HB
      obtain ⟨nE, hnE⟩ : ∃ n, n = E1.length := ⟨_, rfl⟩
      have HnE : Hid (nE = E1.length) := hnE
      clear hnE
      go_wp2_with (first
        | (go_at_call 23; clear A1; refine (HDK.out.pick1 11 hL (by omega) (by decide) (by decide)).mono ?_; rintro e w4 ⟨rfl, hd_⟩; rw [← Hp.out]; have HDw4 : Hid (Dr w w4 g v l (K + 1) [(w.heap.size, #[.int .i64 m.ki, .int .i64 m.fr, .int .i64 m.td, .int .i64 m.tm, .int .i64 m.li, .int .i64 m.lt, .int .i64 m.cm, .int .i64 m.ok, .int .i64 m.hi, .slice a n cap], 27), (w.heap.size + 1, #[.int .i64 0, .int .i64 0, .int .i64 0, .int .i64 0, .int .i64 0, .int .i64 0, .int .i64 0, .int .i64 0, .int .i64 0, .slice none 0 0], 27)]) := hd_; have cew4 := (hd_.blk 0 rfl).cell; have few4 := (hd_.blk 0 rfl).free; clear hd_)
        | (go_at_call 23; refine (HDw4.out.pick1 4 hL (by omega) (by decide) (by decide)).mono ?_; rintro e w5 ⟨rfl, hd_⟩; rw [← Hq.out]; have HDw5 : Hid (Dr w w5 g v l (K + 1 + 1) [(w.heap.size, #[.int .i64 m.ki, .int .i64 m.fr, .int .i64 m.td, .int .i64 m.tm, .int .i64 m.li, .int .i64 m.lt, .int .i64 m.cm, .int .i64 m.ok, .int .i64 m.hi, .slice a n cap], 27), (w.heap.size + 1, #[.int .i64 0, .int .i64 0, .int .i64 0, .int .i64 0, .int .i64 0, .int .i64 0, .int .i64 0, .int .i64 0, .int .i64 0, .slice none 0 0], 27)]) := hd_; have cew5 := (hd_.blk 0 rfl).cell; have few5 := (hd_.blk 0 rfl).free; clear hd_)
        | (go_at_call 48; refine (HEs.out _ HDw5.out.src).mono ?_; rintro e w6 ⟨ev, rfl, ho6, hs6, hg6⟩; obtain ⟨za, zc, hev⟩ := ho6.shape; rw [← HnE.out] at hev; subst hev; have HD6 : Hid (Dr w w6 g v l E2 [(w.heap.size, #[.int .i64 m.ki, .int .i64 m.fr, .int .i64 m.td, .int .i64 m.tm, .int .i64 m.li, .int .i64 m.lt, .int .i64 m.cm, .int .i64 m.ok, .int .i64 m.hi, .slice a n cap], 27), (w.heap.size + 1, #[.int .i64 0, .int .i64 0, .int .i64 0, .int .i64 0, .int .i64 0, .int .i64 0, .int .i64 0, .int .i64 0, .int .i64 0, .slice none 0 0], 27)]) := HDw5.out.call hs6 hg6; have HE6 : Hid (OwnE w6 w0.heap.size (.slice za nE zc) E1) := ho6.le (Nat.le_trans HW.out.size HDw5.out.size); have ce6 := (HD6.out.blk 0 rfl).cell; have fe6 := (HD6.out.blk 0 rfl).free; have HDx : Hid (Dr w (w6.setCell ⟨w.heap.size, 9, none⟩ (.slice za nE zc)) g v l E2 [(w.heap.size, #[.int .i64 m.ki, .int .i64 m.fr, .int .i64 m.td, .int .i64 m.tm, .int .i64 m.li, .int .i64 m.lt, .int .i64 m.cm, .int .i64 m.ok, .int .i64 m.hi, .slice za nE zc], 27), (w.heap.size + 1, #[.int .i64 0, .int .i64 0, .int .i64 0, .int .i64 0, .int .i64 0, .int .i64 0, .int .i64 0, .int .i64 0, .int .i64 0, .slice none 0 0], 27)]) := HD6.out.set 0 rfl 9 (by simp) (.slice za nE zc) rfl; clear ho6 hs6 hg6)
        | (have hBA := HDx; refine gate_ld 27 (.tmp 3) rfl ?_; clear hBA; refine wpl_load_blk rfl 27 (.tmp 3) rfl (w.heap.size) rfl (HDx.out.blk 0 rfl) Tryz.underlying27 rfl infoMsgB rfl ?_)
        | (have hBA := HDx; refine gate_st 27 (.tmp 4) _ rfl ?_; clear hBA; refine wpl_store_blk rfl 27 (.tmp 4) _ rfl (w.heap.size + 1) rfl rfl (HDx.out.blk 1 rfl) infoMsgB rfl rfl (by simp [Value.oneCell']) ?_))
      have hR := HDx.out.row 1 rfl #[.int .i64 m.ki, .int .i64 m.fr, .int .i64 m.td, .int .i64 m.tm, .int .i64 m.li, .int .i64 m.lt, .int .i64 m.cm, .int .i64 m.ok, .int .i64 m.hi, .slice za nE zc] (noU8_of rfl)
      have o1 := ownE_blkM HE6.out (HD6.out.blk 0 rfl) (by decide) (set_keepM _ _ 9 (.slice za nE zc))
      have o2 := ownE_blkM o1 (HDx.out.blk 1 rfl) (by decide) (setRow_keepM _ _ #[.int .i64 m.ki, .int .i64 m.fr, .int .i64 m.td, .int .i64 m.tm, .int .i64 m.li, .int .i64 m.lt, .int .i64 m.cm, .int .i64 m.ok, .int .i64 m.hi, .slice za nE zc])
      have hq := badAt_quiet HW.out HO.out hR.src hR.grown
      have hes : R.1.es = E1 := by rw [HB.out]
      exact bodyPost_ret (results_blk Tryz.results24 rfl (hR.blk 1 rfl) Tryz.underlying27 rfl infoMsgB rfl) rfl ⟨za, zc, by rw [HnR.out, HB.out]; dsimp only; rw [← HnE.out], by rw [HnR.out, hes, ← HnE.out]; exact o2, by rw [HB.out]; exact hq.2.1, hq.2.2⟩
    · subst c0
      have hL0 : m.es.length = 0 := by rw [← Hn.out]; exact c1
      rw [if_neg (by decide), if_neg (by decide), if_neg (by decide), if_neg (by decide), if_neg (by decide), if_neg (by decide), if_neg (by decide), if_neg (by decide), if_neg (by decide), if_neg (by decide), if_pos hL0] at HB
      clear hL0
      subst c1
      have HEs : Hid (∀ u : World, Src u g v l (K + 1) → Calls Tryz.prog 48 #[.pointer (some ⟨g, 0, none⟩), .int .i64 1, .int .i64 1] u fun r w' => ∃ ev, r = .returned ev ∧ OwnE w' u.heap.size ev (entsD l (K + 1) 1 1).1 ∧ Src w' g v l (entsD l (K + 1) 1 1).2.1 ∧ u.grownBy w' (some g)) := fun u hu => l1drawEntries_any g u v l (K + 1) 1 1 hL (by omega) (by omega) ⟨by omega, by omega⟩ hu
      generalize entsD l (K + 1) 1 1 = ED at *
      obtain ⟨E1, E2, E3⟩ := ED
      dsimp only at HEs HB
      obtain ⟨nE, hnE⟩ : ∃ n, n = E1.length := ⟨_, rfl⟩
      have HnE : Hid (nE = E1.length) := hnE
      clear hnE
      go_wp2_with (first
        | (go_at_call 23; clear A1; refine (HDK.out.pick1 11 hL (by omega) (by decide) (by decide)).mono ?_; rintro e w4 ⟨rfl, hd_⟩; rw [← Hp.out]; have HDw4 : Hid (Dr w w4 g v l (K + 1) [(w.heap.size, #[.int .i64 m.ki, .int .i64 m.fr, .int .i64 m.td, .int .i64 m.tm, .int .i64 m.li, .int .i64 m.lt, .int .i64 m.cm, .int .i64 m.ok, .int .i64 m.hi, .slice a 0 cap], 27), (w.heap.size + 1, #[.int .i64 0, .int .i64 0, .int .i64 0, .int .i64 0, .int .i64 0, .int .i64 0, .int .i64 0, .int .i64 0, .int .i64 0, .slice none 0 0], 27)]) := hd_; have cew4 := (hd_.blk 0 rfl).cell; have few4 := (hd_.blk 0 rfl).free; clear hd_)
        | (go_at_call 48; refine (HEs.out _ HDw4.out.src).mono ?_; rintro e w6 ⟨ev, rfl, ho6, hs6, hg6⟩; obtain ⟨za, zc, hev⟩ := ho6.shape; rw [← HnE.out] at hev; subst hev; have HD6 : Hid (Dr w w6 g v l E2 [(w.heap.size, #[.int .i64 m.ki, .int .i64 m.fr, .int .i64 m.td, .int .i64 m.tm, .int .i64 m.li, .int .i64 m.lt, .int .i64 m.cm, .int .i64 m.ok, .int .i64 m.hi, .slice a 0 cap], 27), (w.heap.size + 1, #[.int .i64 0, .int .i64 0, .int .i64 0, .int .i64 0, .int .i64 0, .int .i64 0, .int .i64 0, .int .i64 0, .int .i64 0, .slice none 0 0], 27)]) := HDw4.out.call hs6 hg6; have HE6 : Hid (OwnE w6 w0.heap.size (.slice za nE zc) E1) := ho6.le (Nat.le_trans HW.out.size HDw4.out.size); have ce6 := (HD6.out.blk 0 rfl).cell; have fe6 := (HD6.out.blk 0 rfl).free; have HDx : Hid (Dr w (w6.setCell ⟨w.heap.size, 9, none⟩ (.slice za nE zc)) g v l E2 [(w.heap.size, #[.int .i64 m.ki, .int .i64 m.fr, .int .i64 m.td, .int .i64 m.tm, .int .i64 m.li, .int .i64 m.lt, .int .i64 m.cm, .int .i64 m.ok, .int .i64 m.hi, .slice za nE zc], 27), (w.heap.size + 1, #[.int .i64 0, .int .i64 0, .int .i64 0, .int .i64 0, .int .i64 0, .int .i64 0, .int .i64 0, .int .i64 0, .int .i64 0, .slice none 0 0], 27)]) := HD6.out.set 0 rfl 9 (by simp) (.slice za nE zc) rfl; clear ho6 hs6 hg6)
        | (have hBA := HDx; refine gate_ld 27 (.tmp 3) rfl ?_; clear hBA; refine wpl_load_blk rfl 27 (.tmp 3) rfl (w.heap.size) rfl (HDx.out.blk 0 rfl) Tryz.underlying27 rfl infoMsgB rfl ?_)
        | (have hBA := HDx; refine gate_st 27 (.tmp 4) _ rfl ?_; clear hBA; refine wpl_store_blk rfl 27 (.tmp 4) _ rfl (w.heap.size + 1) rfl rfl (HDx.out.blk 1 rfl) infoMsgB rfl rfl (by simp [Value.oneCell']) ?_))
      have hR := HDx.out.row 1 rfl #[.int .i64 m.ki, .int .i64 m.fr, .int .i64 m.td, .int .i64 m.tm, .int .i64 m.li, .int .i64 m.lt, .int .i64 m.cm, .int .i64 m.ok, .int .i64 m.hi, .slice za nE zc] (noU8_of rfl)
      have o1 := ownE_blkM HE6.out (HD6.out.blk 0 rfl) (by decide) (set_keepM _ _ 9 (.slice za nE zc))
      have o2 := ownE_blkM o1 (HDx.out.blk 1 rfl) (by decide) (setRow_keepM _ _ #[.int .i64 m.ki, .int .i64 m.fr, .int .i64 m.td, .int .i64 m.tm, .int .i64 m.li, .int .i64 m.lt, .int .i64 m.cm, .int .i64 m.ok, .int .i64 m.hi, .slice za nE zc])
      have hq := badAt_quiet HW.out HO.out hR.src hR.grown
      have hes : R.1.es = E1 := by rw [HB.out]
      exact bodyPost_ret (results_blk Tryz.results24 rfl (hR.blk 1 rfl) Tryz.underlying27 rfl infoMsgB rfl) rfl ⟨za, zc, by rw [HnR.out, HB.out]; dsimp only; rw [← HnE.out], by rw [HnR.out, hes, ← HnE.out]; exact o2, by rw [HB.out]; exact hq.2.1, hq.2.2⟩
    · subst c0
      have hL0 : 0 < m.es.length := by rw [← Hn.out]; exact c1
      rw [if_neg (by decide), if_neg (by decide), if_neg (by decide), if_neg (by decide), if_neg (by decide), if_neg (by decide), if_neg (by decide), if_neg (by decide), if_neg (by decide), if_neg (by decide), if_neg (by omega)] at HB
      have bi := pickV_lt l (K + 1) m.es.length hL0
      obtain ⟨i, hi⟩ : ∃ i, i = pickV l (K + 1) m.es.length := ⟨_, rfl⟩
      have Hi : Hid (i = pickV l (K + 1) m.es.length) := hi
      rw [← hi] at bi HB
      rw [entAtD_get bi] at HB
      clear hi hL0
      have bq := pickV_lt l (K + 1 + 1) 2 (by decide)
      obtain ⟨q, hq⟩ : ∃ q, q = pickV l (K + 1 + 1) 2 := ⟨_, rfl⟩
      have Hq : Hid (q = pickV l (K + 1 + 1) 2) := hq
      rw [← hq] at bq HB
      clear hq
      have HPN : Hid (∀ u : World, Dr w u g v l (K + 1) [(w.heap.size, #[.int .i64 m.ki, .int .i64 m.fr, .int .i64 m.td, .int .i64 m.tm, .int .i64 m.li, .int .i64 m.lt, .int .i64 m.cm, .int .i64 m.ok, .int .i64 m.hi, .slice a n cap], 27), (w.heap.size + 1, #[.int .i64 0, .int .i64 0, .int .i64 0, .int .i64 0, .int .i64 0, .int .i64 0, .int .i64 0, .int .i64 0, .int .i64 0, .slice none 0 0], 27)] → Calls Tryz.prog 23 #[.pointer (some ⟨g, 0, none⟩), .int .i64 n] u fun e w' => e = .returned (.int .i64 (i : Nat)) ∧ Dr w w' g v l (K + 1 + 1) [(w.heap.size, #[.int .i64 m.ki, .int .i64 m.fr, .int .i64 m.td, .int .i64 m.tm, .int .i64 m.li, .int .i64 m.lt, .int .i64 m.cm, .int .i64 m.ok, .int .i64 m.hi, .slice a n cap], 27), (w.heap.size + 1, #[.int .i64 0, .int .i64 0, .int .i64 0, .int .i64 0, .int .i64 0, .int .i64 0, .int .i64 0, .int .i64 0, .int .i64 0, .slice none 0 0], 27)] ∧ u.grownBy w' (some g)) := fun u hu => by
        rw [Hi.out, ← Hn.out]
        exact hu.pickG n hL (by omega) c1 (by omega)
      have hin : i < n := by rw [Hn.out]; exact bi
      have c2 : (0 : Int) < (n : Int) := by omega
      have c3' : (i : Int) < (n : Int) := by omega
      obtain ⟨qb, ha, _, _⟩ := ownAt HO.out Hn.out (k := i) bi (by unfold maxLen; omega)
      have hqb : w0.heap.size ≤ qb ∧ qb < w.heap.size := by
        have := HO.out.2.lt qb (by rw [ha]; rfl)
        exact this
      subst ha
      have HOc : Hid (OwnE wc w0.heap.size (.slice (some ⟨qb, 0, none⟩) n cap) m.es) := HO.out.grown HDK.out.grown HW.out.gl
      have A3 : True := trivial
      have hlen : ∀ x, (m.es.set i x).length = n := fun x => by rw [List.length_set, ← Hn.out]
      have Hlen : Hid (∀ x, (m.es.set i x).length = n) := hlen
      clear hlen
      by_cases cq : q = 0
      · subst cq
        rw [if_pos rfl] at HB
        have hw : IntKind.i64.wrap (m.lt + V) = m.lt + V := (by rw [IntKind.wrap_i64]; omega)
        go_upto_region 28 with (first
          | (go_at_call 23; clear A1; refine (HDK.out.pickG 11 hL (by omega) (by decide) (by decide)).mono ?_; rintro e w4 ⟨rfl, hd_, hg_⟩; rw [← Hp.out]; have HDw4 : Hid (Dr w w4 g v l (K + 1) [(w.heap.size, #[.int .i64 m.ki, .int .i64 m.fr, .int .i64 m.td, .int .i64 m.tm, .int .i64 m.li, .int .i64 m.lt, .int .i64 m.cm, .int .i64 m.ok, .int .i64 m.hi, .slice (some ⟨qb, 0, none⟩) n cap], 27), (w.heap.size + 1, #[.int .i64 0, .int .i64 0, .int .i64 0, .int .i64 0, .int .i64 0, .int .i64 0, .int .i64 0, .int .i64 0, .int .i64 0, .slice none 0 0], 27)]) := hd_; have HOw4 : Hid (OwnE w4 w0.heap.size (.slice (some ⟨qb, 0, none⟩) n cap) m.es) := HOc.out.grown hg_ HW.out.gl; have cew4 := (hd_.blk 0 rfl).cell; have few4 := (hd_.blk 0 rfl).free; clear hd_ hg_)
          | (go_at_call 23; clear A3; refine (HPN.out _ HDw4.out).mono ?_; rintro e w5 ⟨rfl, hd_, hg_⟩; have HDw5 : Hid (Dr w w5 g v l (K + 1 + 1) [(w.heap.size, #[.int .i64 m.ki, .int .i64 m.fr, .int .i64 m.td, .int .i64 m.tm, .int .i64 m.li, .int .i64 m.lt, .int .i64 m.cm, .int .i64 m.ok, .int .i64 m.hi, .slice (some ⟨qb, 0, none⟩) n cap], 27), (w.heap.size + 1, #[.int .i64 0, .int .i64 0, .int .i64 0, .int .i64 0, .int .i64 0, .int .i64 0, .int .i64 0, .int .i64 0, .int .i64 0, .slice none 0 0], 27)]) := hd_; have HOw5 : Hid (OwnE w5 w0.heap.size (.slice (some ⟨qb, 0, none⟩) n cap) m.es) := HOw4.out.grown hg_ HW.out.gl; have ce5 := (hd_.blk 0 rfl).cell; clear hd_ hg_)
          | (go_at_call 23; refine (HDw5.out.pickG 2 hL (by omega) (by decide) (by decide)).mono ?_; rintro e w6 ⟨rfl, hd_, hg_⟩; rw [← Hq.out]; have HDw6 : Hid (Dr w w6 g v l (K + 1 + 1 + 1) [(w.heap.size, #[.int .i64 m.ki, .int .i64 m.fr, .int .i64 m.td, .int .i64 m.tm, .int .i64 m.li, .int .i64 m.lt, .int .i64 m.cm, .int .i64 m.ok, .int .i64 m.hi, .slice (some ⟨qb, 0, none⟩) n cap], 27), (w.heap.size + 1, #[.int .i64 0, .int .i64 0, .int .i64 0, .int .i64 0, .int .i64 0, .int .i64 0, .int .i64 0, .int .i64 0, .int .i64 0, .slice none 0 0], 27)]) := hd_; have HOw6 : Hid (OwnE w6 w0.heap.size (.slice (some ⟨qb, 0, none⟩) n cap) m.es) := HOw5.out.grown hg_ HW.out.gl; have cew6 := (hd_.blk 0 rfl).cell; have few6 := (hd_.blk 0 rfl).free; clear hd_ hg_))
        obtain ⟨qc, hqc, ⟨d0, _⟩, hf3⟩ := ownAt HOw6.out Hn.out (k := i) bi (by unfold maxLen; omega)
        injection hqc with hqc
        injection hqc with hqc
        subst hqc
        have HDx : Hid (Dr w0 (w6.setCell ⟨qb, i * 7, none⟩ (.int .i64 (m.lt + V))) g v l (K + 1 + 1 + 1) [(w.heap.size, #[.int .i64 m.ki, .int .i64 m.fr, .int .i64 m.td, .int .i64 m.tm, .int .i64 m.li, .int .i64 m.lt, .int .i64 m.cm, .int .i64 m.ok, .int .i64 m.hi, .slice (some ⟨qb, 0, none⟩) n cap], 27), (w.heap.size + 1, #[.int .i64 0, .int .i64 0, .int .i64 0, .int .i64 0, .int .i64 0, .int .i64 0, .int .i64 0, .int .i64 0, .int .i64 0, .slice none 0 0], 27)]) := (HW.out.rebase HDw6.out).grew (grewCell (n := n) (c := cap) (.int .i64 (m.lt + V))) (fun q' hq' => by injection hq' with hq'; have : qb = q' := hq'; omega) (fun x hx => by obtain ⟨j, hj⟩ := List.getElem?_of_mem hx; have hx1 := (HDw6.out.blks j x hj).1; intro e; injection e with e; have : qb = x.1 := e; omega)
        go_wp2_with (first
          | (have hBA := HDx; refine gate_ld 27 (.tmp 3) rfl ?_; clear hBA; refine wpl_load_blk rfl 27 (.tmp 3) rfl (w.heap.size) rfl (HDx.out.blk 0 rfl) Tryz.underlying27 rfl infoMsgB rfl ?_)
          | (have hBA := HDx; refine gate_st 27 (.tmp 4) _ rfl ?_; clear hBA; refine wpl_store_blk rfl 27 (.tmp 4) _ rfl (w.heap.size + 1) rfl rfl (HDx.out.blk 1 rfl) infoMsgB rfl rfl (by simp [Value.oneCell']) ?_))
        have hR := HDx.out.row 1 rfl #[.int .i64 m.ki, .int .i64 m.fr, .int .i64 m.td, .int .i64 m.tm, .int .i64 m.li, .int .i64 m.lt, .int .i64 m.cm, .int .i64 m.ok, .int .i64 m.hi, .slice (some ⟨qb, 0, none⟩) n cap] (noU8_of rfl)
        have o1 := HOw6.out.setT Hn.out i bi (m.lt + V)
        have o2 := ownE_blkM o1 (HDx.out.blk 1 rfl) (by decide) (setRow_keepM _ _ #[.int .i64 m.ki, .int .i64 m.fr, .int .i64 m.td, .int .i64 m.tm, .int .i64 m.li, .int .i64 m.lt, .int .i64 m.cm, .int .i64 m.ok, .int .i64 m.hi, .slice (some ⟨qb, 0, none⟩) n cap])
        have hes : R.1.es = m.es.set i (setTE (m.lt + V) m.es[i]) := by rw [HB.out]
        exact bodyPost_ret (results_blk Tryz.results24 rfl (hR.blk 1 rfl) Tryz.underlying27 rfl infoMsgB rfl) rfl ⟨some ⟨qb, 0, none⟩, cap, by rw [HnR.out, HB.out]; dsimp only; rw [Hlen.out], by rw [HnR.out, hes, Hlen.out]; exact o2, by rw [HB.out]; exact hR.nilF, fun b hb hne hq => (setRow_other _ _ _ _ (by omega)).trans ((Below.heap_setCell _ _ _ b (fun e => hq (by rw [e]; rfl))).trans (HDw6.out.grown.block b hb (fun e => hne (by injection e))))⟩
      · rw [if_neg cq] at HB
        have cq1 : ((q : Int) == 0) = false := by rw [beq_eq_false_iff_ne]; omega
        obtain ⟨y, hy⟩ : ∃ y, y = m.es[i] := ⟨_, rfl⟩
        have Hy : Hid (y = m.es[i]) := hy
        rw [← hy] at HB
        have hyf : y.fits := by rw [hy]; exact HOc.out.1 _ (List.getElem_mem bi)
        clear hy
        have hfit := badC_fits l (K + 1 + 1 + 1) y.cmd hyf
        have HBC : Hid (∀ u : World, Src u g v l (K + 1 + 1 + 1) → Calls Tryz.prog 31 #[.pointer (some ⟨g, 0, none⟩), .agg #[.int .i64 y.cl, .int .i64 y.sq, .int .i64 y.op, .string y.k, .string y.v, .string y.o]] u fun r w' => r = .returned (.agg #[.int .i64 (badC l (K + 1 + 1 + 1) y.cmd).1.cl, .int .i64 (badC l (K + 1 + 1 + 1) y.cmd).1.sq, .int .i64 (badC l (K + 1 + 1 + 1) y.cmd).1.op, .string (badC l (K + 1 + 1 + 1) y.cmd).1.ky, .string (badC l (K + 1 + 1 + 1) y.cmd).1.vl, .string (badC l (K + 1 + 1 + 1) y.cmd).1.ol]) ∧ Src w' g v l (badC l (K + 1 + 1 + 1) y.cmd).2 ∧ u.grownBy w' (some g)) := fun u hu => l1badCmd_any g u v l (K + 1 + 1 + 1) y.cmd hL (by omega) hu
        generalize badC l (K + 1 + 1 + 1) y.cmd = CB at *
        obtain ⟨cb, KB⟩ := CB
        dsimp only at hfit HBC HB
        have Hfit : Hid (cb.ky.size ≤ maxLen ∧ cb.vl.size ≤ maxLen ∧ cb.ol.size ≤ maxLen) := hfit
        clear hfit hyf
        go_upto_region 29 with (first
          | (go_at_call 23; clear A1; refine (HDK.out.pickG 11 hL (by omega) (by decide) (by decide)).mono ?_; rintro e w4 ⟨rfl, hd_, hg_⟩; rw [← Hp.out]; have HDw4 : Hid (Dr w w4 g v l (K + 1) [(w.heap.size, #[.int .i64 m.ki, .int .i64 m.fr, .int .i64 m.td, .int .i64 m.tm, .int .i64 m.li, .int .i64 m.lt, .int .i64 m.cm, .int .i64 m.ok, .int .i64 m.hi, .slice (some ⟨qb, 0, none⟩) n cap], 27), (w.heap.size + 1, #[.int .i64 0, .int .i64 0, .int .i64 0, .int .i64 0, .int .i64 0, .int .i64 0, .int .i64 0, .int .i64 0, .int .i64 0, .slice none 0 0], 27)]) := hd_; have HOw4 : Hid (OwnE w4 w0.heap.size (.slice (some ⟨qb, 0, none⟩) n cap) m.es) := HOc.out.grown hg_ HW.out.gl; have cew4 := (hd_.blk 0 rfl).cell; have few4 := (hd_.blk 0 rfl).free; clear hd_ hg_)
          | (go_at_call 23; clear A3; refine (HPN.out _ HDw4.out).mono ?_; rintro e w5 ⟨rfl, hd_, hg_⟩; have HDw5 : Hid (Dr w w5 g v l (K + 1 + 1) [(w.heap.size, #[.int .i64 m.ki, .int .i64 m.fr, .int .i64 m.td, .int .i64 m.tm, .int .i64 m.li, .int .i64 m.lt, .int .i64 m.cm, .int .i64 m.ok, .int .i64 m.hi, .slice (some ⟨qb, 0, none⟩) n cap], 27), (w.heap.size + 1, #[.int .i64 0, .int .i64 0, .int .i64 0, .int .i64 0, .int .i64 0, .int .i64 0, .int .i64 0, .int .i64 0, .int .i64 0, .slice none 0 0], 27)]) := hd_; have HOw5 : Hid (OwnE w5 w0.heap.size (.slice (some ⟨qb, 0, none⟩) n cap) m.es) := HOw4.out.grown hg_ HW.out.gl; have ce5 := (hd_.blk 0 rfl).cell; clear hd_ hg_)
          | (go_at_call 23; refine (HDw5.out.pickG 2 hL (by omega) (by decide) (by decide)).mono ?_; rintro e w6 ⟨rfl, hd_, hg_⟩; rw [← Hq.out]; have HDw6 : Hid (Dr w w6 g v l (K + 1 + 1 + 1) [(w.heap.size, #[.int .i64 m.ki, .int .i64 m.fr, .int .i64 m.td, .int .i64 m.tm, .int .i64 m.li, .int .i64 m.lt, .int .i64 m.cm, .int .i64 m.ok, .int .i64 m.hi, .slice (some ⟨qb, 0, none⟩) n cap], 27), (w.heap.size + 1, #[.int .i64 0, .int .i64 0, .int .i64 0, .int .i64 0, .int .i64 0, .int .i64 0, .int .i64 0, .int .i64 0, .int .i64 0, .slice none 0 0], 27)]) := hd_; have HOw6 : Hid (OwnE w6 w0.heap.size (.slice (some ⟨qb, 0, none⟩) n cap) m.es) := HOw5.out.grown hg_ HW.out.gl; have cew6 := (hd_.blk 0 rfl).cell; have few6 := (hd_.blk 0 rfl).free; clear hd_ hg_))
        obtain ⟨qc, hqc, ⟨e0, e1, e2, e3, e4, e5, e6⟩, hf3⟩ := ownAt HOw6.out Hn.out (k := i) bi (by unfold maxLen; omega)
        injection hqc with hqc
        injection hqc with hqc
        subst hqc
        rw [← Hy.out] at e0 e1 e2 e3 e4 e5 e6
        go_cut [109] (fun _ wx => OwnE wx w0.heap.size (.slice (some ⟨qb, 0, none⟩) n cap) (m.es.set i (setCE cb y)) ∧ Dr w0 wx g v l KB [(w.heap.size, #[.int .i64 m.ki, .int .i64 m.fr, .int .i64 m.td, .int .i64 m.tm, .int .i64 m.li, .int .i64 m.lt, .int .i64 m.cm, .int .i64 m.ok, .int .i64 m.hi, .slice (some ⟨qb, 0, none⟩) n cap], 27), (w.heap.size + 1, #[.int .i64 0, .int .i64 0, .int .i64 0, .int .i64 0, .int .i64 0, .int .i64 0, .int .i64 0, .int .i64 0, .int .i64 0, .slice none 0 0], 27)] ∧ ∀ b, b < w.heap.size → b ≠ g → qb ≠ b → wx.heap[b]? = w.heap[b]?)
        case first =>
          have HDd : Hid (Dr w w6.drew g v l (K + 1 + 1 + 1) [(w.heap.size, #[.int .i64 m.ki, .int .i64 m.fr, .int .i64 m.td, .int .i64 m.tm, .int .i64 m.li, .int .i64 m.lt, .int .i64 m.cm, .int .i64 m.ok, .int .i64 m.hi, .slice (some ⟨qb, 0, none⟩) n cap], 27), (w.heap.size + 1, #[.int .i64 0, .int .i64 0, .int .i64 0, .int .i64 0, .int .i64 0, .int .i64 0, .int .i64 0, .int .i64 0, .int .i64 0, .slice none 0 0], 27)]) := HDw6.out.drew
          have HOd : Hid (OwnE w6.drew w0.heap.size (.slice (some ⟨qb, 0, none⟩) n cap) m.es) := HOw6.out.below (Below.refl _ _).drew
          go_region_with (go_at_call 31; refine (HBC.out _ HDd.out.src).mono ?_; rintro e w7 ⟨rfl, hs_, hg_⟩; have HDw7 : Hid (Dr w w7 g v l KB [(w.heap.size, #[.int .i64 m.ki, .int .i64 m.fr, .int .i64 m.td, .int .i64 m.tm, .int .i64 m.li, .int .i64 m.lt, .int .i64 m.cm, .int .i64 m.ok, .int .i64 m.hi, .slice (some ⟨qb, 0, none⟩) n cap], 27), (w.heap.size + 1, #[.int .i64 0, .int .i64 0, .int .i64 0, .int .i64 0, .int .i64 0, .int .i64 0, .int .i64 0, .int .i64 0, .int .i64 0, .slice none 0 0], 27)]) := HDd.out.call hs_ hg_; have ce7 := (HDw7.out.blk 0 rfl).cell; have HOw7 : Hid (OwnE w7 w0.heap.size (.slice (some ⟨qb, 0, none⟩) n cap) m.es) := HOd.out.grown hg_ HW.out.gl; obtain ⟨qd, hqd, ⟨d0, d1, d2, d3, d4, d5, d6⟩, hf7⟩ := ownAt HOw7.out Hn.out (k := i) bi (by unfold maxLen; omega); injection hqd with hqd; injection hqd with hqd; subst hqd; clear hs_ hg_)
          all_goals
            go_wp2_with fail
            go_meet
            rw [six_cells]
            exact ⟨(by rw [Hy.out]; exact HOw7.out.setC Hn.out i bi cb Hfit.out), (HW.out.rebase HDw7.out).grew (grewCells (n := n) (c := cap) cb.cells _ _) (fun q' hq' => by injection hq' with hq'; have : qb = q' := hq'; omega) (fun x hx => by obtain ⟨j, hj⟩ := List.getElem?_of_mem hx; have hx1 := (HDw7.out.blks j x hj).1; intro e; injection e with e; have : qb = x.1 := e; omega), fun b hb hne hq => (setCellsOther (fun e => hq e.symm) _ _ _).trans (HDw7.out.grown.block b hb (fun e => hne (by injection e)))⟩
        case rest =>
          obtain ⟨ho, hd, hoth⟩ := hcut
          have HOz : Hid (OwnE wc w0.heap.size (.slice (some ⟨qb, 0, none⟩) n cap) (m.es.set i (setCE cb y))) := ho
          have HDz : Hid (Dr w0 wc g v l KB [(w.heap.size, #[.int .i64 m.ki, .int .i64 m.fr, .int .i64 m.td, .int .i64 m.tm, .int .i64 m.li, .int .i64 m.lt, .int .i64 m.cm, .int .i64 m.ok, .int .i64 m.hi, .slice (some ⟨qb, 0, none⟩) n cap], 27), (w.heap.size + 1, #[.int .i64 0, .int .i64 0, .int .i64 0, .int .i64 0, .int .i64 0, .int .i64 0, .int .i64 0, .int .i64 0, .int .i64 0, .slice none 0 0], 27)]) := hd
          have HOth : Hid (∀ b, b < w.heap.size → b ≠ g → qb ≠ b → wc.heap[b]? = w.heap[b]?) := hoth
          clear ho hd hoth
          go_wp2_with (first
            | (have hBA := HDz; refine gate_ld 27 (.tmp 3) rfl ?_; clear hBA; refine wpl_load_blk rfl 27 (.tmp 3) rfl (w.heap.size) rfl (HDz.out.blk 0 rfl) Tryz.underlying27 rfl infoMsgB rfl ?_)
            | (have hBA := HDz; refine gate_st 27 (.tmp 4) _ rfl ?_; clear hBA; refine wpl_store_blk rfl 27 (.tmp 4) _ rfl (w.heap.size + 1) rfl rfl (HDz.out.blk 1 rfl) infoMsgB rfl rfl (by simp [Value.oneCell']) ?_))
          have hR := HDz.out.row 1 rfl #[.int .i64 m.ki, .int .i64 m.fr, .int .i64 m.td, .int .i64 m.tm, .int .i64 m.li, .int .i64 m.lt, .int .i64 m.cm, .int .i64 m.ok, .int .i64 m.hi, .slice (some ⟨qb, 0, none⟩) n cap] (noU8_of rfl)
          have o2 := ownE_blkM HOz.out (HDz.out.blk 1 rfl) (by decide) (setRow_keepM _ _ #[.int .i64 m.ki, .int .i64 m.fr, .int .i64 m.td, .int .i64 m.tm, .int .i64 m.li, .int .i64 m.lt, .int .i64 m.cm, .int .i64 m.ok, .int .i64 m.hi, .slice (some ⟨qb, 0, none⟩) n cap])
          have hes : R.1.es = m.es.set i (setCE cb y) := by rw [HB.out]
          exact bodyPost_ret (results_blk Tryz.results24 rfl (hR.blk 1 rfl) Tryz.underlying27 rfl infoMsgB rfl) rfl ⟨some ⟨qb, 0, none⟩, cap, by rw [HnR.out, HB.out]; dsimp only; rw [Hlen.out], by rw [HnR.out, hes, Hlen.out]; exact o2, by rw [HB.out]; exact hR.nilF, fun b hb hne hq => (setRow_other _ _ _ _ (by omega)).trans (HOth.out b hb hne (fun e => hq (by rw [e]; rfl)))⟩
end Go.Proofs.YtafmjckpbcijoaaGreatDoor
