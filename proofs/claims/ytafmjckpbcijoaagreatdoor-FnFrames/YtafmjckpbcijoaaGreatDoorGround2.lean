import Derived.Test.YtafmjckpbcijoaaGreatDoorGround
import Derived.Deep.RegionHeld3
import Derived.Deep.AppendLies
import Derived.Laws.BitsAllLaws
import Derived.Deep.QuietTactic
import Derived.BigQuiet
/-
  spec.l1badMsg.
-/
namespace Go.Proofs.YtafmjckpbcijoaaGreatDoor
open Go.RowKit
set_option linter.unusedVariables false
set_option linter.unusedSimpArgs false

structure MsgE where
  ki : Int
  fr : Int
  td : Int
  tm : Int
  li : Int
  lt : Int
  cm : Int
  ok : Int
  hi : Int
  es : List Ent
def mbV (l : List Int) (k : Nat) : Int × Nat := if pickV l (k + 1) 3 = 0 then (4096 + ((pickV l (k + 1 + 1) 3 : Nat) : Int) - 1, k + 1 + 1 + 1) else (((pickV l k 5 : Nat) : Int) - 2, k + 1 + 1)
/-- a message with one thing spoilt, and where the draws stand: behind the number v -/
def badN (l : List Int) (V : Int) (k : Nat) (m : MsgE) : MsgE × Nat :=
  if pickV l k 11 = 0 then ({ m with ki := ((pickV l (k + 1) 10 : Nat) : Int) - 1 }, k + 1 + 1)
  else if pickV l k 11 = 1 then ({ m with fr := ((pickV l (k + 1) 11 : Nat) : Int) - 1 }, k + 1 + 1)
  else if pickV l k 11 = 2 then ({ m with td := ((pickV l (k + 1) 11 : Nat) : Int) - 1 }, k + 1 + 1)
  else if pickV l k 11 = 3 then ({ m with tm := ((pickV l (k + 1) 2 : Nat) : Int) * (1073741824 + ((pickV l (k + 1 + 1) 2 : Nat) : Int)) }, k + 1 + 1 + 1)
  else if pickV l k 11 = 4 then ({ m with li := V }, k + 1)
  else if pickV l k 11 = 5 then ({ m with lt := m.tm + V }, k + 1)
  else if pickV l k 11 = 6 then ({ m with cm := V }, k + 1)
  else if pickV l k 11 = 7 then ({ m with ok := V }, k + 1)
  else if pickV l k 11 = 8 then ({ m with hi := V }, k + 1)
  else if pickV l k 11 = 9 then ({ m with es := (entsD l (k + 1 + 1) 1 (31 + pickV l (k + 1) 4)).1 }, (entsD l (k + 1 + 1) 1 (31 + pickV l (k + 1) 4)).2.1)
  else if m.es.length = 0 then ({ m with es := (entsD l (k + 1) 1 1).1 }, (entsD l (k + 1) 1 1).2.1)
  else if pickV l (k + 1 + 1) 2 = 0 then ({ m with es := m.es.set (pickV l (k + 1) m.es.length) (setTE (m.lt + V) (entAtD m.es (pickV l (k + 1) m.es.length))) }, k + 1 + 1 + 1)
  else ({ m with es := m.es.set (pickV l (k + 1) m.es.length) (setCE (badC l (k + 1 + 1 + 1) (entAtD m.es (pickV l (k + 1) m.es.length)).cmd).1 (entAtD m.es (pickV l (k + 1) m.es.length))) }, (badC l (k + 1 + 1 + 1) (entAtD m.es (pickV l (k + 1) m.es.length)).cmd).2)
def badM (l : List Int) (k : Nat) (m : MsgE) : MsgE × Nat := badN l (mbV l k).1 (mbV l k).2 m
theorem ownE_blkM {w w' : World} {B b : Nat} {v : Value} {l : List Ent} {C : Array Value} {t : TypeId} (h : OwnE w B v l) (hb : Blk w b C t) (hne : 87 ≠ t) (hk : ∀ q, q ≠ b → w'.heap[q]? = w.heap[q]?) : OwnE w' B v l :=
  h.block fun q hq => hk q (fun e => ownsRow.neBlk h.2 hb hne (by rw [hq, e]))
theorem set_keepM (w : World) (b j : Nat) (x : Value) : ∀ q, q ≠ b → (w.setCell ⟨b, j, none⟩ x).heap[q]? = w.heap[q]? := fun q hq => Below.heap_setCell _ _ _ _ hq
theorem setRow_keepM (w : World) (b : Nat) (C : Array Value) : ∀ q, q ≠ b → (w.setRow b C).heap[q]? = w.heap[q]? := fun q hq => setRow_other _ _ _ _ hq
theorem infoMsgB : (Tryz.prog.info? 27).map (·.size) = some 10 := by kernel_rfl
theorem mbV_ok (l : List Int) (k : Nat) : -2 ≤ (mbV l k).1 ∧ (mbV l k).1 ≤ 4098 ∧ (mbV l k).2 ≤ k + 3 := by
  have h1 := pickV_lt l (k + 1 + 1) 3 (by decide)
  have h2 := pickV_lt l k 5 (by decide)
  unfold mbV
  split <;> (dsimp only; omega)
set_option maxHeartbeats 16000000 in
set_option maxRecDepth 100000 in
theorem l1badMsg_any (g : Nat) (w0 w : World) (v : Value) (l : List Int) (k : Nat) (m : MsgE) (a : Option Addr) (cap n : Nat) (hL : l.length ≤ 1048576) (hk : k ≤ 300000000) (hn : n = m.es.length) (hn2 : n ≤ 200) (htm : -4294967296 ≤ m.tm ∧ m.tm ≤ 4294967296) (hlt : -4294967296 ≤ m.lt ∧ m.lt ≤ 4294967296) (h : Dr w0 w g v l k []) (hO : OwnE w w0.heap.size (.slice a n cap) m.es) :
    Calls Tryz.prog 24 #[.pointer (some ⟨g, 0, none⟩), .agg #[.int .i64 m.ki, .int .i64 m.fr, .int .i64 m.td, .int .i64 m.tm, .int .i64 m.li, .int .i64 m.lt, .int .i64 m.cm, .int .i64 m.ok, .int .i64 m.hi, .slice a n cap]] w fun r w' => ∃ ea ec, r = .returned (.agg #[.int .i64 (badM l k m).1.ki, .int .i64 (badM l k m).1.fr, .int .i64 (badM l k m).1.td, .int .i64 (badM l k m).1.tm, .int .i64 (badM l k m).1.li, .int .i64 (badM l k m).1.lt, .int .i64 (badM l k m).1.cm, .int .i64 (badM l k m).1.ok, .int .i64 (badM l k m).1.hi, .slice ea (badM l k m).1.es.length ec]) ∧ OwnE w' w0.heap.size (.slice ea (badM l k m).1.es.length ec) (badM l k m).1.es ∧ Dr w0 w' g v l (badM l k m).2 [] ∧ ∀ b, b < w.heap.size → b ≠ g → (Value.slice a n cap).ownBlock ≠ some b → w'.heap[b]? = w.heap[b]? := by
  have hg0 : g < w.heap.size := h.src.lt
  have HD0 : Hid (Dr w ((w.alloc (.cells #[.int .i64 m.ki, .int .i64 m.fr, .int .i64 m.td, .int .i64 m.tm, .int .i64 m.li, .int .i64 m.lt, .int .i64 m.cm, .int .i64 m.ok, .int .i64 m.hi, .slice a n cap] 27)).alloc (.cells #[.int .i64 0, .int .i64 0, .int .i64 0, .int .i64 0, .int .i64 0, .int .i64 0, .int .i64 0, .int .i64 0, .int .i64 0, .slice none 0 0] 27)) g v l k [(w.heap.size, #[.int .i64 m.ki, .int .i64 m.fr, .int .i64 m.td, .int .i64 m.tm, .int .i64 m.li, .int .i64 m.lt, .int .i64 m.cm, .int .i64 m.ok, .int .i64 m.hi, .slice a n cap], 27), (w.heap.size + 1, #[.int .i64 0, .int .i64 0, .int .i64 0, .int .i64 0, .int .i64 0, .int .i64 0, .int .i64 0, .int .i64 0, .int .i64 0, .slice none 0 0], 27)]) := by
    have hX := ((Dr.start h.src).new #[.int .i64 m.ki, .int .i64 m.fr, .int .i64 m.td, .int .i64 m.tm, .int .i64 m.li, .int .i64 m.lt, .int .i64 m.cm, .int .i64 m.ok, .int .i64 m.hi, .slice a n cap] 27 (noU8_of rfl)).new #[.int .i64 0, .int .i64 0, .int .i64 0, .int .i64 0, .int .i64 0, .int .i64 0, .int .i64 0, .int .i64 0, .int .i64 0, .slice none 0 0] 27 (noU8_of rfl)
    have hY : Dr w ((w.alloc (.cells #[.int .i64 m.ki, .int .i64 m.fr, .int .i64 m.td, .int .i64 m.tm, .int .i64 m.li, .int .i64 m.lt, .int .i64 m.cm, .int .i64 m.ok, .int .i64 m.hi, .slice a n cap] 27)).alloc (.cells #[.int .i64 0, .int .i64 0, .int .i64 0, .int .i64 0, .int .i64 0, .int .i64 0, .int .i64 0, .int .i64 0, .int .i64 0, .slice none 0 0] 27)) g v l k [(w.heap.size, #[.int .i64 m.ki, .int .i64 m.fr, .int .i64 m.td, .int .i64 m.tm, .int .i64 m.li, .int .i64 m.lt, .int .i64 m.cm, .int .i64 m.ok, .int .i64 m.hi, .slice a n cap], 27), (w.heap.size + 1, #[.int .i64 0, .int .i64 0, .int .i64 0, .int .i64 0, .int .i64 0, .int .i64 0, .int .i64 0, .int .i64 0, .int .i64 0, .slice none 0 0], 27)] := by simpa using hX
    exact hY
  have HW : Hid (Dr w0 w g v l k []) := h
  have HO : Hid (OwnE w w0.heap.size (.slice a n cap) m.es) := hO
  have Hn : Hid (n = m.es.length) := hn
  clear h hO hn
  unfold badM
  have hV := mbV_ok l k
  have HV : Hid (mbV l k = if pickV l (k + 1) 3 = 0 then (4096 + ((pickV l (k + 1 + 1) 3 : Nat) : Int) - 1, k + 1 + 1 + 1) else (((pickV l k 5 : Nat) : Int) - 2, k + 1 + 1)) := (rfl : mbV l k = _)
  generalize mbV l k = VK at *
  obtain ⟨V, K⟩ := VK
  dsimp only at hV ⊢
  obtain ⟨hV1, hV2, hK⟩ := hV
  have hB : badN l V K m = badN l V K m := rfl
  conv at hB => rhs; unfold badN
  have HB : Hid (badN l V K m = _) := hB
  generalize badN l V K m = R at *
  clear hB
  obtain ⟨p5, hp5⟩ : ∃ p, p = pickV l k 5 := ⟨_, rfl⟩
  have b5 := pickV_lt l k 5 (by decide)
  obtain ⟨p3, hp3⟩ : ∃ p, p = pickV l (k + 1) 3 := ⟨_, rfl⟩
  have b3 := pickV_lt l (k + 1) 3 (by decide)
  obtain ⟨q3, hq3⟩ : ∃ p, p = pickV l (k + 1 + 1) 3 := ⟨_, rfl⟩
  have c3 := pickV_lt l (k + 1 + 1) 3 (by decide)
  rw [← hp5] at b5 HV
  rw [← hp3] at b3 HV
  rw [← hq3] at c3 HV
  have Hp5 : Hid (p5 = pickV l k 5) := hp5
  have Hp3 : Hid (p3 = pickV l (k + 1) 3) := hp3
  have Hq3 : Hid (q3 = pickV l (k + 1 + 1) 3) := hq3
  clear hp5 hp3 hq3
  obtain ⟨p, hp⟩ : ∃ p, p = pickV l K 11 := ⟨_, rfl⟩
  have b11 := pickV_lt l K 11 (by decide)
  rw [← hp] at b11 HB
  have Hp : Hid (p = pickV l K 11) := hp
  clear hp
  obtain ⟨nR, hnR⟩ : ∃ n, n = R.1.es.length := ⟨_, rfl⟩
  rw [← hnR]
  have HnR : Hid (nR = R.1.es.length) := hnR
  clear hnR
  have A1 : True := trivial
  have A2 : True := trivial
  go_enter Tryz.func24, Tryz.ntmps24
  go_upto_if 13 with (first
    | (go_at_call 23; clear A2; refine (HD0.out.pick1 5 hL (by omega) (by decide) (by decide)).mono ?_; rintro e w1 ⟨rfl, hd_⟩; rw [← Hp5.out]; have HDw1 : Hid (Dr w w1 g v l (k + 1) [(w.heap.size, #[.int .i64 m.ki, .int .i64 m.fr, .int .i64 m.td, .int .i64 m.tm, .int .i64 m.li, .int .i64 m.lt, .int .i64 m.cm, .int .i64 m.ok, .int .i64 m.hi, .slice a n cap], 27), (w.heap.size + 1, #[.int .i64 0, .int .i64 0, .int .i64 0, .int .i64 0, .int .i64 0, .int .i64 0, .int .i64 0, .int .i64 0, .int .i64 0, .slice none 0 0], 27)]) := hd_; have cew1 := (hd_.blk 0 rfl).cell; have few1 := (hd_.blk 0 rfl).free; clear hd_)
    | (go_at_call 23; refine (HDw1.out.pick1 3 hL (by omega) (by decide) (by decide)).mono ?_; rintro e w2 ⟨rfl, hd_⟩; rw [← Hp3.out]; have HDw2 : Hid (Dr w w2 g v l (k + 1 + 1) [(w.heap.size, #[.int .i64 m.ki, .int .i64 m.fr, .int .i64 m.td, .int .i64 m.tm, .int .i64 m.li, .int .i64 m.lt, .int .i64 m.cm, .int .i64 m.ok, .int .i64 m.hi, .slice a n cap], 27), (w.heap.size + 1, #[.int .i64 0, .int .i64 0, .int .i64 0, .int .i64 0, .int .i64 0, .int .i64 0, .int .i64 0, .int .i64 0, .int .i64 0, .slice none 0 0], 27)]) := hd_; have cew2 := (hd_.blk 0 rfl).cell; have few2 := (hd_.blk 0 rfl).free; clear hd_))
  go_cut [5] (fun s5 wx => s5 = .int .i64 V ∧ Dr w wx g v l K [(w.heap.size, #[.int .i64 m.ki, .int .i64 m.fr, .int .i64 m.td, .int .i64 m.tm, .int .i64 m.li, .int .i64 m.lt, .int .i64 m.cm, .int .i64 m.ok, .int .i64 m.hi, .slice a n cap], 27), (w.heap.size + 1, #[.int .i64 0, .int .i64 0, .int .i64 0, .int .i64 0, .int .i64 0, .int .i64 0, .int .i64 0, .int .i64 0, .int .i64 0, .slice none 0 0], 27)])
  case first =>
    by_cases c0 : p3 = 0
    · subst c0
      rw [if_pos rfl] at HV
      have hVV := HV.out
      injection hVV with e1 e2
      have E1 : Hid (V = 4096 + (q3 : Int) - 1) := e1
      have E2 : Hid (K = k + 1 + 1 + 1) := e2
      clear e1 e2
      go_wp2_with (go_at_call 23; refine (HDw2.out.pick1 3 hL (by omega) (by decide) (by decide)).mono ?_; rintro e w3 ⟨rfl, hd_⟩; rw [← Hq3.out]; have HDw3 : Hid (Dr w w3 g v l (k + 1 + 1 + 1) [(w.heap.size, #[.int .i64 m.ki, .int .i64 m.fr, .int .i64 m.td, .int .i64 m.tm, .int .i64 m.li, .int .i64 m.lt, .int .i64 m.cm, .int .i64 m.ok, .int .i64 m.hi, .slice a n cap], 27), (w.heap.size + 1, #[.int .i64 0, .int .i64 0, .int .i64 0, .int .i64 0, .int .i64 0, .int .i64 0, .int .i64 0, .int .i64 0, .int .i64 0, .slice none 0 0], 27)]) := hd_; have cew3 := (hd_.blk 0 rfl).cell; have few3 := (hd_.blk 0 rfl).free; clear hd_)
      go_meet
      exact ⟨by rw [E1.out], by rw [E2.out]; exact HDw3.out⟩
    · rw [if_neg c0] at HV
      have hVV := HV.out
      injection hVV with e1 e2
      have E1 : Hid (V = (p5 : Int) - 2) := e1
      have E2 : Hid (K = k + 1 + 1) := e2
      clear e1 e2
      have c1 : ((p3 : Int) == 0) = false := by rw [beq_eq_false_iff_ne]; omega
      go_wp2_with fail
      go_meet
      exact ⟨by rw [E1.out], by rw [E2.out]; exact HDw2.out⟩
  case rest =>
    obtain ⟨rfl, hd⟩ := hcut
    have HDK : Hid (Dr w wc g v l K [(w.heap.size, #[.int .i64 m.ki, .int .i64 m.fr, .int .i64 m.td, .int .i64 m.tm, .int .i64 m.li, .int .i64 m.lt, .int .i64 m.cm, .int .i64 m.ok, .int .i64 m.hi, .slice a n cap], 27), (w.heap.size + 1, #[.int .i64 0, .int .i64 0, .int .i64 0, .int .i64 0, .int .i64 0, .int .i64 0, .int .i64 0, .int .i64 0, .int .i64 0, .slice none 0 0], 27)]) := hd
    have cek := (hd.blk 0 rfl).cell
    have fek := (hd.blk 0 rfl).free
    clear hd HD0 HDw1 HDw2
    rcases (show p = 0 ∨ p = 1 ∨ p = 2 ∨ p = 3 ∨ p = 4 ∨ p = 5 ∨ p = 6 ∨ p = 7 ∨ p = 8 ∨ p = 9 ∨ (p = 10 ∧ n = 0) ∨ (p = 10 ∧ 0 < n) by omega) with c0 | c0 | c0 | c0 | c0 | c0 | c0 | c0 | c0 | c0 | ⟨c0, c1⟩ | ⟨c0, c1⟩
    · subst c0
      rw [if_pos rfl] at HB
      have bq := pickV_lt l (K + 1) 10 (by decide)
      obtain ⟨q, hq⟩ : ∃ q, q = pickV l (K + 1) 10 := ⟨_, rfl⟩
      have Hq : Hid (q = pickV l (K + 1) 10) := hq
      rw [← hq] at bq HB
      clear hq
      go_wp2_with (first
        | (go_at_call 23; clear A1; refine (HDK.out.pick1 11 hL (by omega) (by decide) (by decide)).mono ?_; rintro e w4 ⟨rfl, hd_⟩; rw [← Hp.out]; have HDw4 : Hid (Dr w w4 g v l (K + 1) [(w.heap.size, #[.int .i64 m.ki, .int .i64 m.fr, .int .i64 m.td, .int .i64 m.tm, .int .i64 m.li, .int .i64 m.lt, .int .i64 m.cm, .int .i64 m.ok, .int .i64 m.hi, .slice a n cap], 27), (w.heap.size + 1, #[.int .i64 0, .int .i64 0, .int .i64 0, .int .i64 0, .int .i64 0, .int .i64 0, .int .i64 0, .int .i64 0, .int .i64 0, .slice none 0 0], 27)]) := hd_; have cew4 := (hd_.blk 0 rfl).cell; have few4 := (hd_.blk 0 rfl).free; clear hd_)
        | (go_at_call 23; refine (HDw4.out.pick1 10 hL (by omega) (by decide) (by decide)).mono ?_; rintro e w5 ⟨rfl, hd_⟩; rw [← Hq.out]; have HDw5 : Hid (Dr w w5 g v l (K + 1 + 1) [(w.heap.size, #[.int .i64 m.ki, .int .i64 m.fr, .int .i64 m.td, .int .i64 m.tm, .int .i64 m.li, .int .i64 m.lt, .int .i64 m.cm, .int .i64 m.ok, .int .i64 m.hi, .slice a n cap], 27), (w.heap.size + 1, #[.int .i64 0, .int .i64 0, .int .i64 0, .int .i64 0, .int .i64 0, .int .i64 0, .int .i64 0, .int .i64 0, .int .i64 0, .slice none 0 0], 27)]) := hd_; have cew5 := (hd_.blk 0 rfl).cell; have few5 := (hd_.blk 0 rfl).free; have HDx : Hid (Dr w (w5.setCell ⟨w.heap.size, 0, none⟩ (.int .i64 ((q : Int) - 1))) g v l (K + 1 + 1) [(w.heap.size, #[.int .i64 ((q : Int) - 1), .int .i64 m.fr, .int .i64 m.td, .int .i64 m.tm, .int .i64 m.li, .int .i64 m.lt, .int .i64 m.cm, .int .i64 m.ok, .int .i64 m.hi, .slice a n cap], 27), (w.heap.size + 1, #[.int .i64 0, .int .i64 0, .int .i64 0, .int .i64 0, .int .i64 0, .int .i64 0, .int .i64 0, .int .i64 0, .int .i64 0, .slice none 0 0], 27)]) := hd_.set 0 rfl 0 (by simp) (.int .i64 ((q : Int) - 1)) rfl; clear hd_)
        | (have hBA := HDx; refine gate_ld 27 (.tmp 3) rfl ?_; clear hBA; refine wpl_load_blk rfl 27 (.tmp 3) rfl (w.heap.size) rfl (HDx.out.blk 0 rfl) Tryz.underlying27 rfl infoMsgB rfl ?_)
        | (have hBA := HDx; refine gate_st 27 (.tmp 4) _ rfl ?_; clear hBA; refine wpl_store_blk rfl 27 (.tmp 4) _ rfl (w.heap.size + 1) rfl rfl (HDx.out.blk 1 rfl) infoMsgB rfl rfl (by simp [Value.oneCell']) ?_))
      have hR := HDx.out.row 1 rfl #[.int .i64 ((q : Int) - 1), .int .i64 m.fr, .int .i64 m.td, .int .i64 m.tm, .int .i64 m.li, .int .i64 m.lt, .int .i64 m.cm, .int .i64 m.ok, .int .i64 m.hi, .slice a n cap] (noU8_of rfl)
      have hq := badAt_quiet HW.out HO.out hR.src hR.grown
      have hes : R.1.es = m.es := by rw [HB.out]
      exact bodyPost_ret (results_blk Tryz.results24 rfl (hR.blk 1 rfl) Tryz.underlying27 rfl infoMsgB rfl) rfl ⟨a, cap, by rw [HnR.out, HB.out]; dsimp only; rw [← Hn.out], by rw [HnR.out, hes, ← Hn.out]; exact hq.1, by rw [HB.out]; exact hq.2.1, hq.2.2⟩
    · subst c0
      rw [if_neg (by decide), if_pos rfl] at HB
      have bq := pickV_lt l (K + 1) 11 (by decide)
      obtain ⟨q, hq⟩ : ∃ q, q = pickV l (K + 1) 11 := ⟨_, rfl⟩
      have Hq : Hid (q = pickV l (K + 1) 11) := hq
      rw [← hq] at bq HB
      clear hq
      go_wp2_with (first
        | (go_at_call 23; clear A1; refine (HDK.out.pick1 11 hL (by omega) (by decide) (by decide)).mono ?_; rintro e w4 ⟨rfl, hd_⟩; rw [← Hp.out]; have HDw4 : Hid (Dr w w4 g v l (K + 1) [(w.heap.size, #[.int .i64 m.ki, .int .i64 m.fr, .int .i64 m.td, .int .i64 m.tm, .int .i64 m.li, .int .i64 m.lt, .int .i64 m.cm, .int .i64 m.ok, .int .i64 m.hi, .slice a n cap], 27), (w.heap.size + 1, #[.int .i64 0, .int .i64 0, .int .i64 0, .int .i64 0, .int .i64 0, .int .i64 0, .int .i64 0, .int .i64 0, .int .i64 0, .slice none 0 0], 27)]) := hd_; have cew4 := (hd_.blk 0 rfl).cell; have few4 := (hd_.blk 0 rfl).free; clear hd_)
        | (go_at_call 23; refine (HDw4.out.pick1 11 hL (by omega) (by decide) (by decide)).mono ?_; rintro e w5 ⟨rfl, hd_⟩; rw [← Hq.out]; have HDw5 : Hid (Dr w w5 g v l (K + 1 + 1) [(w.heap.size, #[.int .i64 m.ki, .int .i64 m.fr, .int .i64 m.td, .int .i64 m.tm, .int .i64 m.li, .int .i64 m.lt, .int .i64 m.cm, .int .i64 m.ok, .int .i64 m.hi, .slice a n cap], 27), (w.heap.size + 1, #[.int .i64 0, .int .i64 0, .int .i64 0, .int .i64 0, .int .i64 0, .int .i64 0, .int .i64 0, .int .i64 0, .int .i64 0, .slice none 0 0], 27)]) := hd_; have cew5 := (hd_.blk 0 rfl).cell; have few5 := (hd_.blk 0 rfl).free; have HDx : Hid (Dr w (w5.setCell ⟨w.heap.size, 1, none⟩ (.int .i64 ((q : Int) - 1))) g v l (K + 1 + 1) [(w.heap.size, #[.int .i64 m.ki, .int .i64 ((q : Int) - 1), .int .i64 m.td, .int .i64 m.tm, .int .i64 m.li, .int .i64 m.lt, .int .i64 m.cm, .int .i64 m.ok, .int .i64 m.hi, .slice a n cap], 27), (w.heap.size + 1, #[.int .i64 0, .int .i64 0, .int .i64 0, .int .i64 0, .int .i64 0, .int .i64 0, .int .i64 0, .int .i64 0, .int .i64 0, .slice none 0 0], 27)]) := hd_.set 0 rfl 1 (by simp) (.int .i64 ((q : Int) - 1)) rfl; clear hd_)
        | (have hBA := HDx; refine gate_ld 27 (.tmp 3) rfl ?_; clear hBA; refine wpl_load_blk rfl 27 (.tmp 3) rfl (w.heap.size) rfl (HDx.out.blk 0 rfl) Tryz.underlying27 rfl infoMsgB rfl ?_)
        | (have hBA := HDx; refine gate_st 27 (.tmp 4) _ rfl ?_; clear hBA; refine wpl_store_blk rfl 27 (.tmp 4) _ rfl (w.heap.size + 1) rfl rfl (HDx.out.blk 1 rfl) infoMsgB rfl rfl (by simp [Value.oneCell']) ?_))
      have hR := HDx.out.row 1 rfl #[.int .i64 m.ki, .int .i64 ((q : Int) - 1), .int .i64 m.td, .int .i64 m.tm, .int .i64 m.li, .int .i64 m.lt, .int .i64 m.cm, .int .i64 m.ok, .int .i64 m.hi, .slice a n cap] (noU8_of rfl)
      have hq := badAt_quiet HW.out HO.out hR.src hR.grown
      have hes : R.1.es = m.es := by rw [HB.out]
      exact bodyPost_ret (results_blk Tryz.results24 rfl (hR.blk 1 rfl) Tryz.underlying27 rfl infoMsgB rfl) rfl ⟨a, cap, by rw [HnR.out, HB.out]; dsimp only; rw [← Hn.out], by rw [HnR.out, hes, ← Hn.out]; exact hq.1, by rw [HB.out]; exact hq.2.1, hq.2.2⟩
    · subst c0
      rw [if_neg (by decide), if_neg (by decide), if_pos rfl] at HB
      have bq := pickV_lt l (K + 1) 11 (by decide)
      obtain ⟨q, hq⟩ : ∃ q, q = pickV l (K + 1) 11 := ⟨_, rfl⟩
      have Hq : Hid (q = pickV l (K + 1) 11) := hq
      rw [← hq] at bq HB
      clear hq
      go_wp2_with (first
        | (go_at_call 23; clear A1; refine (HDK.out.pick1 11 hL (by omega) (by decide) (by decide)).mono ?_; rintro e w4 ⟨rfl, hd_⟩; rw [← Hp.out]; have HDw4 : Hid (Dr w w4 g v l (K + 1) [(w.heap.size, #[.int .i64 m.ki, .int .i64 m.fr, .int .i64 m.td, .int .i64 m.tm, .int .i64 m.li, .int .i64 m.lt, .int .i64 m.cm, .int .i64 m.ok, .int .i64 m.hi, .slice a n cap], 27), (w.heap.size + 1, #[.int .i64 0, .int .i64 0, .int .i64 0, .int .i64 0, .int .i64 0, .int .i64 0, .int .i64 0, .int .i64 0, .int .i64 0, .slice none 0 0], 27)]) := hd_; have cew4 := (hd_.blk 0 rfl).cell; have few4 := (hd_.blk 0 rfl).free; clear hd_)
        | (go_at_call 23; refine (HDw4.out.pick1 11 hL (by omega) (by decide) (by decide)).mono ?_; rintro e w5 ⟨rfl, hd_⟩; rw [← Hq.out]; have HDw5 : Hid (Dr w w5 g v l (K + 1 + 1) [(w.heap.size, #[.int .i64 m.ki, .int .i64 m.fr, .int .i64 m.td, .int .i64 m.tm, .int .i64 m.li, .int .i64 m.lt, .int .i64 m.cm, .int .i64 m.ok, .int .i64 m.hi, .slice a n cap], 27), (w.heap.size + 1, #[.int .i64 0, .int .i64 0, .int .i64 0, .int .i64 0, .int .i64 0, .int .i64 0, .int .i64 0, .int .i64 0, .int .i64 0, .slice none 0 0], 27)]) := hd_; have cew5 := (hd_.blk 0 rfl).cell; have few5 := (hd_.blk 0 rfl).free; have HDx : Hid (Dr w (w5.setCell ⟨w.heap.size, 2, none⟩ (.int .i64 ((q : Int) - 1))) g v l (K + 1 + 1) [(w.heap.size, #[.int .i64 m.ki, .int .i64 m.fr, .int .i64 ((q : Int) - 1), .int .i64 m.tm, .int .i64 m.li, .int .i64 m.lt, .int .i64 m.cm, .int .i64 m.ok, .int .i64 m.hi, .slice a n cap], 27), (w.heap.size + 1, #[.int .i64 0, .int .i64 0, .int .i64 0, .int .i64 0, .int .i64 0, .int .i64 0, .int .i64 0, .int .i64 0, .int .i64 0, .slice none 0 0], 27)]) := hd_.set 0 rfl 2 (by simp) (.int .i64 ((q : Int) - 1)) rfl; clear hd_)
        | (have hBA := HDx; refine gate_ld 27 (.tmp 3) rfl ?_; clear hBA; refine wpl_load_blk rfl 27 (.tmp 3) rfl (w.heap.size) rfl (HDx.out.blk 0 rfl) Tryz.underlying27 rfl infoMsgB rfl ?_)
        | (have hBA := HDx; refine gate_st 27 (.tmp 4) _ rfl ?_; clear hBA; refine wpl_store_blk rfl 27 (.tmp 4) _ rfl (w.heap.size + 1) rfl rfl (HDx.out.blk 1 rfl) infoMsgB rfl rfl (by simp [Value.oneCell']) ?_))
      have hR := HDx.out.row 1 rfl #[.int .i64 m.ki, .int .i64 m.fr, .int .i64 ((q : Int) - 1), .int .i64 m.tm, .int .i64 m.li, .int .i64 m.lt, .int .i64 m.cm, .int .i64 m.ok, .int .i64 m.hi, .slice a n cap] (noU8_of rfl)
      have hq := badAt_quiet HW.out HO.out hR.src hR.grown
      have hes : R.1.es = m.es := by rw [HB.out]
      exact bodyPost_ret (results_blk Tryz.results24 rfl (hR.blk 1 rfl) Tryz.underlying27 rfl infoMsgB rfl) rfl ⟨a, cap, by rw [HnR.out, HB.out]; dsimp only; rw [← Hn.out], by rw [HnR.out, hes, ← Hn.out]; exact hq.1, by rw [HB.out]; exact hq.2.1, hq.2.2⟩
    · subst c0
      rw [if_neg (by decide), if_neg (by decide), if_neg (by decide), if_pos rfl] at HB
      have bq := pickV_lt l (K + 1) 2 (by decide)
      obtain ⟨q, hq⟩ : ∃ q, q = pickV l (K + 1) 2 := ⟨_, rfl⟩
      have Hq : Hid (q = pickV l (K + 1) 2) := hq
      rw [← hq] at bq HB
      clear hq
      have br := pickV_lt l (K + 1 + 1) 2 (by decide)
      obtain ⟨r, hr⟩ : ∃ q, q = pickV l (K + 1 + 1) 2 := ⟨_, rfl⟩
      have Hr : Hid (r = pickV l (K + 1 + 1) 2) := hr
      rw [← hr] at br HB
      clear hr
      have hw : IntKind.i64.wrap ((q : Int) * (1073741824 + (r : Int))) = (q : Int) * (1073741824 + (r : Int)) := (by rcases (show q = 0 ∨ q = 1 by omega) with rfl | rfl <;> rw [IntKind.wrap_i64] <;> simp <;> omega)
      have A3 : True := trivial
      go_wp2_with (first
        | (go_at_call 23; clear A1; refine (HDK.out.pick1 11 hL (by omega) (by decide) (by decide)).mono ?_; rintro e w4 ⟨rfl, hd_⟩; rw [← Hp.out]; have HDw4 : Hid (Dr w w4 g v l (K + 1) [(w.heap.size, #[.int .i64 m.ki, .int .i64 m.fr, .int .i64 m.td, .int .i64 m.tm, .int .i64 m.li, .int .i64 m.lt, .int .i64 m.cm, .int .i64 m.ok, .int .i64 m.hi, .slice a n cap], 27), (w.heap.size + 1, #[.int .i64 0, .int .i64 0, .int .i64 0, .int .i64 0, .int .i64 0, .int .i64 0, .int .i64 0, .int .i64 0, .int .i64 0, .slice none 0 0], 27)]) := hd_; have cew4 := (hd_.blk 0 rfl).cell; have few4 := (hd_.blk 0 rfl).free; clear hd_)
        | (go_at_call 23; clear A3; refine (HDw4.out.pick1 2 hL (by omega) (by decide) (by decide)).mono ?_; rintro e w5 ⟨rfl, hd_⟩; rw [← Hq.out]; have HDw5 : Hid (Dr w w5 g v l (K + 1 + 1) [(w.heap.size, #[.int .i64 m.ki, .int .i64 m.fr, .int .i64 m.td, .int .i64 m.tm, .int .i64 m.li, .int .i64 m.lt, .int .i64 m.cm, .int .i64 m.ok, .int .i64 m.hi, .slice a n cap], 27), (w.heap.size + 1, #[.int .i64 0, .int .i64 0, .int .i64 0, .int .i64 0, .int .i64 0, .int .i64 0, .int .i64 0, .int .i64 0, .int .i64 0, .slice none 0 0], 27)]) := hd_; have cew5 := (hd_.blk 0 rfl).cell; have few5 := (hd_.blk 0 rfl).free; clear hd_)
        | (go_at_call 23; refine (HDw5.out.pick1 2 hL (by omega) (by decide) (by decide)).mono ?_; rintro e w6 ⟨rfl, hd_⟩; rw [← Hr.out]; have HDw6 : Hid (Dr w w6 g v l (K + 1 + 1 + 1) [(w.heap.size, #[.int .i64 m.ki, .int .i64 m.fr, .int .i64 m.td, .int .i64 m.tm, .int .i64 m.li, .int .i64 m.lt, .int .i64 m.cm, .int .i64 m.ok, .int .i64 m.hi, .slice a n cap], 27), (w.heap.size + 1, #[.int .i64 0, .int .i64 0, .int .i64 0, .int .i64 0, .int .i64 0, .int .i64 0, .int .i64 0, .int .i64 0, .int .i64 0, .slice none 0 0], 27)]) := hd_; have cew6 := (hd_.blk 0 rfl).cell; have few6 := (hd_.blk 0 rfl).free; have HDx : Hid (Dr w (w6.setCell ⟨w.heap.size, 3, none⟩ (.int .i64 ((q : Int) * (1073741824 + (r : Int))))) g v l (K + 1 + 1 + 1) [(w.heap.size, #[.int .i64 m.ki, .int .i64 m.fr, .int .i64 m.td, .int .i64 ((q : Int) * (1073741824 + (r : Int))), .int .i64 m.li, .int .i64 m.lt, .int .i64 m.cm, .int .i64 m.ok, .int .i64 m.hi, .slice a n cap], 27), (w.heap.size + 1, #[.int .i64 0, .int .i64 0, .int .i64 0, .int .i64 0, .int .i64 0, .int .i64 0, .int .i64 0, .int .i64 0, .int .i64 0, .slice none 0 0], 27)]) := hd_.set 0 rfl 3 (by simp) (.int .i64 ((q : Int) * (1073741824 + (r : Int)))) rfl; clear hd_)
        | (have hBA := HDx; refine gate_ld 27 (.tmp 3) rfl ?_; clear hBA; refine wpl_load_blk rfl 27 (.tmp 3) rfl (w.heap.size) rfl (HDx.out.blk 0 rfl) Tryz.underlying27 rfl infoMsgB rfl ?_)
        | (have hBA := HDx; refine gate_st 27 (.tmp 4) _ rfl ?_; clear hBA; refine wpl_store_blk rfl 27 (.tmp 4) _ rfl (w.heap.size + 1) rfl rfl (HDx.out.blk 1 rfl) infoMsgB rfl rfl (by simp [Value.oneCell']) ?_))
      have hR := HDx.out.row 1 rfl #[.int .i64 m.ki, .int .i64 m.fr, .int .i64 m.td, .int .i64 ((q : Int) * (1073741824 + (r : Int))), .int .i64 m.li, .int .i64 m.lt, .int .i64 m.cm, .int .i64 m.ok, .int .i64 m.hi, .slice a n cap] (noU8_of rfl)
      have hq := badAt_quiet HW.out HO.out hR.src hR.grown
      have hes : R.1.es = m.es := by rw [HB.out]
      exact bodyPost_ret (results_blk Tryz.results24 rfl (hR.blk 1 rfl) Tryz.underlying27 rfl infoMsgB rfl) rfl ⟨a, cap, by rw [HnR.out, HB.out]; dsimp only; rw [← Hn.out], by rw [HnR.out, hes, ← Hn.out]; exact hq.1, by rw [HB.out]; exact hq.2.1, hq.2.2⟩
    · subst c0
      rw [if_neg (by decide), if_neg (by decide), if_neg (by decide), if_neg (by decide), if_pos rfl] at HB
      go_wp2_with (first
        | (go_at_call 23; clear A1; refine (HDK.out.pick1 11 hL (by omega) (by decide) (by decide)).mono ?_; rintro e w4 ⟨rfl, hd_⟩; rw [← Hp.out]; have HDw4 : Hid (Dr w w4 g v l (K + 1) [(w.heap.size, #[.int .i64 m.ki, .int .i64 m.fr, .int .i64 m.td, .int .i64 m.tm, .int .i64 m.li, .int .i64 m.lt, .int .i64 m.cm, .int .i64 m.ok, .int .i64 m.hi, .slice a n cap], 27), (w.heap.size + 1, #[.int .i64 0, .int .i64 0, .int .i64 0, .int .i64 0, .int .i64 0, .int .i64 0, .int .i64 0, .int .i64 0, .int .i64 0, .slice none 0 0], 27)]) := hd_; have cew4 := (hd_.blk 0 rfl).cell; have few4 := (hd_.blk 0 rfl).free; have HDx : Hid (Dr w (w4.setCell ⟨w.heap.size, 4, none⟩ (.int .i64 V)) g v l (K + 1) [(w.heap.size, #[.int .i64 m.ki, .int .i64 m.fr, .int .i64 m.td, .int .i64 m.tm, .int .i64 V, .int .i64 m.lt, .int .i64 m.cm, .int .i64 m.ok, .int .i64 m.hi, .slice a n cap], 27), (w.heap.size + 1, #[.int .i64 0, .int .i64 0, .int .i64 0, .int .i64 0, .int .i64 0, .int .i64 0, .int .i64 0, .int .i64 0, .int .i64 0, .slice none 0 0], 27)]) := hd_.set 0 rfl 4 (by simp) (.int .i64 V) rfl; clear hd_)
        | (have hBA := HDx; refine gate_ld 27 (.tmp 3) rfl ?_; clear hBA; refine wpl_load_blk rfl 27 (.tmp 3) rfl (w.heap.size) rfl (HDx.out.blk 0 rfl) Tryz.underlying27 rfl infoMsgB rfl ?_)
        | (have hBA := HDx; refine gate_st 27 (.tmp 4) _ rfl ?_; clear hBA; refine wpl_store_blk rfl 27 (.tmp 4) _ rfl (w.heap.size + 1) rfl rfl (HDx.out.blk 1 rfl) infoMsgB rfl rfl (by simp [Value.oneCell']) ?_))
      have hR := HDx.out.row 1 rfl #[.int .i64 m.ki, .int .i64 m.fr, .int .i64 m.td, .int .i64 m.tm, .int .i64 V, .int .i64 m.lt, .int .i64 m.cm, .int .i64 m.ok, .int .i64 m.hi, .slice a n cap] (noU8_of rfl)
      have hq := badAt_quiet HW.out HO.out hR.src hR.grown
      have hes : R.1.es = m.es := by rw [HB.out]
      exact bodyPost_ret (results_blk Tryz.results24 rfl (hR.blk 1 rfl) Tryz.underlying27 rfl infoMsgB rfl) rfl ⟨a, cap, by rw [HnR.out, HB.out]; dsimp only; rw [← Hn.out], by rw [HnR.out, hes, ← Hn.out]; exact hq.1, by rw [HB.out]; exact hq.2.1, hq.2.2⟩
    · subst c0
      rw [if_neg (by decide), if_neg (by decide), if_neg (by decide), if_neg (by decide), if_neg (by decide), if_pos rfl] at HB
      have hw : IntKind.i64.wrap (m.tm + V) = m.tm + V := (by rw [IntKind.wrap_i64]; omega)
      go_wp2_with (first
        | (go_at_call 23; clear A1; refine (HDK.out.pick1 11 hL (by omega) (by decide) (by decide)).mono ?_; rintro e w4 ⟨rfl, hd_⟩; rw [← Hp.out]; have HDw4 : Hid (Dr w w4 g v l (K + 1) [(w.heap.size, #[.int .i64 m.ki, .int .i64 m.fr, .int .i64 m.td, .int .i64 m.tm, .int .i64 m.li, .int .i64 m.lt, .int .i64 m.cm, .int .i64 m.ok, .int .i64 m.hi, .slice a n cap], 27), (w.heap.size + 1, #[.int .i64 0, .int .i64 0, .int .i64 0, .int .i64 0, .int .i64 0, .int .i64 0, .int .i64 0, .int .i64 0, .int .i64 0, .slice none 0 0], 27)]) := hd_; have cew4 := (hd_.blk 0 rfl).cell; have few4 := (hd_.blk 0 rfl).free; have HDx : Hid (Dr w (w4.setCell ⟨w.heap.size, 5, none⟩ (.int .i64 (m.tm + V))) g v l (K + 1) [(w.heap.size, #[.int .i64 m.ki, .int .i64 m.fr, .int .i64 m.td, .int .i64 m.tm, .int .i64 m.li, .int .i64 (m.tm + V), .int .i64 m.cm, .int .i64 m.ok, .int .i64 m.hi, .slice a n cap], 27), (w.heap.size + 1, #[.int .i64 0, .int .i64 0, .int .i64 0, .int .i64 0, .int .i64 0, .int .i64 0, .int .i64 0, .int .i64 0, .int .i64 0, .slice none 0 0], 27)]) := hd_.set 0 rfl 5 (by simp) (.int .i64 (m.tm + V)) rfl; clear hd_)
        | (have hBA := HDx; refine gate_ld 27 (.tmp 3) rfl ?_; clear hBA; refine wpl_load_blk rfl 27 (.tmp 3) rfl (w.heap.size) rfl (HDx.out.blk 0 rfl) Tryz.underlying27 rfl infoMsgB rfl ?_)
        | (have hBA := HDx; refine gate_st 27 (.tmp 4) _ rfl ?_; clear hBA; refine wpl_store_blk rfl 27 (.tmp 4) _ rfl (w.heap.size + 1) rfl rfl (HDx.out.blk 1 rfl) infoMsgB rfl rfl (by simp [Value.oneCell']) ?_))
      have hR := HDx.out.row 1 rfl #[.int .i64 m.ki, .int .i64 m.fr, .int .i64 m.td, .int .i64 m.tm, .int .i64 m.li, .int .i64 (m.tm + V), .int .i64 m.cm, .int .i64 m.ok, .int .i64 m.hi, .slice a n cap] (noU8_of rfl)
      have hq := badAt_quiet HW.out HO.out hR.src hR.grown
      have hes : R.1.es = m.es := by rw [HB.out]
      exact bodyPost_ret (results_blk Tryz.results24 rfl (hR.blk 1 rfl) Tryz.underlying27 rfl infoMsgB rfl) rfl ⟨a, cap, by rw [HnR.out, HB.out]; dsimp only; rw [← Hn.out], by rw [HnR.out, hes, ← Hn.out]; exact hq.1, by rw [HB.out]; exact hq.2.1, hq.2.2⟩
    · subst c0
      rw [if_neg (by decide), if_neg (by decide), if_neg (by decide), if_neg (by decide), if_neg (by decide), if_neg (by decide), if_pos rfl] at HB
      go_wp2_with (first
        | (go_at_call 23; clear A1; refine (HDK.out.pick1 11 hL (by omega) (by decide) (by decide)).mono ?_; rintro e w4 ⟨rfl, hd_⟩; rw [← Hp.out]; have HDw4 : Hid (Dr w w4 g v l (K + 1) [(w.heap.size, #[.int .i64 m.ki, .int .i64 m.fr, .int .i64 m.td, .int .i64 m.tm, .int .i64 m.li, .int .i64 m.lt, .int .i64 m.cm, .int .i64 m.ok, .int .i64 m.hi, .slice a n cap], 27), (w.heap.size + 1, #[.int .i64 0, .int .i64 0, .int .i64 0, .int .i64 0, .int .i64 0, .int .i64 0, .int .i64 0, .int .i64 0, .int .i64 0, .slice none 0 0], 27)]) := hd_; have cew4 := (hd_.blk 0 rfl).cell; have few4 := (hd_.blk 0 rfl).free; have HDx : Hid (Dr w (w4.setCell ⟨w.heap.size, 6, none⟩ (.int .i64 V)) g v l (K + 1) [(w.heap.size, #[.int .i64 m.ki, .int .i64 m.fr, .int .i64 m.td, .int .i64 m.tm, .int .i64 m.li, .int .i64 m.lt, .int .i64 V, .int .i64 m.ok, .int .i64 m.hi, .slice a n cap], 27), (w.heap.size + 1, #[.int .i64 0, .int .i64 0, .int .i64 0, .int .i64 0, .int .i64 0, .int .i64 0, .int .i64 0, .int .i64 0, .int .i64 0, .slice none 0 0], 27)]) := hd_.set 0 rfl 6 (by simp) (.int .i64 V) rfl; clear hd_)
        | (have hBA := HDx; refine gate_ld 27 (.tmp 3) rfl ?_; clear hBA; refine wpl_load_blk rfl 27 (.tmp 3) rfl (w.heap.size) rfl (HDx.out.blk 0 rfl) Tryz.underlying27 rfl infoMsgB rfl ?_)
        | (have hBA := HDx; refine gate_st 27 (.tmp 4) _ rfl ?_; clear hBA; refine wpl_store_blk rfl 27 (.tmp 4) _ rfl (w.heap.size + 1) rfl rfl (HDx.out.blk 1 rfl) infoMsgB rfl rfl (by simp [Value.oneCell']) ?_))
      have hR := HDx.out.row 1 rfl #[.int .i64 m.ki, .int .i64 m.fr, .int .i64 m.td, .int .i64 m.tm, .int .i64 m.li, .int .i64 m.lt, .int .i64 V, .int .i64 m.ok, .int .i64 m.hi, .slice a n cap] (noU8_of rfl)
      have hq := badAt_quiet HW.out HO.out hR.src hR.grown
      have hes : R.1.es = m.es := by rw [HB.out]
      exact bodyPost_ret (results_blk Tryz.results24 rfl (hR.blk 1 rfl) Tryz.underlying27 rfl infoMsgB rfl) rfl ⟨a, cap, by rw [HnR.out, HB.out]; dsimp only; rw [← Hn.out], by rw [HnR.out, hes, ← Hn.out]; exact hq.1, by rw [HB.out]; exact hq.2.1, hq.2.2⟩
    · subst c0
      rw [if_neg (by decide), if_neg (by decide), if_neg (by decide), if_neg (by decide), if_neg (by decide), if_neg (by decide), if_neg (by decide), if_pos rfl] at HB
      go_wp2_with (first
        | (go_at_call 23; clear A1; refine (HDK.out.pick1 11 hL (by omega) (by decide) (by decide)).mono ?_; rintro e w4 ⟨rfl, hd_⟩; rw [← Hp.out]; have HDw4 : Hid (Dr w w4 g v l (K + 1) [(w.heap.size, #[.int .i64 m.ki, .int .i64 m.fr, .int .i64 m.td, .int .i64 m.tm, .int .i64 m.li, .int .i64 m.lt, .int .i64 m.cm, .int .i64 m.ok, .int .i64 m.hi, .slice a n cap], 27), (w.heap.size + 1, #[.int .i64 0, .int .i64 0, .int .i64 0, .int .i64 0, .int .i64 0, .int .i64 0, .int .i64 0, .int .i64 0, .int .i64 0, .slice none 0 0], 27)]) := hd_; have cew4 := (hd_.blk 0 rfl).cell; have few4 := (hd_.blk 0 rfl).free; have HDx : Hid (Dr w (w4.setCell ⟨w.heap.size, 7, none⟩ (.int .i64 V)) g v l (K + 1) [(w.heap.size, #[.int .i64 m.ki, .int .i64 m.fr, .int .i64 m.td, .int .i64 m.tm, .int .i64 m.li, .int .i64 m.lt, .int .i64 m.cm, .int .i64 V, .int .i64 m.hi, .slice a n cap], 27), (w.heap.size + 1, #[.int .i64 0, .int .i64 0, .int .i64 0, .int .i64 0, .int .i64 0, .int .i64 0, .int .i64 0, .int .i64 0, .int .i64 0, .slice none 0 0], 27)]) := hd_.set 0 rfl 7 (by simp) (.int .i64 V) rfl; clear hd_)
        | (have hBA := HDx; refine gate_ld 27 (.tmp 3) rfl ?_; clear hBA; refine wpl_load_blk rfl 27 (.tmp 3) rfl (w.heap.size) rfl (HDx.out.blk 0 rfl) Tryz.underlying27 rfl infoMsgB rfl ?_)
        | (have hBA := HDx; refine gate_st 27 (.tmp 4) _ rfl ?_; clear hBA; refine wpl_store_blk rfl 27 (.tmp 4) _ rfl (w.heap.size + 1) rfl rfl (HDx.out.blk 1 rfl) infoMsgB rfl rfl (by simp [Value.oneCell']) ?_))
      have hR := HDx.out.row 1 rfl #[.int .i64 m.ki, .int .i64 m.fr, .int .i64 m.td, .int .i64 m.tm, .int .i64 m.li, .int .i64 m.lt, .int .i64 m.cm, .int .i64 V, .int .i64 m.hi, .slice a n cap] (noU8_of rfl)
      have hq := badAt_quiet HW.out HO.out hR.src hR.grown
      have hes : R.1.es = m.es := by rw [HB.out]
      exact bodyPost_ret (results_blk Tryz.results24 rfl (hR.blk 1 rfl) Tryz.underlying27 rfl infoMsgB rfl) rfl ⟨a, cap, by rw [HnR.out, HB.out]; dsimp only; rw [← Hn.out], by rw [HnR.out, hes, ← Hn.out]; exact hq.1, by rw [HB.out]; exact hq.2.1, hq.2.2⟩
    · subst c0
      rw [if_neg (by decide), if_neg (by decide), if_neg (by decide), if_neg (by decide), if_neg (by decide), if_neg (by decide), if_neg (by decide), if_neg (by decide), if_pos rfl] at HB
      go_wp2_with (first
        | (go_at_call 23; clear A1; refine (HDK.out.pick1 11 hL (by omega) (by decide) (by decide)).mono ?_; rintro e w4 ⟨rfl, hd_⟩; rw [← Hp.out]; have HDw4 : Hid (Dr w w4 g v l (K + 1) [(w.heap.size, #[.int .i64 m.ki, .int .i64 m.fr, .int .i64 m.td, .int .i64 m.tm, .int .i64 m.li, .int .i64 m.lt, .int .i64 m.cm, .int .i64 m.ok, .int .i64 m.hi, .slice a n cap], 27), (w.heap.size + 1, #[.int .i64 0, .int .i64 0, .int .i64 0, .int .i64 0, .int .i64 0, .int .i64 0, .int .i64 0, .int .i64 0, .int .i64 0, .slice none 0 0], 27)]) := hd_; have cew4 := (hd_.blk 0 rfl).cell; have few4 := (hd_.blk 0 rfl).free; have HDx : Hid (Dr w (w4.setCell ⟨w.heap.size, 8, none⟩ (.int .i64 V)) g v l (K + 1) [(w.heap.size, #[.int .i64 m.ki, .int .i64 m.fr, .int .i64 m.td, .int .i64 m.tm, .int .i64 m.li, .int .i64 m.lt, .int .i64 m.cm, .int .i64 m.ok, .int .i64 V, .slice a n cap], 27), (w.heap.size + 1, #[.int .i64 0, .int .i64 0, .int .i64 0, .int .i64 0, .int .i64 0, .int .i64 0, .int .i64 0, .int .i64 0, .int .i64 0, .slice none 0 0], 27)]) := hd_.set 0 rfl 8 (by simp) (.int .i64 V) rfl; clear hd_)
        | (have hBA := HDx; refine gate_ld 27 (.tmp 3) rfl ?_; clear hBA; refine wpl_load_blk rfl 27 (.tmp 3) rfl (w.heap.size) rfl (HDx.out.blk 0 rfl) Tryz.underlying27 rfl infoMsgB rfl ?_)
        | (have hBA := HDx; refine gate_st 27 (.tmp 4) _ rfl ?_; clear hBA; refine wpl_store_blk rfl 27 (.tmp 4) _ rfl (w.heap.size + 1) rfl rfl (HDx.out.blk 1 rfl) infoMsgB rfl rfl (by simp [Value.oneCell']) ?_))
      have hR := HDx.out.row 1 rfl #[.int .i64 m.ki, .int .i64 m.fr, .int .i64 m.td, .int .i64 m.tm, .int .i64 m.li, .int .i64 m.lt, .int .i64 m.cm, .int .i64 m.ok, .int .i64 V, .slice a n cap] (noU8_of rfl)
      have hq := badAt_quiet HW.out HO.out hR.src hR.grown
      have hes : R.1.es = m.es := by rw [HB.out]
      exact bodyPost_ret (results_blk Tryz.results24 rfl (hR.blk 1 rfl) Tryz.underlying27 rfl infoMsgB rfl) rfl ⟨a, cap, by rw [HnR.out, HB.out]; dsimp only; rw [← Hn.out], by rw [HnR.out, hes, ← Hn.out]; exact hq.1, by rw [HB.out]; exact hq.2.1, hq.2.2⟩
    · subst c0
      rw [if_neg (by decide), if_neg (by decide), if_neg (by decide), if_neg (by decide), if_neg (by decide), if_neg (by decide), if_neg (by decide), if_neg (by decide), if_neg (by decide), if_pos rfl] at HB
      have bq := pickV_lt l (K + 1) 4 (by decide)
      obtain ⟨q, hq⟩ : ∃ q, q = pickV l (K + 1) 4 := ⟨_, rfl⟩
      have Hq : Hid (q = pickV l (K + 1) 4) := hq
      rw [← hq] at bq HB
      clear hq
      have HEs : Hid (∀ u : World, Src u g v l (K + 1 + 1) → Calls Tryz.prog 48 #[.pointer (some ⟨g, 0, none⟩), .int .i64 (31 + (q : Int)), .int .i64 1] u fun r w' => ∃ ev, r = .returned ev ∧ OwnE w' u.heap.size ev (entsD l (K + 1 + 1) 1 (31 + q)).1 ∧ Src w' g v l (entsD l (K + 1 + 1) 1 (31 + q)).2.1 ∧ u.grownBy w' (some g)) := fun u hu => by
        have := l1drawEntries_any g u v l (K + 1 + 1) (31 + q) 1 hL (by omega) (by omega) ⟨by omega, by omega⟩ hu
        rw [show (((31 + q : Nat)) : Int) = 31 + (q : Int) by omega] at this
        exact this
      generalize entsD l (K + 1 + 1) 1 (31 + q) = ED at *
      obtain ⟨E1, E2, E3⟩ := ED
      dsimp only at HEs HB
      obtain ⟨nE, hnE⟩ : ∃ n, n = E1.length := ⟨_, rfl⟩
      have HnE : Hid (nE = E1.length) := hnE
      clear hnE
      go_wp2_with (first
        | (go_at_call 23; clear A1; refine (HDK.out.pick1 11 hL (by omega) (by decide) (by decide)).mono ?_; rintro e w4 ⟨rfl, hd_⟩; rw [← Hp.out]; have HDw4 : Hid (Dr w w4 g v l (K + 1) [(w.heap.size, #[.int .i64 m.ki, .int .i64 m.fr, .int .i64 m.td, .int .i64 m.tm, .int .i64 m.li, .int .i64 m.lt, .int .i64 m.cm, .int .i64 m.ok, .int .i64 m.hi, .slice a n cap], 27), (w.heap.size + 1, #[.int .i64 0, .int .i64 0, .int .i64 0, .int .i64 0, .int .i64 0, .int .i64 0, .int .i64 0, .int .i64 0, .int .i64 0, .slice none 0 0], 27)]) := hd_; have cew4 := (hd_.blk 0 rfl).cell; have few4 := (hd_.blk 0 rfl).free; clear hd_)
        | (go_at_call 23; refine (HDw4.out.pick1 4 hL (by omega) (by decide) (by decide)).mono ?_; rintro e w5 ⟨rfl, hd_⟩; rw [← Hq.out]; have HDw5 : Hid (Dr w w5 g v l (K + 1 + 1) [(w.heap.size, #[.int .i64 m.ki, .int .i64 m.fr, .int .i64 m.td, .int .i64 m.tm, .int .i64 m.li, .int .i64 m.lt, .int .i64 m.cm, .int .i64 m.ok, .int .i64 m.hi, .slice a n cap], 27), (w.heap.size + 1, #[.int .i64 0, .int .i64 0, .int .i64 0, .int .i64 0, .int .i64 0, .int .i64 0, .int .i64 0, .int .i64 0, .int .i64 0, .slice none 0 0], 27)]) := hd_; have cew5 := (hd_.blk 0 rfl).cell; have few5 := (hd_.blk 0 rfl).free; clear hd_)
        | (go_at_call 48; refine (HEs.out _ HDw5.out.src).mono ?_; rintro e w6 ⟨ev, rfl, ho6, hs6, hg6⟩; obtain ⟨za, zc, hev⟩ := ho6.shape; rw [← HnE.out] at hev; subst hev; have HD6 : Hid (Dr w w6 g v l E2 [(w.heap.size, #[.int .i64 m.ki, .int .i64 m.fr, .int .i64 m.td, .int .i64 m.tm, .int .i64 m.li, .int .i64 m.lt, .int .i64 m.cm, .int .i64 m.ok, .int .i64 m.hi, .slice a n cap], 27), (w.heap.size + 1, #[.int .i64 0, .int .i64 0, .int .i64 0, .int .i64 0, .int .i64 0, .int .i64 0, .int .i64 0, .int .i64 0, .int .i64 0, .slice none 0 0], 27)]) := HDw5.out.call hs6 hg6; have HE6 : Hid (OwnE w6 w0.heap.size (.slice za nE zc) E1) := ho6.le (Nat.le_trans HW.out.size HDw5.out.size); have ce6 := (HD6.out.blk 0 rfl).cell; have fe6 := (HD6.out.blk 0 rfl).free; have HDx : Hid (Dr w (w6.setCell ⟨w.heap.size, 9, none⟩ (.slice za nE zc)) g v l E2 [(w.heap.size, #[.int .i64 m.ki, .int .i64 m.fr, .int .i64 m.td, .int .i64 m.tm, .int .i64 m.li, .int .i64 m.lt, .int .i64 m.cm, .int .i64 m.ok, .int .i64 m.hi, .slice za nE zc], 27), (w.heap.size + 1, #[.int .i64 0, .int .i64 0, .int .i64 0, .int .i64 0, .int .i64 0, .int .i64 0, .int .i64 0, .int .i64 0, .int .i64 0, .slice none 0 0], 27)]) := HD6.out.set 0 rfl 9 (by simp) (.slice za nE zc) rfl; clear ho6 hs6 hg6)
        | (have hBA := HDx; refine gate_ld 27 (.tmp 3) rfl ?_; clear hBA; refine wpl_load_blk rfl 27 (.tmp 3) rfl (w.heap.size) rfl (HDx.out.blk 0 rfl) Tryz.underlying27 rfl infoMsgB rfl ?_)
        | (have hBA := HDx; refine gate_st 27 (.tmp 4) _ rfl ?_; clear hBA; refine wpl_store_blk rfl 27 (.tmp 4) _ rfl (w.heap.size + 1) rfl rfl (HDx.out.blk 1 rfl) infoMsgB rfl rfl (by simp [Value.oneCell']) ?_))
      have hR := HDx.out.row 1 rfl #[.int .i64 m.ki, .int .i64 m.fr, .int .i64 m.td, .int .i64 m.tm, .int .i64 m.li, .int .i64 m.lt, .int .i64 m.cm, .int .i64 m.ok, .int .i64 m.hi, .slice za nE zc] (noU8_of rfl)
      have o1 := ownE_blkM HE6.out (HD6.out.blk 0 rfl) (by decide) (set_keepM _ _ 9 (.slice za nE zc))
      have o2 := ownE_blkM o1 (HDx.out.blk 1 rfl) (by decide) (setRow_keepM _ _ #[.int .i64 m.ki, .int .i64 m.fr, .int .i64 m.td, .int .i64 m.tm, .int .i64 m.li, .int .i64 m.lt, .int .i64 m.cm, .int .i64 m.ok, .int .i64 m.hi, .slice za nE zc])
      have hq := badAt_quiet HW.out HO.out hR.src hR.grown
      have hes : R.1.es = E1 := by rw [HB.out]
      exact bodyPost_ret (results_blk Tryz.results24 rfl (hR.blk 1 rfl) Tryz.underlying27 rfl infoMsgB rfl) rfl ⟨za, zc, by rw [HnR.out, HB.out]; dsimp only; rw [← HnE.out], by rw [HnR.out, hes, ← HnE.out]; exact o2, by rw [HB.out]; exact hq.2.1, hq.2.2⟩
    · subst c0
      have hL0 : m.es.length = 0 := by rw [← Hn.out]; exact c1
      rw [if_neg (by decide), if_neg (by decide), if_neg (by decide), if_neg (by decide), if_neg (by decide), if_neg (by decide), if_neg (by decide), if_neg (by decide), if_neg (by decide), if_neg (by decide), if_pos hL0] at HB
      clear hL0
      subst c1
      have HEs : Hid (∀ u : World, Src u g v l (K + 1) → Calls Tryz.prog 48 #[.pointer (some ⟨g, 0, none⟩), .int .i64 1, .int .i64 1] u fun r w' => ∃ ev, r = .returned ev ∧ OwnE w' u.heap.size ev (entsD l (K + 1) 1 1).1 ∧ Src w' g v l (entsD l (K + 1) 1 1).2.1 ∧ u.grownBy w' (some g)) := fun u hu => l1drawEntries_any g u v l (K + 1) 1 1 hL (by omega) (by omega) ⟨by omega, by omega⟩ hu
      generalize entsD l (K + 1) 1 1 = ED at *
      obtain ⟨E1, E2, E3⟩ := ED
      dsimp only at HEs HB
      obtain ⟨nE, hnE⟩ : ∃ n, n = E1.length := ⟨_, rfl⟩
      have HnE : Hid (nE = E1.length) := hnE
      clear hnE
      go_wp2_with (first
        | (go_at_call 23; clear A1; refine (HDK.out.pick1 11 hL (by omega) (by decide) (by decide)).mono ?_; rintro e w4 ⟨rfl, hd_⟩; rw [← Hp.out]; have HDw4 : Hid (Dr w w4 g v l (K + 1) [(w.heap.size, #[.int .i64 m.ki, .int .i64 m.fr, .int .i64 m.td, .int .i64 m.tm, .int .i64 m.li, .int .i64 m.lt, .int .i64 m.cm, .int .i64 m.ok, .int .i64 m.hi, .slice a 0 cap], 27), (w.heap.size + 1, #[.int .i64 0, .int .i64 0, .int .i64 0, .int .i64 0, .int .i64 0, .int .i64 0, .int .i64 0, .int .i64 0, .int .i64 0, .slice none 0 0], 27)]) := hd_; have cew4 := (hd_.blk 0 rfl).cell; have few4 := (hd_.blk 0 rfl).free; clear hd_)
        | (go_at_call 48; refine (HEs.out _ HDw4.out.src).mono ?_; rintro e w6 ⟨ev, rfl, ho6, hs6, hg6⟩; obtain ⟨za, zc, hev⟩ := ho6.shape; rw [← HnE.out] at hev; subst hev; have HD6 : Hid (Dr w w6 g v l E2 [(w.heap.size, #[.int .i64 m.ki, .int .i64 m.fr, .int .i64 m.td, .int .i64 m.tm, .int .i64 m.li, .int .i64 m.lt, .int .i64 m.cm, .int .i64 m.ok, .int .i64 m.hi, .slice a 0 cap], 27), (w.heap.size + 1, #[.int .i64 0, .int .i64 0, .int .i64 0, .int .i64 0, .int .i64 0, .int .i64 0, .int .i64 0, .int .i64 0, .int .i64 0, .slice none 0 0], 27)]) := HDw4.out.call hs6 hg6; have HE6 : Hid (OwnE w6 w0.heap.size (.slice za nE zc) E1) := ho6.le (Nat.le_trans HW.out.size HDw4.out.size); have ce6 := (HD6.out.blk 0 rfl).cell; have fe6 := (HD6.out.blk 0 rfl).free; have HDx : Hid (Dr w (w6.setCell ⟨w.heap.size, 9, none⟩ (.slice za nE zc)) g v l E2 [(w.heap.size, #[.int .i64 m.ki, .int .i64 m.fr, .int .i64 m.td, .int .i64 m.tm, .int .i64 m.li, .int .i64 m.lt, .int .i64 m.cm, .int .i64 m.ok, .int .i64 m.hi, .slice za nE zc], 27), (w.heap.size + 1, #[.int .i64 0, .int .i64 0, .int .i64 0, .int .i64 0, .int .i64 0, .int .i64 0, .int .i64 0, .int .i64 0, .int .i64 0, .slice none 0 0], 27)]) := HD6.out.set 0 rfl 9 (by simp) (.slice za nE zc) rfl; clear ho6 hs6 hg6)
        | (have hBA := HDx; refine gate_ld 27 (.tmp 3) rfl ?_; clear hBA; refine wpl_load_blk rfl 27 (.tmp 3) rfl (w.heap.size) rfl (HDx.out.blk 0 rfl) Tryz.underlying27 rfl infoMsgB rfl ?_)
        | (have hBA := HDx; refine gate_st 27 (.tmp 4) _ rfl ?_; clear hBA; refine wpl_store_blk rfl 27 (.tmp 4) _ rfl (w.heap.size + 1) rfl rfl (HDx.out.blk 1 rfl) infoMsgB rfl rfl (by simp [Value.oneCell']) ?_))
      have hR := HDx.out.row 1 rfl #[.int .i64 m.ki, .int .i64 m.fr, .int .i64 m.td, .int .i64 m.tm, .int .i64 m.li, .int .i64 m.lt, .int .i64 m.cm, .int .i64 m.ok, .int .i64 m.hi, .slice za nE zc] (noU8_of rfl)
      have o1 := ownE_blkM HE6.out (HD6.out.blk 0 rfl) (by decide) (set_keepM _ _ 9 (.slice za nE zc))
      have o2 := ownE_blkM o1 (HDx.out.blk 1 rfl) (by decide) (setRow_keepM _ _ #[.int .i64 m.ki, .int .i64 m.fr, .int .i64 m.td, .int .i64 m.tm, .int .i64 m.li, .int .i64 m.lt, .int .i64 m.cm, .int .i64 m.ok, .int .i64 m.hi, .slice za nE zc])
      have hq := badAt_quiet HW.out HO.out hR.src hR.grown
      have hes : R.1.es = E1 := by rw [HB.out]
      exact bodyPost_ret (results_blk Tryz.results24 rfl (hR.blk 1 rfl) Tryz.underlying27 rfl infoMsgB rfl) rfl ⟨za, zc, by rw [HnR.out, HB.out]; dsimp only; rw [← HnE.out], by rw [HnR.out, hes, ← HnE.out]; exact o2, by rw [HB.out]; exact hq.2.1, hq.2.2⟩
    · subst c0
      have hL0 : 0 < m.es.length := by rw [← Hn.out]; exact c1
      rw [if_neg (by decide), if_neg (by decide), if_neg (by decide), if_neg (by decide), if_neg (by decide), if_neg (by decide), if_neg (by decide), if_neg (by decide), if_neg (by decide), if_neg (by decide), if_neg (by omega)] at HB
      have bi := pickV_lt l (K + 1) m.es.length hL0
      obtain ⟨i, hi⟩ : ∃ i, i = pickV l (K + 1) m.es.length := ⟨_, rfl⟩
      have Hi : Hid (i = pickV l (K + 1) m.es.length) := hi
      rw [← hi] at bi HB
      rw [entAtD_get bi] at HB
      clear hi hL0
      have bq := pickV_lt l (K + 1 + 1) 2 (by decide)
      obtain ⟨q, hq⟩ : ∃ q, q = pickV l (K + 1 + 1) 2 := ⟨_, rfl⟩
      have Hq : Hid (q = pickV l (K + 1 + 1) 2) := hq
      rw [← hq] at bq HB
      clear hq
      have HPN : Hid (∀ u : World, Dr w u g v l (K + 1) [(w.heap.size, #[.int .i64 m.ki, .int .i64 m.fr, .int .i64 m.td, .int .i64 m.tm, .int .i64 m.li, .int .i64 m.lt, .int .i64 m.cm, .int .i64 m.ok, .int .i64 m.hi, .slice a n cap], 27), (w.heap.size + 1, #[.int .i64 0, .int .i64 0, .int .i64 0, .int .i64 0, .int .i64 0, .int .i64 0, .int .i64 0, .int .i64 0, .int .i64 0, .slice none 0 0], 27)] → Calls Tryz.prog 23 #[.pointer (some ⟨g, 0, none⟩), .int .i64 n] u fun e w' => e = .returned (.int .i64 (i : Nat)) ∧ Dr w w' g v l (K + 1 + 1) [(w.heap.size, #[.int .i64 m.ki, .int .i64 m.fr, .int .i64 m.td, .int .i64 m.tm, .int .i64 m.li, .int .i64 m.lt, .int .i64 m.cm, .int .i64 m.ok, .int .i64 m.hi, .slice a n cap], 27), (w.heap.size + 1, #[.int .i64 0, .int .i64 0, .int .i64 0, .int .i64 0, .int .i64 0, .int .i64 0, .int .i64 0, .int .i64 0, .int .i64 0, .slice none 0 0], 27)] ∧ u.grownBy w' (some g)) := fun u hu => by
        rw [Hi.out, ← Hn.out]
        exact hu.pickG n hL (by omega) c1 (by omega)
      have hin : i < n := by rw [Hn.out]; exact bi
      have c2 : (0 : Int) < (n : Int) := by omega
      have c3' : (i : Int) < (n : Int) := by omega
      obtain ⟨qb, ha, _, _⟩ := ownAt HO.out Hn.out (k := i) bi (by unfold maxLen; omega)
      have hqb : w0.heap.size ≤ qb ∧ qb < w.heap.size := by
        have := HO.out.2.lt qb (by rw [ha]; rfl)
        exact this
      subst ha
      have HOc : Hid (OwnE wc w0.heap.size (.slice (some ⟨qb, 0, none⟩) n cap) m.es) := HO.out.grown HDK.out.grown HW.out.gl
      have A3 : True := trivial
      have hlen : ∀ x, (m.es.set i x).length = n := fun x => by rw [List.length_set, ← Hn.out]
      have Hlen : Hid (∀ x, (m.es.set i x).length = n) := hlen
      clear hlen
      by_cases cq : q = 0
      · subst cq
        rw [if_pos rfl] at HB
        have hw : IntKind.i64.wrap (m.lt + V) = m.lt + V := (by rw [IntKind.wrap_i64]; omega)
        go_upto_region 28 with (first
          | (go_at_call 23; clear A1; refine (HDK.out.pickG 11 hL (by omega) (by decide) (by decide)).mono ?_; rintro e w4 ⟨rfl, hd_, hg_⟩; rw [← Hp.out]; have HDw4 : Hid (Dr w w4 g v l (K + 1) [(w.heap.size, #[.int .i64 m.ki, .int .i64 m.fr, .int .i64 m.td, .int .i64 m.tm, .int .i64 m.li, .int .i64 m.lt, .int .i64 m.cm, .int .i64 m.ok, .int .i64 m.hi, .slice (some ⟨qb, 0, none⟩) n cap], 27), (w.heap.size + 1, #[.int .i64 0, .int .i64 0, .int .i64 0, .int .i64 0, .int .i64 0, .int .i64 0, .int .i64 0, .int .i64 0, .int .i64 0, .slice none 0 0], 27)]) := hd_; have HOw4 : Hid (OwnE w4 w0.heap.size (.slice (some ⟨qb, 0, none⟩) n cap) m.es) := HOc.out.grown hg_ HW.out.gl; have cew4 := (hd_.blk 0 rfl).cell; have few4 := (hd_.blk 0 rfl).free; clear hd_ hg_)
          | (go_at_call 23; clear A3; refine (HPN.out _ HDw4.out).mono ?_; rintro e w5 ⟨rfl, hd_, hg_⟩; have HDw5 : Hid (Dr w w5 g v l (K + 1 + 1) [(w.heap.size, #[.int .i64 m.ki, .int .i64 m.fr, .int .i64 m.td, .int .i64 m.tm, .int .i64 m.li, .int .i64 m.lt, .int .i64 m.cm, .int .i64 m.ok, .int .i64 m.hi, .slice (some ⟨qb, 0, none⟩) n cap], 27), (w.heap.size + 1, #[.int .i64 0, .int .i64 0, .int .i64 0, .int .i64 0, .int .i64 0, .int .i64 0, .int .i64 0, .int .i64 0, .int .i64 0, .slice none 0 0], 27)]) := hd_; have HOw5 : Hid (OwnE w5 w0.heap.size (.slice (some ⟨qb, 0, none⟩) n cap) m.es) := HOw4.out.grown hg_ HW.out.gl; have ce5 := (hd_.blk 0 rfl).cell; clear hd_ hg_)
          | (go_at_call 23; refine (HDw5.out.pickG 2 hL (by omega) (by decide) (by decide)).mono ?_; rintro e w6 ⟨rfl, hd_, hg_⟩; rw [← Hq.out]; have HDw6 : Hid (Dr w w6 g v l (K + 1 + 1 + 1) [(w.heap.size, #[.int .i64 m.ki, .int .i64 m.fr, .int .i64 m.td, .int .i64 m.tm, .int .i64 m.li, .int .i64 m.lt, .int .i64 m.cm, .int .i64 m.ok, .int .i64 m.hi, .slice (some ⟨qb, 0, none⟩) n cap], 27), (w.heap.size + 1, #[.int .i64 0, .int .i64 0, .int .i64 0, .int .i64 0, .int .i64 0, .int .i64 0, .int .i64 0, .int .i64 0, .int .i64 0, .slice none 0 0], 27)]) := hd_; have HOw6 : Hid (OwnE w6 w0.heap.size (.slice (some ⟨qb, 0, none⟩) n cap) m.es) := HOw5.out.grown hg_ HW.out.gl; have cew6 := (hd_.blk 0 rfl).cell; have few6 := (hd_.blk 0 rfl).free; clear hd_ hg_))
        obtain ⟨qc, hqc, ⟨d0, _⟩, hf3⟩ := ownAt HOw6.out Hn.out (k := i) bi (by unfold maxLen; omega)
        injection hqc with hqc
        injection hqc with hqc
        subst hqc
        have HDx : Hid (Dr w0 (w6.setCell ⟨qb, i * 7, none⟩ (.int .i64 (m.lt + V))) g v l (K + 1 + 1 + 1) [(w.heap.size, #[.int .i64 m.ki, .int .i64 m.fr, .int .i64 m.td, .int .i64 m.tm, .int .i64 m.li, .int .i64 m.lt, .int .i64 m.cm, .int .i64 m.ok, .int .i64 m.hi, .slice (some ⟨qb, 0, none⟩) n cap], 27), (w.heap.size + 1, #[.int .i64 0, .int .i64 0, .int .i64 0, .int .i64 0, .int .i64 0, .int .i64 0, .int .i64 0, .int .i64 0, .int .i64 0, .slice none 0 0], 27)]) := (HW.out.rebase HDw6.out).grew (grewCell (n := n) (c := cap) (.int .i64 (m.lt + V))) (fun q' hq' => by injection hq' with hq'; have : qb = q' := hq'; omega) (fun x hx => by obtain ⟨j, hj⟩ := List.getElem?_of_mem hx; have hx1 := (HDw6.out.blks j x hj).1; intro e; injection e with e; have : qb = x.1 := e; omega)
        go_wp2_with (first
          | (have hBA := HDx; refine gate_ld 27 (.tmp 3) rfl ?_; clear hBA; refine wpl_load_blk rfl 27 (.tmp 3) rfl (w.heap.size) rfl (HDx.out.blk 0 rfl) Tryz.underlying27 rfl infoMsgB rfl ?_)
          | (have hBA := HDx; refine gate_st 27 (.tmp 4) _ rfl ?_; clear hBA; refine wpl_store_blk rfl 27 (.tmp 4) _ rfl (w.heap.size + 1) rfl rfl (HDx.out.blk 1 rfl) infoMsgB rfl rfl (by simp [Value.oneCell']) ?_))
        have hR := HDx.out.row 1 rfl #[.int .i64 m.ki, .int .i64 m.fr, .int .i64 m.td, .int .i64 m.tm, .int .i64 m.li, .int .i64 m.lt, .int .i64 m.cm, .int .i64 m.ok, .int .i64 m.hi, .slice (some ⟨qb, 0, none⟩) n cap] (noU8_of rfl)
        have o1 := HOw6.out.setT Hn.out i bi (m.lt + V)
        have o2 := ownE_blkM o1 (HDx.out.blk 1 rfl) (by decide) (setRow_keepM _ _ #[.int .i64 m.ki, .int .i64 m.fr, .int .i64 m.td, .int .i64 m.tm, .int .i64 m.li, .int .i64 m.lt, .int .i64 m.cm, .int .i64 m.ok, .int .i64 m.hi, .slice (some ⟨qb, 0, none⟩) n cap])
        have hes : R.1.es = m.es.set i (setTE (m.lt + V) m.es[i]) := by rw [HB.out]
        exact bodyPost_ret (results_blk Tryz.results24 rfl (hR.blk 1 rfl) Tryz.underlying27 rfl infoMsgB rfl) rfl ⟨some ⟨qb, 0, none⟩, cap, by rw [HnR.out, HB.out]; dsimp only; rw [Hlen.out], by rw [HnR.out, hes, Hlen.out]; exact o2, by rw [HB.out]; exact hR.nilF, fun b hb hne hq => (setRow_other _ _ _ _ (by omega)).trans ((Below.heap_setCell _ _ _ b (fun e => hq (by rw [e]; rfl))).trans (HDw6.out.grown.block b hb (fun e => hne (by injection e))))⟩
      · rw [if_neg cq] at HB
        have cq1 : ((q : Int) == 0) = false := by rw [beq_eq_false_iff_ne]; omega
        obtain ⟨y, hy⟩ : ∃ y, y = m.es[i] := ⟨_, rfl⟩
        have Hy : Hid (y = m.es[i]) := hy
        rw [← hy] at HB
        have hyf : y.fits := by rw [hy]; exact HOc.out.1 _ (List.getElem_mem bi)
        clear hy
        have hfit := badC_fits l (K + 1 + 1 + 1) y.cmd hyf
        have HBC : Hid (∀ u : World, Src u g v l (K + 1 + 1 + 1) → Calls Tryz.prog 31 #[.pointer (some ⟨g, 0, none⟩), .agg #[.int .i64 y.cl, .int .i64 y.sq, .int .i64 y.op, .string y.k, .string y.v, .string y.o]] u fun r w' => r = .returned (.agg #[.int .i64 (badC l (K + 1 + 1 + 1) y.cmd).1.cl, .int .i64 (badC l (K + 1 + 1 + 1) y.cmd).1.sq, .int .i64 (badC l (K + 1 + 1 + 1) y.cmd).1.op, .string (badC l (K + 1 + 1 + 1) y.cmd).1.ky, .string (badC l (K + 1 + 1 + 1) y.cmd).1.vl, .string (badC l (K + 1 + 1 + 1) y.cmd).1.ol]) ∧ Src w' g v l (badC l (K + 1 + 1 + 1) y.cmd).2 ∧ u.grownBy w' (some g)) := fun u hu => l1badCmd_any g u v l (K + 1 + 1 + 1) y.cmd hL (by omega) hu
        generalize badC l (K + 1 + 1 + 1) y.cmd = CB at *
        obtain ⟨cb, KB⟩ := CB
        dsimp only at hfit HBC HB
        have Hfit : Hid (cb.ky.size ≤ maxLen ∧ cb.vl.size ≤ maxLen ∧ cb.ol.size ≤ maxLen) := hfit
        clear hfit hyf
        go_upto_region 29 with (first
          | (go_at_call 23; clear A1; refine (HDK.out.pickG 11 hL (by omega) (by decide) (by decide)).mono ?_; rintro e w4 ⟨rfl, hd_, hg_⟩; rw [← Hp.out]; have HDw4 : Hid (Dr w w4 g v l (K + 1) [(w.heap.size, #[.int .i64 m.ki, .int .i64 m.fr, .int .i64 m.td, .int .i64 m.tm, .int .i64 m.li, .int .i64 m.lt, .int .i64 m.cm, .int .i64 m.ok, .int .i64 m.hi, .slice (some ⟨qb, 0, none⟩) n cap], 27), (w.heap.size + 1, #[.int .i64 0, .int .i64 0, .int .i64 0, .int .i64 0, .int .i64 0, .int .i64 0, .int .i64 0, .int .i64 0, .int .i64 0, .slice none 0 0], 27)]) := hd_; have HOw4 : Hid (OwnE w4 w0.heap.size (.slice (some ⟨qb, 0, none⟩) n cap) m.es) := HOc.out.grown hg_ HW.out.gl; have cew4 := (hd_.blk 0 rfl).cell; have few4 := (hd_.blk 0 rfl).free; clear hd_ hg_)
          | (go_at_call 23; clear A3; refine (HPN.out _ HDw4.out).mono ?_; rintro e w5 ⟨rfl, hd_, hg_⟩; have HDw5 : Hid (Dr w w5 g v l (K + 1 + 1) [(w.heap.size, #[.int .i64 m.ki, .int .i64 m.fr, .int .i64 m.td, .int .i64 m.tm, .int .i64 m.li, .int .i64 m.lt, .int .i64 m.cm, .int .i64 m.ok, .int .i64 m.hi, .slice (some ⟨qb, 0, none⟩) n cap], 27), (w.heap.size + 1, #[.int .i64 0, .int .i64 0, .int .i64 0, .int .i64 0, .int .i64 0, .int .i64 0, .int .i64 0, .int .i64 0, .int .i64 0, .slice none 0 0], 27)]) := hd_; have HOw5 : Hid (OwnE w5 w0.heap.size (.slice (some ⟨qb, 0, none⟩) n cap) m.es) := HOw4.out.grown hg_ HW.out.gl; have ce5 := (hd_.blk 0 rfl).cell; clear hd_ hg_)
          | (go_at_call 23; refine (HDw5.out.pickG 2 hL (by omega) (by decide) (by decide)).mono ?_; rintro e w6 ⟨rfl, hd_, hg_⟩; rw [← Hq.out]; have HDw6 : Hid (Dr w w6 g v l (K + 1 + 1 + 1) [(w.heap.size, #[.int .i64 m.ki, .int .i64 m.fr, .int .i64 m.td, .int .i64 m.tm, .int .i64 m.li, .int .i64 m.lt, .int .i64 m.cm, .int .i64 m.ok, .int .i64 m.hi, .slice (some ⟨qb, 0, none⟩) n cap], 27), (w.heap.size + 1, #[.int .i64 0, .int .i64 0, .int .i64 0, .int .i64 0, .int .i64 0, .int .i64 0, .int .i64 0, .int .i64 0, .int .i64 0, .slice none 0 0], 27)]) := hd_; have HOw6 : Hid (OwnE w6 w0.heap.size (.slice (some ⟨qb, 0, none⟩) n cap) m.es) := HOw5.out.grown hg_ HW.out.gl; have cew6 := (hd_.blk 0 rfl).cell; have few6 := (hd_.blk 0 rfl).free; clear hd_ hg_))
        obtain ⟨qc, hqc, ⟨e0, e1, e2, e3, e4, e5, e6⟩, hf3⟩ := ownAt HOw6.out Hn.out (k := i) bi (by unfold maxLen; omega)
        injection hqc with hqc
        injection hqc with hqc
        subst hqc
        rw [← Hy.out] at e0 e1 e2 e3 e4 e5 e6
        go_cut [109] (fun _ wx => OwnE wx w0.heap.size (.slice (some ⟨qb, 0, none⟩) n cap) (m.es.set i (setCE cb y)) ∧ Dr w0 wx g v l KB [(w.heap.size, #[.int .i64 m.ki, .int .i64 m.fr, .int .i64 m.td, .int .i64 m.tm, .int .i64 m.li, .int .i64 m.lt, .int .i64 m.cm, .int .i64 m.ok, .int .i64 m.hi, .slice (some ⟨qb, 0, none⟩) n cap], 27), (w.heap.size + 1, #[.int .i64 0, .int .i64 0, .int .i64 0, .int .i64 0, .int .i64 0, .int .i64 0, .int .i64 0, .int .i64 0, .int .i64 0, .slice none 0 0], 27)] ∧ ∀ b, b < w.heap.size → b ≠ g → qb ≠ b → wx.heap[b]? = w.heap[b]?)
        case first =>
          have HDd : Hid (Dr w w6.drew g v l (K + 1 + 1 + 1) [(w.heap.size, #[.int .i64 m.ki, .int .i64 m.fr, .int .i64 m.td, .int .i64 m.tm, .int .i64 m.li, .int .i64 m.lt, .int .i64 m.cm, .int .i64 m.ok, .int .i64 m.hi, .slice (some ⟨qb, 0, none⟩) n cap], 27), (w.heap.size + 1, #[.int .i64 0, .int .i64 0, .int .i64 0, .int .i64 0, .int .i64 0, .int .i64 0, .int .i64 0, .int .i64 0, .int .i64 0, .slice none 0 0], 27)]) := HDw6.out.drew
          have HOd : Hid (OwnE w6.drew w0.heap.size (.slice (some ⟨qb, 0, none⟩) n cap) m.es) := HOw6.out.below (Below.refl _ _).drew
          go_region_with (go_at_call 31; refine (HBC.out _ HDd.out.src).mono ?_; rintro e w7 ⟨rfl, hs_, hg_⟩; have HDw7 : Hid (Dr w w7 g v l KB [(w.heap.size, #[.int .i64 m.ki, .int .i64 m.fr, .int .i64 m.td, .int .i64 m.tm, .int .i64 m.li, .int .i64 m.lt, .int .i64 m.cm, .int .i64 m.ok, .int .i64 m.hi, .slice (some ⟨qb, 0, none⟩) n cap], 27), (w.heap.size + 1, #[.int .i64 0, .int .i64 0, .int .i64 0, .int .i64 0, .int .i64 0, .int .i64 0, .int .i64 0, .int .i64 0, .int .i64 0, .slice none 0 0], 27)]) := HDd.out.call hs_ hg_; have ce7 := (HDw7.out.blk 0 rfl).cell; have HOw7 : Hid (OwnE w7 w0.heap.size (.slice (some ⟨qb, 0, none⟩) n cap) m.es) := HOd.out.grown hg_ HW.out.gl; obtain ⟨qd, hqd, ⟨d0, d1, d2, d3, d4, d5, d6⟩, hf7⟩ := ownAt HOw7.out Hn.out (k := i) bi (by unfold maxLen; omega); injection hqd with hqd; injection hqd with hqd; subst hqd; clear hs_ hg_)
          all_goals
            go_wp2_with fail
            go_meet
            rw [six_cells]
            exact ⟨(by rw [Hy.out]; exact HOw7.out.setC Hn.out i bi cb Hfit.out), (HW.out.rebase HDw7.out).grew (grewCells (n := n) (c := cap) cb.cells _ _) (fun q' hq' => by injection hq' with hq'; have : qb = q' := hq'; omega) (fun x hx => by obtain ⟨j, hj⟩ := List.getElem?_of_mem hx; have hx1 := (HDw7.out.blks j x hj).1; intro e; injection e with e; have : qb = x.1 := e; omega), fun b hb hne hq => (setCellsOther (fun e => hq e.symm) _ _ _).trans (HDw7.out.grown.block b hb (fun e => hne (by injection e)))⟩
        case rest =>
          obtain ⟨ho, hd, hoth⟩ := hcut
          have HOz : Hid (OwnE wc w0.heap.size (.slice (some ⟨qb, 0, none⟩) n cap) (m.es.set i (setCE cb y))) := ho
          have HDz : Hid (Dr w0 wc g v l KB [(w.heap.size, #[.int .i64 m.ki, .int .i64 m.fr, .int .i64 m.td, .int .i64 m.tm, .int .i64 m.li, .int .i64 m.lt, .int .i64 m.cm, .int .i64 m.ok, .int .i64 m.hi, .slice (some ⟨qb, 0, none⟩) n cap], 27), (w.heap.size + 1, #[.int .i64 0, .int .i64 0, .int .i64 0, .int .i64 0, .int .i64 0, .int .i64 0, .int .i64 0, .int .i64 0, .int .i64 0, .slice none 0 0], 27)]) := hd
          have HOth : Hid (∀ b, b < w.heap.size → b ≠ g → qb ≠ b → wc.heap[b]? = w.heap[b]?) := hoth
          clear ho hd hoth
          go_wp2_with (first
            | (have hBA := HDz; refine gate_ld 27 (.tmp 3) rfl ?_; clear hBA; refine wpl_load_blk rfl 27 (.tmp 3) rfl (w.heap.size) rfl (HDz.out.blk 0 rfl) Tryz.underlying27 rfl infoMsgB rfl ?_)
            | (have hBA := HDz; refine gate_st 27 (.tmp 4) _ rfl ?_; clear hBA; refine wpl_store_blk rfl 27 (.tmp 4) _ rfl (w.heap.size + 1) rfl rfl (HDz.out.blk 1 rfl) infoMsgB rfl rfl (by simp [Value.oneCell']) ?_))
          have hR := HDz.out.row 1 rfl #[.int .i64 m.ki, .int .i64 m.fr, .int .i64 m.td, .int .i64 m.tm, .int .i64 m.li, .int .i64 m.lt, .int .i64 m.cm, .int .i64 m.ok, .int .i64 m.hi, .slice (some ⟨qb, 0, none⟩) n cap] (noU8_of rfl)
          have o2 := ownE_blkM HOz.out (HDz.out.blk 1 rfl) (by decide) (setRow_keepM _ _ #[.int .i64 m.ki, .int .i64 m.fr, .int .i64 m.td, .int .i64 m.tm, .int .i64 m.li, .int .i64 m.lt, .int .i64 m.cm, .int .i64 m.ok, .int .i64 m.hi, .slice (some ⟨qb, 0, none⟩) n cap])
          have hes : R.1.es = m.es.set i (setCE cb y) := by rw [HB.out]
          exact bodyPost_ret (results_blk Tryz.results24 rfl (hR.blk 1 rfl) Tryz.underlying27 rfl infoMsgB rfl) rfl ⟨some ⟨qb, 0, none⟩, cap, by rw [HnR.out, HB.out]; dsimp only; rw [Hlen.out], by rw [HnR.out, hes, Hlen.out]; exact o2, by rw [HB.out]; exact hR.nilF, fun b hb hne hq => (setRow_other _ _ _ _ (by omega)).trans (HOth.out b hb hne (fun e => hq (by rw [e]; rfl)))⟩
end Go.Proofs.YtafmjckpbcijoaaGreatDoor

/-
  spec.l1max.
-/
namespace Go.Proofs.YtafmjckpbcijoaaGreatDoor
open Go.RowKit
set_option linter.unusedVariables false

theorem l1max_any (a b : Int) (w : World) : Calls Tryz.prog 49 #[.int .i64 a, .int .i64 b] w fun e w' => e = .returned (.int .i64 (max a b)) ∧ w' = w := by
  by_cases h : a > b
  · have e : max a b = a := by omega
    rw [e]
    go_enter Tryz.func49, Tryz.ntmps49
    go_wp2
    go_ret
    exact ⟨rfl, rfl⟩
  · have e : max a b = b := by omega
    rw [e]
    go_enter Tryz.func49, Tryz.ntmps49
    go_wp2
    go_ret
    exact ⟨rfl, rfl⟩
end Go.Proofs.YtafmjckpbcijoaaGreatDoor

/-
  spec.l1drawMsg.
-/
namespace Go.Proofs.YtafmjckpbcijoaaGreatDoor
open Go.RowKit
set_option linter.unusedVariables false
set_option linter.unusedSimpArgs false

def mgK (l : List Int) (k : Nat) : Int := if pickV l (k + 1 + 1 + 1) 3 = 0 then 5 else 1 + ((pickV l k 6 : Nat) : Int)
def mgFr (l : List Int) (k : Nat) : Int := 1 + ((pickV l (k + 1) 7 : Nat) : Int)
def mgTo (l : List Int) (k : Nat) : Int := 1 + (mgFr l k + ((pickV l (k + 1 + 1 + 1 + 1) 6 : Nat) : Int)) % 7
def mgT (l : List Int) (k : Nat) : Int × Nat := if pickV l (k + 1 + 1 + 1 + 1 + 1) 10 = 0 then (1073741824 - ((pickV l (k + 1 + 1 + 1 + 1 + 1 + 1) 2 : Nat) : Int), k + 1 + 1 + 1 + 1 + 1 + 1 + 1) else (1 + ((pickV l (k + 1 + 1) 9 : Nat) : Int), k + 1 + 1 + 1 + 1 + 1 + 1)
def mgA1 (l : List Int) (k : Nat) (tm : Int) : Int × Int × Nat := if pickV l k 4 = 0 then (0, 0, k + 1) else (1 + ((pickV l (k + 1) 30 : Nat) : Int), 1 + ((pickV l (k + 1 + 1) tm.toNat : Nat) : Int), k + 1 + 1 + pickK tm.toNat)
def mgA (l : List Int) (k : Nat) (ki tm : Int) : Int × Int × Nat := if ki = 1 ∨ ki = 3 ∨ ki = 5 then (if pickV l (mgA1 l k tm).2.2 12 = 0 then (4096, tm, (mgA1 l k tm).2.2 + 1) else ((mgA1 l k tm).1, (mgA1 l k tm).2.1, (mgA1 l k tm).2.2 + 1)) else (0, 0, k)
def mgN0 (l : List Int) (k : Nat) : Nat × Nat := if pickV l (k + 1) 10 = 0 then (32 - pickV l (k + 1 + 1) 2, k + 1 + 1 + 1) else (pickV l k 5, k + 1 + 1)
def mgN (l : List Int) (k : Nat) (li : Int) : Nat := min (mgN0 l k).1 (4096 - li).toNat
def mgB (l : List Int) (k : Nat) (ki tm li lt : Int) : Int × List Ent × Nat := if ki = 5 then (((pickV l k 40 : Nat) : Int), (entsD l (mgN0 l (k + 1)).2 (max 1 lt) (mgN l (k + 1) li)).1.map (clipE tm), (entsD l (mgN0 l (k + 1)).2 (max 1 lt) (mgN l (k + 1) li)).2.1) else (0, [], k)
def mgC (l : List Int) (k : Nat) (ki : Int) : Int × Nat := if ki = 2 ∨ ki = 4 ∨ ki = 6 then (((pickV l k 2 : Nat) : Int), k + 1) else (0, k)
def mgD (l : List Int) (k : Nat) (ki ok li : Int) : Int × Int × Nat := if ki = 6 then (((pickV l k 40 : Nat) : Int), if ok = 0 then ((pickV l (k + 1) 40 : Nat) : Int) else 0, if ok = 0 then k + 1 + 1 else k + 1) else (li, 0, k)
/-- a drawn message -/
structure MsgD where
  ki : Int
  fr : Int
  td : Int
  tm : Int
  li : Int
  lt : Int
  cm : Int
  ok : Int
  hi : Int
  es : List Ent
  k : Nat
def msgD (l : List Int) (k : Nat) : MsgD :=
  ⟨mgK l k, mgFr l k, mgTo l k, (mgT l k).1, (mgD l (mgC l (mgB l (mgA l (mgT l k).2 (mgK l k) (mgT l k).1).2.2 (mgK l k) (mgT l k).1 (mgA l (mgT l k).2 (mgK l k) (mgT l k).1).1 (mgA l (mgT l k).2 (mgK l k) (mgT l k).1).2.1).2.2 (mgK l k)).2 (mgK l k) (mgC l (mgB l (mgA l (mgT l k).2 (mgK l k) (mgT l k).1).2.2 (mgK l k) (mgT l k).1 (mgA l (mgT l k).2 (mgK l k) (mgT l k).1).1 (mgA l (mgT l k).2 (mgK l k) (mgT l k).1).2.1).2.2 (mgK l k)).1 (mgA l (mgT l k).2 (mgK l k) (mgT l k).1).1).1,
   (mgA l (mgT l k).2 (mgK l k) (mgT l k).1).2.1, (mgB l (mgA l (mgT l k).2 (mgK l k) (mgT l k).1).2.2 (mgK l k) (mgT l k).1 (mgA l (mgT l k).2 (mgK l k) (mgT l k).1).1 (mgA l (mgT l k).2 (mgK l k) (mgT l k).1).2.1).1,
   (mgC l (mgB l (mgA l (mgT l k).2 (mgK l k) (mgT l k).1).2.2 (mgK l k) (mgT l k).1 (mgA l (mgT l k).2 (mgK l k) (mgT l k).1).1 (mgA l (mgT l k).2 (mgK l k) (mgT l k).1).2.1).2.2 (mgK l k)).1,
   (mgD l (mgC l (mgB l (mgA l (mgT l k).2 (mgK l k) (mgT l k).1).2.2 (mgK l k) (mgT l k).1 (mgA l (mgT l k).2 (mgK l k) (mgT l k).1).1 (mgA l (mgT l k).2 (mgK l k) (mgT l k).1).2.1).2.2 (mgK l k)).2 (mgK l k) (mgC l (mgB l (mgA l (mgT l k).2 (mgK l k) (mgT l k).1).2.2 (mgK l k) (mgT l k).1 (mgA l (mgT l k).2 (mgK l k) (mgT l k).1).1 (mgA l (mgT l k).2 (mgK l k) (mgT l k).1).2.1).2.2 (mgK l k)).1 (mgA l (mgT l k).2 (mgK l k) (mgT l k).1).1).2.1,
   (mgB l (mgA l (mgT l k).2 (mgK l k) (mgT l k).1).2.2 (mgK l k) (mgT l k).1 (mgA l (mgT l k).2 (mgK l k) (mgT l k).1).1 (mgA l (mgT l k).2 (mgK l k) (mgT l k).1).2.1).2.1,
   (mgD l (mgC l (mgB l (mgA l (mgT l k).2 (mgK l k) (mgT l k).1).2.2 (mgK l k) (mgT l k).1 (mgA l (mgT l k).2 (mgK l k) (mgT l k).1).1 (mgA l (mgT l k).2 (mgK l k) (mgT l k).1).2.1).2.2 (mgK l k)).2 (mgK l k) (mgC l (mgB l (mgA l (mgT l k).2 (mgK l k) (mgT l k).1).2.2 (mgK l k) (mgT l k).1 (mgA l (mgT l k).2 (mgK l k) (mgT l k).1).1 (mgA l (mgT l k).2 (mgK l k) (mgT l k).1).2.1).2.2 (mgK l k)).1 (mgA l (mgT l k).2 (mgK l k) (mgT l k).1).1).2.2⟩
theorem mgA1_ok (l : List Int) (k : Nat) (tm : Int) (h1 : 1 ≤ tm) (h2 : tm ≤ 1073741824) : 0 ≤ (mgA1 l k tm).1 ∧ (mgA1 l k tm).1 ≤ 30 ∧ 0 ≤ (mgA1 l k tm).2.1 ∧ (mgA1 l k tm).2.1 ≤ 1073741824 ∧ (mgA1 l k tm).2.2 ≤ k + 6 := by
  have h3 := pickK_le tm.toNat
  have h4 := pickV_lt l (k + 1) 30 (by omega)
  have h5 := pickV_lt l (k + 1 + 1) tm.toNat (by omega)
  unfold mgA1
  split <;> (dsimp only; omega)
theorem mgA_ok (l : List Int) (k : Nat) (ki tm : Int) (h1 : 1 ≤ tm) (h2 : tm ≤ 1073741824) : 0 ≤ (mgA l k ki tm).1 ∧ (mgA l k ki tm).1 ≤ 4096 ∧ 0 ≤ (mgA l k ki tm).2.1 ∧ (mgA l k ki tm).2.1 ≤ 1073741824 ∧ (mgA l k ki tm).2.2 ≤ k + 7 := by
  have h3 := mgA1_ok l k tm h1 h2
  unfold mgA
  generalize mgA1 l k tm = x at *
  split
  · split <;> (dsimp only; omega)
  · dsimp only; omega
theorem mgN0_ok (l : List Int) (k : Nat) : (mgN0 l k).1 ≤ 32 ∧ (mgN0 l k).2 ≤ k + 3 := by
  have h3 := pickV_lt l k 5 (by omega)
  unfold mgN0
  split <;> (dsimp only; omega)
theorem mgB_k (l : List Int) (k : Nat) (ki tm li lt : Int) : (mgB l k ki tm li lt).2.2 ≤ k + 600 := by
  have h1 := mgN0_ok l (k + 1)
  have h2 := entsD_k l (mgN0 l (k + 1)).2 (max 1 lt) (mgN l (k + 1) li)
  have h3 : mgN l (k + 1) li ≤ 32 := by unfold mgN; omega
  unfold mgB
  split <;> (dsimp only; omega)
theorem ownE_blk' {w w' : World} {B b : Nat} {v : Value} {l : List Ent} {C : Array Value} {t : TypeId} (h : OwnE w B v l) (hb : Blk w b C t) (hne : 87 ≠ t) (hk : ∀ q, q ≠ b → w'.heap[q]? = w.heap[q]?) : OwnE w' B v l :=
  h.block fun q hq => hk q (fun e => ownsRow.neBlk h.2 hb hne (by rw [hq, e]))
theorem set_keep' (w : World) (b j : Nat) (x : Value) : ∀ q, q ≠ b → (w.setCell ⟨b, j, none⟩ x).heap[q]? = w.heap[q]? := fun q hq => Below.heap_setCell _ _ _ _ hq
theorem infoMsgD : (Tryz.prog.info? 27).map (·.size) = some 10 := by kernel_rfl

set_option maxHeartbeats 16000000 in
set_option maxRecDepth 100000 in
theorem l1drawMsg_any (g : Nat) (w : World) (v : Value) (l : List Int) (k : Nat) (hL : l.length ≤ 1048576) (hk : k ≤ 500000000) (h : Src w g v l k) :
    Calls Tryz.prog 22 #[.pointer (some ⟨g, 0, none⟩)] w fun r w' => ∃ ea ec, r = .returned (.agg #[.int .i64 (msgD l k).ki, .int .i64 (msgD l k).fr, .int .i64 (msgD l k).td, .int .i64 (msgD l k).tm, .int .i64 (msgD l k).li, .int .i64 (msgD l k).lt, .int .i64 (msgD l k).cm, .int .i64 (msgD l k).ok, .int .i64 (msgD l k).hi, .slice ea (msgD l k).es.length ec]) ∧ OwnE w' w.heap.size (.slice ea (msgD l k).es.length ec) (msgD l k).es ∧ Src w' g v l (msgD l k).k ∧ w.grownBy w' (some g) := by
  have hg0 : g < w.heap.size := h.lt
  have HD0 : Hid (Dr w (w.alloc (.cells #[.int .i64 0, .int .i64 0, .int .i64 0, .int .i64 0, .int .i64 0, .int .i64 0, .int .i64 0, .int .i64 0, .int .i64 0, .slice none 0 0] 27)) g v l k [(w.heap.size, #[.int .i64 0, .int .i64 0, .int .i64 0, .int .i64 0, .int .i64 0, .int .i64 0, .int .i64 0, .int .i64 0, .int .i64 0, .slice none 0 0], 27)]) := (Dr.start h).new #[.int .i64 0, .int .i64 0, .int .i64 0, .int .i64 0, .int .i64 0, .int .i64 0, .int .i64 0, .int .i64 0, .int .i64 0, .slice none 0 0] 27 (noU8_of rfl)
  clear h
  unfold msgD
  dsimp only
  have Hki : Hid (mgK l k = if pickV l (k + 1 + 1 + 1) 3 = 0 then 5 else 1 + ((pickV l k 6 : Nat) : Int)) := (rfl : mgK l k = _)
  have HmT : Hid (mgT l k = if pickV l (k + 1 + 1 + 1 + 1 + 1) 10 = 0 then (1073741824 - ((pickV l (k + 1 + 1 + 1 + 1 + 1 + 1) 2 : Nat) : Int), k + 1 + 1 + 1 + 1 + 1 + 1 + 1) else (1 + ((pickV l (k + 1 + 1) 9 : Nat) : Int), k + 1 + 1 + 1 + 1 + 1 + 1)) := (rfl : mgT l k = _)
  have Hto : Hid (mgTo l k = 1 + (1 + ((pickV l (k + 1) 7 : Nat) : Int) + ((pickV l (k + 1 + 1 + 1 + 1) 6 : Nat) : Int)) % 7) := (rfl : mgTo l k = _)
  have hfr0 : mgFr l k = 1 + ((pickV l (k + 1) 7 : Nat) : Int) := rfl
  rw [hfr0]
  clear hfr0
  generalize mgK l k = ki at *
  generalize mgTo l k = td at *
  obtain ⟨tm, k2, hT⟩ : ∃ tm k2, mgT l k = (tm, k2) := ⟨_, _, rfl⟩
  rw [hT] at HmT ⊢
  clear hT
  dsimp only
  obtain ⟨li1, lt, k3, hA⟩ : ∃ li1 lt k3, mgA l k2 ki tm = (li1, lt, k3) := ⟨_, _, _, rfl⟩
  rw [hA]
  have HA : Hid (mgA l k2 ki tm = (li1, lt, k3)) := hA
  clear hA
  dsimp only
  obtain ⟨cm, EN, k4, hB⟩ : ∃ cm EN k4, mgB l k3 ki tm li1 lt = (cm, EN, k4) := ⟨_, _, _, rfl⟩
  rw [hB]
  have HB : Hid (mgB l k3 ki tm li1 lt = (cm, EN, k4)) := hB
  clear hB
  dsimp only
  obtain ⟨ok, k5, hC⟩ : ∃ ok k5, mgC l k4 ki = (ok, k5) := ⟨_, _, rfl⟩
  rw [hC]
  have HC : Hid (mgC l k4 ki = (ok, k5)) := hC
  clear hC
  dsimp only
  obtain ⟨li, hi, k6, hD⟩ : ∃ li hi k6, mgD l k5 ki ok li1 = (li, hi, k6) := ⟨_, _, _, rfl⟩
  rw [hD]
  have HD : Hid (mgD l k5 ki ok li1 = (li, hi, k6)) := hD
  clear hD
  dsimp only
  have bp6 := pickV_lt l k 6 (by decide)
  obtain ⟨p6, hp6⟩ : ∃ p6, p6 = pickV l k 6 := ⟨_, rfl⟩
  have Hp6 : Hid (p6 = pickV l k 6) := hp6
  rw [← hp6] at bp6
  have bp7 := pickV_lt l (k + 1) 7 (by decide)
  obtain ⟨p7, hp7⟩ : ∃ p7, p7 = pickV l (k + 1) 7 := ⟨_, rfl⟩
  have Hp7 : Hid (p7 = pickV l (k + 1) 7) := hp7
  rw [← hp7] at bp7
  have bp9 := pickV_lt l (k + 1 + 1) 9 (by decide)
  obtain ⟨p9, hp9⟩ : ∃ p9, p9 = pickV l (k + 1 + 1) 9 := ⟨_, rfl⟩
  have Hp9 : Hid (p9 = pickV l (k + 1 + 1) 9) := hp9
  rw [← hp9] at bp9
  have bp3 := pickV_lt l (k + 1 + 1 + 1) 3 (by decide)
  obtain ⟨p3, hp3⟩ : ∃ p3, p3 = pickV l (k + 1 + 1 + 1) 3 := ⟨_, rfl⟩
  have Hp3 : Hid (p3 = pickV l (k + 1 + 1 + 1) 3) := hp3
  rw [← hp3] at bp3
  have bq6 := pickV_lt l (k + 1 + 1 + 1 + 1) 6 (by decide)
  obtain ⟨q6, hq6⟩ : ∃ q6, q6 = pickV l (k + 1 + 1 + 1 + 1) 6 := ⟨_, rfl⟩
  have Hq6 : Hid (q6 = pickV l (k + 1 + 1 + 1 + 1) 6) := hq6
  rw [← hq6] at bq6
  have bp10 := pickV_lt l (k + 1 + 1 + 1 + 1 + 1) 10 (by decide)
  obtain ⟨p10, hp10⟩ : ∃ p10, p10 = pickV l (k + 1 + 1 + 1 + 1 + 1) 10 := ⟨_, rfl⟩
  have Hp10 : Hid (p10 = pickV l (k + 1 + 1 + 1 + 1 + 1) 10) := hp10
  rw [← hp10] at bp10
  have bp2 := pickV_lt l (k + 1 + 1 + 1 + 1 + 1 + 1) 2 (by decide)
  obtain ⟨p2, hp2⟩ : ∃ p2, p2 = pickV l (k + 1 + 1 + 1 + 1 + 1 + 1) 2 := ⟨_, rfl⟩
  have Hp2 : Hid (p2 = pickV l (k + 1 + 1 + 1 + 1 + 1 + 1) 2) := hp2
  rw [← hp2] at bp2
  rw [← hp6, ← hp3] at Hki
  rw [← hp7, ← hq6] at Hto
  rw [← hp10, ← hp2, ← hp9] at HmT
  rw [← hp7]
  clear hp6 hp7 hp9 hp3 hq6 hp10 hp2
  have A1 : True := trivial
  have A2 : True := trivial
  have A3 : True := trivial
  go_enter Tryz.func22, Tryz.ntmps22
  go_upto_region 2 with (first
    | (go_at_call 23; clear A1; refine (HD0.out.pickG 6 hL (by omega) (by decide) (by decide)).mono ?_; rintro e w1 ⟨rfl, hd_, hg_⟩; rw [← Hp6.out]; have HDw1 : Hid (Dr w w1 g v l (k + 1) [(w.heap.size, #[.int .i64 0, .int .i64 0, .int .i64 0, .int .i64 0, .int .i64 0, .int .i64 0, .int .i64 0, .int .i64 0, .int .i64 0, .slice none 0 0], 27)]) := hd_; clear hd_ hg_)
    | (go_at_call 23; clear A2; refine (HDw1.out.pickG 7 hL (by omega) (by decide) (by decide)).mono ?_; rintro e w2 ⟨rfl, hd_, hg_⟩; rw [← Hp7.out]; have HDw2 : Hid (Dr w w2 g v l (k + 1 + 1) [(w.heap.size, #[.int .i64 0, .int .i64 0, .int .i64 0, .int .i64 0, .int .i64 0, .int .i64 0, .int .i64 0, .int .i64 0, .int .i64 0, .slice none 0 0], 27)]) := hd_; clear hd_ hg_)
    | (go_at_call 23; clear A3; refine (HDw2.out.pickG 9 hL (by omega) (by decide) (by decide)).mono ?_; rintro e w3 ⟨rfl, hd_, hg_⟩; rw [← Hp9.out]; have HDw3 : Hid (Dr w w3 g v l (k + 1 + 1 + 1) [(w.heap.size, #[.int .i64 0, .int .i64 0, .int .i64 0, .int .i64 0, .int .i64 0, .int .i64 0, .int .i64 0, .int .i64 0, .int .i64 0, .slice none 0 0], 27)]) := hd_; clear hd_ hg_)
    | (have hBA := HDw3; refine gate_st 27 (.tmp 3) _ rfl ?_; clear hBA; refine wpl_store_last rfl 27 (.tmp 3) _ rfl (w3.heap.size) rfl rfl rfl infoMsgD rfl rfl (by simp [Value.oneCell']) ?_; have HD4 : Hid (Dr w (w3.alloc (.cells #[.int .i64 (1 + (p6 : Int)), .int .i64 (1 + (p7 : Int)), .int .i64 0, .int .i64 (1 + (p9 : Int)), .int .i64 0, .int .i64 0, .int .i64 0, .int .i64 0, .int .i64 0, .slice none 0 0] 27)) g v l (k + 1 + 1 + 1) [(w.heap.size, #[.int .i64 0, .int .i64 0, .int .i64 0, .int .i64 0, .int .i64 0, .int .i64 0, .int .i64 0, .int .i64 0, .int .i64 0, .slice none 0 0], 27), (w3.heap.size, #[.int .i64 (1 + (p6 : Int)), .int .i64 (1 + (p7 : Int)), .int .i64 0, .int .i64 (1 + (p9 : Int)), .int .i64 0, .int .i64 0, .int .i64 0, .int .i64 0, .int .i64 0, .slice none 0 0], 27)]) := HDw3.out.new #[.int .i64 (1 + (p6 : Int)), .int .i64 (1 + (p7 : Int)), .int .i64 0, .int .i64 (1 + (p9 : Int)), .int .i64 0, .int .i64 0, .int .i64 0, .int .i64 0, .int .i64 0, .slice none 0 0] 27 (noU8_of rfl)))
  obtain ⟨W4, hW4⟩ : ∃ W4, W4 = w3.alloc (.cells #[.int .i64 (1 + (p6 : Int)), .int .i64 (1 + (p7 : Int)), .int .i64 0, .int .i64 (1 + (p9 : Int)), .int .i64 0, .int .i64 0, .int .i64 0, .int .i64 0, .int .i64 0, .slice none 0 0] 27) := ⟨_, rfl⟩
  rw [← hW4] at HD4 ⊢
  clear hW4 HDw1 HDw2 HDw3 HD0
  have ce4 := (HD4.out.blk 1 rfl).cell
  have fe4 := (HD4.out.blk 1 rfl).free

  go_upto_if 19 with (go_at_call 23; refine (HD4.out.pickG 3 hL (by omega) (by decide) (by decide)).mono ?_; rintro e w5 ⟨rfl, hd_, hg_⟩; rw [← Hp3.out]; have HDw5 : Hid (Dr w w5 g v l (k + 1 + 1 + 1 + 1) [(w.heap.size, #[.int .i64 0, .int .i64 0, .int .i64 0, .int .i64 0, .int .i64 0, .int .i64 0, .int .i64 0, .int .i64 0, .int .i64 0, .slice none 0 0], 27), (w3.heap.size, #[.int .i64 (1 + (p6 : Int)), .int .i64 (1 + (p7 : Int)), .int .i64 0, .int .i64 (1 + (p9 : Int)), .int .i64 0, .int .i64 0, .int .i64 0, .int .i64 0, .int .i64 0, .slice none 0 0], 27)]) := hd_; have cew5 := (hd_.blk 1 rfl).cell; have few5 := (hd_.blk 1 rfl).free; clear hd_ hg_)
  go_cut [19] (fun _ wx => Dr w wx g v l (k + 1 + 1 + 1 + 1) [(w.heap.size, #[.int .i64 0, .int .i64 0, .int .i64 0, .int .i64 0, .int .i64 0, .int .i64 0, .int .i64 0, .int .i64 0, .int .i64 0, .slice none 0 0], 27), (w3.heap.size, #[.int .i64 ki, .int .i64 (1 + (p7 : Int)), .int .i64 0, .int .i64 (1 + (p9 : Int)), .int .i64 0, .int .i64 0, .int .i64 0, .int .i64 0, .int .i64 0, .slice none 0 0], 27)])
  case first =>
    as_aux_lemma =>
      by_cases c3 : p3 = 0
      · subst c3
        rw [if_pos rfl] at Hki
        go_wp2_with fail
        go_meet
        rw [Hki.out]
        exact HDw5.out.set 1 rfl 0 (by simp) (.int .i64 5) rfl
      · rw [if_neg c3] at Hki
        have c4 : ((p3 : Int) == 0) = false := by rw [beq_eq_false_iff_ne]; omega
        go_wp2_with fail
        go_meet
        rw [Hki.out]
        exact HDw5.out
  case rest =>
    have HD5 : Hid (Dr w wc g v l (k + 1 + 1 + 1 + 1) [(w.heap.size, #[.int .i64 0, .int .i64 0, .int .i64 0, .int .i64 0, .int .i64 0, .int .i64 0, .int .i64 0, .int .i64 0, .int .i64 0, .slice none 0 0], 27), (w3.heap.size, #[.int .i64 ki, .int .i64 (1 + (p7 : Int)), .int .i64 0, .int .i64 (1 + (p9 : Int)), .int .i64 0, .int .i64 0, .int .i64 0, .int .i64 0, .int .i64 0, .slice none 0 0], 27)]) := hcut
    have hki : 1 ≤ ki ∧ ki ≤ 6 := by
      have h := Hki.out
      split at h <;> omega
    obtain ⟨hki1, hki2⟩ := hki
    clear hcut Hki HD4 ce4 fe4
    have ce5 := (HD5.out.blk 1 rfl).cell
    have fe5 := (HD5.out.blk 1 rfl).free
    go_upto_region 4 with fail
    go_cut [28] (fun _ wx => Dr w wx g v l (k + 1 + 1 + 1 + 1 + 1) [(w.heap.size, #[.int .i64 0, .int .i64 0, .int .i64 0, .int .i64 0, .int .i64 0, .int .i64 0, .int .i64 0, .int .i64 0, .int .i64 0, .slice none 0 0], 27), (w3.heap.size, #[.int .i64 ki, .int .i64 (1 + (p7 : Int)), .int .i64 td, .int .i64 (1 + (p9 : Int)), .int .i64 0, .int .i64 0, .int .i64 0, .int .i64 0, .int .i64 0, .slice none 0 0], 27)])
    case first =>
      as_aux_lemma =>
        have hw1 : IntKind.i64.wrap (1 + (p7 : Int) + (q6 : Int)) = 1 + (p7 : Int) + (q6 : Int) := (by rw [IntKind.wrap_i64]; omega)
        have hw2 : (1 + (p7 : Int) + (q6 : Int)).tmod 7 = (1 + (p7 : Int) + (q6 : Int)) % 7 := Int.tmod_eq_emod_of_nonneg (by omega)
        have hw3 : IntKind.i64.wrap (1 + (1 + (p7 : Int) + (q6 : Int)) % 7) = 1 + (1 + (p7 : Int) + (q6 : Int)) % 7 := (by rw [IntKind.wrap_i64]; omega)
        go_region_with (go_at_call 23; refine (HD5.out.drew.pickG 6 hL (by omega) (by decide) (by decide)).mono ?_; rintro e w6 ⟨rfl, hd_, hg_⟩; rw [← Hq6.out]; have HDw6 : Hid (Dr w w6 g v l (k + 1 + 1 + 1 + 1 + 1) [(w.heap.size, #[.int .i64 0, .int .i64 0, .int .i64 0, .int .i64 0, .int .i64 0, .int .i64 0, .int .i64 0, .int .i64 0, .int .i64 0, .slice none 0 0], 27), (w3.heap.size, #[.int .i64 ki, .int .i64 (1 + (p7 : Int)), .int .i64 0, .int .i64 (1 + (p9 : Int)), .int .i64 0, .int .i64 0, .int .i64 0, .int .i64 0, .int .i64 0, .slice none 0 0], 27)]) := hd_; have ce6 := (hd_.blk 1 rfl).cell; have fe6 := (hd_.blk 1 rfl).free; clear hd_ hg_)
        all_goals go_wp2_with fail
        all_goals go_meet
        all_goals (rw [Hto.out]; exact HDw6.out.set 1 rfl 2 (by simp) (.int .i64 (1 + (1 + (p7 : Int) + (q6 : Int)) % 7)) rfl)
    case rest =>
      have HD6 : Hid (Dr w wc g v l (k + 1 + 1 + 1 + 1 + 1) [(w.heap.size, #[.int .i64 0, .int .i64 0, .int .i64 0, .int .i64 0, .int .i64 0, .int .i64 0, .int .i64 0, .int .i64 0, .int .i64 0, .slice none 0 0], 27), (w3.heap.size, #[.int .i64 ki, .int .i64 (1 + (p7 : Int)), .int .i64 td, .int .i64 (1 + (p9 : Int)), .int .i64 0, .int .i64 0, .int .i64 0, .int .i64 0, .int .i64 0, .slice none 0 0], 27)]) := hcut
      have htd : 1 ≤ td ∧ td ≤ 7 := by have h := Hto.out; omega
      obtain ⟨htd1, htd2⟩ := htd
      clear hcut Hto HD5 ce5 fe5
      have ce6 := (HD6.out.blk 1 rfl).cell
      have fe6 := (HD6.out.blk 1 rfl).free
      go_upto_if 31 with (go_at_call 23; refine (HD6.out.pickG 10 hL (by omega) (by decide) (by decide)).mono ?_; rintro e w7 ⟨rfl, hd_, hg_⟩; rw [← Hp10.out]; have HDw7 : Hid (Dr w w7 g v l (k + 1 + 1 + 1 + 1 + 1 + 1) [(w.heap.size, #[.int .i64 0, .int .i64 0, .int .i64 0, .int .i64 0, .int .i64 0, .int .i64 0, .int .i64 0, .int .i64 0, .int .i64 0, .slice none 0 0], 27), (w3.heap.size, #[.int .i64 ki, .int .i64 (1 + (p7 : Int)), .int .i64 td, .int .i64 (1 + (p9 : Int)), .int .i64 0, .int .i64 0, .int .i64 0, .int .i64 0, .int .i64 0, .slice none 0 0], 27)]) := hd_; have cew7 := (hd_.blk 1 rfl).cell; have few7 := (hd_.blk 1 rfl).free; clear hd_ hg_)
      go_cut [31] (fun _ wx => Dr w wx g v l k2 [(w.heap.size, #[.int .i64 0, .int .i64 0, .int .i64 0, .int .i64 0, .int .i64 0, .int .i64 0, .int .i64 0, .int .i64 0, .int .i64 0, .slice none 0 0], 27), (w3.heap.size, #[.int .i64 ki, .int .i64 (1 + (p7 : Int)), .int .i64 td, .int .i64 tm, .int .i64 0, .int .i64 0, .int .i64 0, .int .i64 0, .int .i64 0, .slice none 0 0], 27)])
      case first =>
        as_aux_lemma =>
          by_cases c10 : p10 = 0
          · subst c10
            rw [if_pos rfl] at HmT
            have hPE := HmT.out
            injection hPE with e1 e2
            subst e1 e2
            go_wp2_with (go_at_call 23; refine (HDw7.out.pickG 2 hL (by omega) (by decide) (by decide)).mono ?_; rintro e w8 ⟨rfl, hd_, hg_⟩; rw [← Hp2.out]; have HDw8 : Hid (Dr w w8 g v l (k + 1 + 1 + 1 + 1 + 1 + 1 + 1) [(w.heap.size, #[.int .i64 0, .int .i64 0, .int .i64 0, .int .i64 0, .int .i64 0, .int .i64 0, .int .i64 0, .int .i64 0, .int .i64 0, .slice none 0 0], 27), (w3.heap.size, #[.int .i64 ki, .int .i64 (1 + (p7 : Int)), .int .i64 td, .int .i64 (1 + (p9 : Int)), .int .i64 0, .int .i64 0, .int .i64 0, .int .i64 0, .int .i64 0, .slice none 0 0], 27)]) := hd_; have cew8 := (hd_.blk 1 rfl).cell; have few8 := (hd_.blk 1 rfl).free; clear hd_ hg_)
            go_meet
            exact HDw8.out.set 1 rfl 3 (by simp) (.int .i64 (1073741824 - (p2 : Int))) rfl
          · rw [if_neg c10] at HmT
            have hPE := HmT.out
            injection hPE with e1 e2
            subst e1 e2
            have c11 : ((p10 : Int) == 0) = false := by rw [beq_eq_false_iff_ne]; omega
            go_wp2_with fail
            go_meet
            exact HDw7.out
      case rest =>
        have HD7 : Hid (Dr w wc g v l k2 [(w.heap.size, #[.int .i64 0, .int .i64 0, .int .i64 0, .int .i64 0, .int .i64 0, .int .i64 0, .int .i64 0, .int .i64 0, .int .i64 0, .slice none 0 0], 27), (w3.heap.size, #[.int .i64 ki, .int .i64 (1 + (p7 : Int)), .int .i64 td, .int .i64 tm, .int .i64 0, .int .i64 0, .int .i64 0, .int .i64 0, .int .i64 0, .slice none 0 0], 27)]) := hcut
        have htm : 1 ≤ tm ∧ tm ≤ 1073741824 ∧ k2 ≤ k + 7 := by
          have h := HmT.out
          split at h <;> (injection h with e1 e2; omega)
        obtain ⟨htm1, htm2, hk2⟩ := htm
        clear hcut HmT HD6 ce6 fe6
        have ce7 := (HD7.out.blk 1 rfl).cell
        have fe7 := (HD7.out.blk 1 rfl).free
        obtain ⟨kb, hkb⟩ : ∃ kb : Bool, kb = decide (ki = 1 ∨ ki = 3 ∨ ki = 5) := ⟨_, rfl⟩
        have Hkb : Hid (kb = decide (ki = 1 ∨ ki = 3 ∨ ki = 5)) := hkb
        clear hkb
        go_upto_region 7 with fail
        go_cut [48] (fun s48 wx => s48 = .bool kb ∧ wx = wc)
        case first =>
          as_aux_lemma =>
            rcases (show ki = 1 ∨ ki = 2 ∨ ki = 3 ∨ ki = 4 ∨ ki = 5 ∨ ki = 6 by omega) with q | q | q | q | q | q
            · have e1 : (ki == 1) = true := by rw [q]; rfl
              have e3 : (ki == 3) = false := by rw [q]; rfl
              have e5 : (ki == 5) = false := by rw [q]; rfl
              have hv_ : kb = true := by rw [Hkb.out]; simp [q]
              clear q
              go_wp2_with fail
              go_meet
              exact ⟨by rw [hv_], rfl⟩
            · have e1 : (ki == 1) = false := by rw [q]; rfl
              have e3 : (ki == 3) = false := by rw [q]; rfl
              have e5 : (ki == 5) = false := by rw [q]; rfl
              have hv_ : kb = false := by rw [Hkb.out]; simp [q]
              clear q
              go_wp2_with fail
              go_meet
              exact ⟨by rw [hv_], rfl⟩
            · have e1 : (ki == 1) = false := by rw [q]; rfl
              have e3 : (ki == 3) = true := by rw [q]; rfl
              have e5 : (ki == 5) = false := by rw [q]; rfl
              have hv_ : kb = true := by rw [Hkb.out]; simp [q]
              clear q
              go_wp2_with fail
              go_meet
              exact ⟨by rw [hv_], rfl⟩
            · have e1 : (ki == 1) = false := by rw [q]; rfl
              have e3 : (ki == 3) = false := by rw [q]; rfl
              have e5 : (ki == 5) = false := by rw [q]; rfl
              have hv_ : kb = false := by rw [Hkb.out]; simp [q]
              clear q
              go_wp2_with fail
              go_meet
              exact ⟨by rw [hv_], rfl⟩
            · have e1 : (ki == 1) = false := by rw [q]; rfl
              have e3 : (ki == 3) = false := by rw [q]; rfl
              have e5 : (ki == 5) = true := by rw [q]; rfl
              have hv_ : kb = true := by rw [Hkb.out]; simp [q]
              clear q
              go_wp2_with fail
              go_meet
              exact ⟨by rw [hv_], rfl⟩
            · have e1 : (ki == 1) = false := by rw [q]; rfl
              have e3 : (ki == 3) = false := by rw [q]; rfl
              have e5 : (ki == 5) = false := by rw [q]; rfl
              have hv_ : kb = false := by rw [Hkb.out]; simp [q]
              clear q
              go_wp2_with fail
              go_meet
              exact ⟨by rw [hv_], rfl⟩
        case rest =>
          obtain ⟨rfl, rfl⟩ := hcut
          go_upto_if 48 with fail
          obtain ⟨W7, hW7⟩ : ∃ W7, W7 = wc := ⟨_, rfl⟩
          subst hW7
          go_cut [48] (fun _ wx => Dr w wx g v l k3 [(w.heap.size, #[.int .i64 0, .int .i64 0, .int .i64 0, .int .i64 0, .int .i64 0, .int .i64 0, .int .i64 0, .int .i64 0, .int .i64 0, .slice none 0 0], 27), (w3.heap.size, #[.int .i64 ki, .int .i64 (1 + (p7 : Int)), .int .i64 td, .int .i64 tm, .int .i64 li1, .int .i64 lt, .int .i64 0, .int .i64 0, .int .i64 0, .slice none 0 0], 27)])
          case first =>
            as_aux_lemma =>
              have hA := HA.out
              unfold mgA at hA
              cases hkv : kb
              · have hkn : ¬ (ki = 1 ∨ ki = 3 ∨ ki = 5) := of_decide_eq_false (Hkb.out.symm.trans hkv)
                rw [if_neg hkn] at hA
                injection hA with e1 e2
                injection e2 with e2 e3
                subst e1 e2 e3
                have HKV : Hid (kb = false) := hkv
                clear hkn
                go_wp2_with fail
                go_meet
                exact HD7.out
              · have hkn : (ki = 1 ∨ ki = 3 ∨ ki = 5) := of_decide_eq_true (Hkb.out.symm.trans hkv)
                rw [if_pos hkn] at hA
                obtain ⟨la, lb, kA, hA1⟩ : ∃ la lb kA, mgA1 l k2 tm = (la, lb, kA) := ⟨_, _, _, rfl⟩
                rw [hA1] at hA
                dsimp only at hA
                have HA1 : Hid (mgA1 l k2 tm = (la, lb, kA)) := hA1
                have HA2 : Hid ((if pickV l kA 12 = 0 then (4096, tm, kA + 1) else (la, lb, kA + 1)) = (li1, lt, k3)) := hA
                clear hA hA1 hkn HA
                have bp4 := pickV_lt l k2 4 (by decide)
                obtain ⟨p4, hp4⟩ : ∃ p4, p4 = pickV l k2 4 := ⟨_, rfl⟩
                have Hp4 : Hid (p4 = pickV l k2 4) := hp4
                rw [← hp4] at bp4
                have bp30 := pickV_lt l (k2 + 1) 30 (by decide)
                obtain ⟨p30, hp30⟩ : ∃ p30, p30 = pickV l (k2 + 1) 30 := ⟨_, rfl⟩
                have Hp30 : Hid (p30 = pickV l (k2 + 1) 30) := hp30
                rw [← hp30] at bp30
                have bp12 := pickV_lt l kA 12 (by decide)
                obtain ⟨p12, hp12⟩ : ∃ p12, p12 = pickV l kA 12 := ⟨_, rfl⟩
                have Hp12 : Hid (p12 = pickV l kA 12) := hp12
                rw [← hp12] at bp12
                obtain ⟨pt, hpt⟩ : ∃ pt, pt = pickV l (k2 + 1 + 1) tm.toNat := ⟨_, rfl⟩
                have Hpt : Hid (pt = pickV l (k2 + 1 + 1) tm.toNat) := hpt
                have bpt := pickV_lt l (k2 + 1 + 1) tm.toNat (by omega)
                rw [← hpt] at bpt
                have hkA := pickK_le tm.toNat
                have hkA2 : kA ≤ k2 + 6 := by
                  have h := HA1.out
                  unfold mgA1 at h
                  split at h <;> (injection h with e1 e2; injection e2 with e2 e3; omega)
                clear hpt hp4 hp30 hp12
                have HPT : Hid (∀ u : World, Dr w u g v l (k2 + 1 + 1) [(w.heap.size, #[.int .i64 0, .int .i64 0, .int .i64 0, .int .i64 0, .int .i64 0, .int .i64 0, .int .i64 0, .int .i64 0, .int .i64 0, .slice none 0 0], 27), (w3.heap.size, #[.int .i64 ki, .int .i64 (1 + (p7 : Int)), .int .i64 td, .int .i64 tm, .int .i64 (1 + (p30 : Int)), .int .i64 0, .int .i64 0, .int .i64 0, .int .i64 0, .slice none 0 0], 27)] → Calls Tryz.prog 23 #[.pointer (some ⟨g, 0, none⟩), .int .i64 tm] u fun e w' => e = .returned (.int .i64 (pt : Nat)) ∧ Dr w w' g v l (k2 + 1 + 1 + pickK tm.toNat) [(w.heap.size, #[.int .i64 0, .int .i64 0, .int .i64 0, .int .i64 0, .int .i64 0, .int .i64 0, .int .i64 0, .int .i64 0, .int .i64 0, .slice none 0 0], 27), (w3.heap.size, #[.int .i64 ki, .int .i64 (1 + (p7 : Int)), .int .i64 td, .int .i64 tm, .int .i64 (1 + (p30 : Int)), .int .i64 0, .int .i64 0, .int .i64 0, .int .i64 0, .slice none 0 0], 27)]) := fun u hu => by
                  rw [Hpt.out]
                  have hx := hu.pick tm.toNat hL (by omega) (by omega) (by omega)
                  rw [show ((tm.toNat : Nat) : Int) = tm by omega] at hx
                  exact hx
                go_upto_if 51 with (go_at_call 23; refine (HD7.out.pickG 4 hL (by omega) (by decide) (by decide)).mono ?_; rintro e w8 ⟨rfl, hd_, hg_⟩; rw [← Hp4.out]; have HDw8 : Hid (Dr w w8 g v l (k2 + 1) [(w.heap.size, #[.int .i64 0, .int .i64 0, .int .i64 0, .int .i64 0, .int .i64 0, .int .i64 0, .int .i64 0, .int .i64 0, .int .i64 0, .slice none 0 0], 27), (w3.heap.size, #[.int .i64 ki, .int .i64 (1 + (p7 : Int)), .int .i64 td, .int .i64 tm, .int .i64 0, .int .i64 0, .int .i64 0, .int .i64 0, .int .i64 0, .slice none 0 0], 27)]) := hd_; have cew8 := (hd_.blk 1 rfl).cell; have few8 := (hd_.blk 1 rfl).free; clear hd_ hg_)
                go_cut [51] (fun _ wx => Dr w wx g v l kA [(w.heap.size, #[.int .i64 0, .int .i64 0, .int .i64 0, .int .i64 0, .int .i64 0, .int .i64 0, .int .i64 0, .int .i64 0, .int .i64 0, .slice none 0 0], 27), (w3.heap.size, #[.int .i64 ki, .int .i64 (1 + (p7 : Int)), .int .i64 td, .int .i64 tm, .int .i64 la, .int .i64 lb, .int .i64 0, .int .i64 0, .int .i64 0, .slice none 0 0], 27)])
                case first =>
                  have h := HA1.out
                  unfold mgA1 at h
                  rw [← Hp4.out, ← Hp30.out, ← Hpt.out] at h
                  by_cases c4 : p4 = 0
                  · subst c4
                    rw [if_pos rfl] at h
                    injection h with e1 e2
                    injection e2 with e2 e3
                    subst e1 e2 e3
                    go_wp2_with fail
                    go_meet
                    exact HDw8.out
                  · rw [if_neg c4] at h
                    injection h with e1 e2
                    injection e2 with e2 e3
                    subst e1 e2 e3
                    have c5 : ((p4 : Int) != 0) = true := by rw [bne_iff_ne]; omega
                    have A4 : True := trivial
                    go_wp2_with (first
                      | (go_at_call 23; clear A4; refine (HDw8.out.pickG 30 hL (by omega) (by decide) (by decide)).mono ?_; rintro e w9 ⟨rfl, hd_, hg_⟩; rw [← Hp30.out]; have HDw9 : Hid (Dr w w9 g v l (k2 + 1 + 1) [(w.heap.size, #[.int .i64 0, .int .i64 0, .int .i64 0, .int .i64 0, .int .i64 0, .int .i64 0, .int .i64 0, .int .i64 0, .int .i64 0, .slice none 0 0], 27), (w3.heap.size, #[.int .i64 ki, .int .i64 (1 + (p7 : Int)), .int .i64 td, .int .i64 tm, .int .i64 0, .int .i64 0, .int .i64 0, .int .i64 0, .int .i64 0, .slice none 0 0], 27)]) := hd_; have cew9 := (hd_.blk 1 rfl).cell; have few9 := (hd_.blk 1 rfl).free; clear hd_ hg_; have HDs9 : Hid (Dr w (w9.setCell ⟨w3.heap.size, 4, none⟩ (.int .i64 (1 + (p30 : Int)))) g v l (k2 + 1 + 1) [(w.heap.size, #[.int .i64 0, .int .i64 0, .int .i64 0, .int .i64 0, .int .i64 0, .int .i64 0, .int .i64 0, .int .i64 0, .int .i64 0, .slice none 0 0], 27), (w3.heap.size, #[.int .i64 ki, .int .i64 (1 + (p7 : Int)), .int .i64 td, .int .i64 tm, .int .i64 (1 + (p30 : Int)), .int .i64 0, .int .i64 0, .int .i64 0, .int .i64 0, .slice none 0 0], 27)]) := HDw9.out.set 1 rfl 4 (by simp) (.int .i64 (1 + (p30 : Int))) rfl)
                      | (go_at_call 23; refine (HPT.out _ HDs9.out).mono ?_; rintro e w10 ⟨rfl, hd_⟩; have HDw10 : Hid (Dr w w10 g v l (k2 + 1 + 1 + pickK tm.toNat) [(w.heap.size, #[.int .i64 0, .int .i64 0, .int .i64 0, .int .i64 0, .int .i64 0, .int .i64 0, .int .i64 0, .int .i64 0, .int .i64 0, .slice none 0 0], 27), (w3.heap.size, #[.int .i64 ki, .int .i64 (1 + (p7 : Int)), .int .i64 td, .int .i64 tm, .int .i64 (1 + (p30 : Int)), .int .i64 0, .int .i64 0, .int .i64 0, .int .i64 0, .slice none 0 0], 27)]) := hd_; have ce10 := (hd_.blk 1 rfl).cell; have fe10 := (hd_.blk 1 rfl).free; clear hd_))
                    go_meet
                    exact HDw10.out.set 1 rfl 5 (by simp) (.int .i64 (1 + (pt : Int))) rfl
                case rest =>
                  have HDl : Hid (Dr w wc g v l kA [(w.heap.size, #[.int .i64 0, .int .i64 0, .int .i64 0, .int .i64 0, .int .i64 0, .int .i64 0, .int .i64 0, .int .i64 0, .int .i64 0, .slice none 0 0], 27), (w3.heap.size, #[.int .i64 ki, .int .i64 (1 + (p7 : Int)), .int .i64 td, .int .i64 tm, .int .i64 la, .int .i64 lb, .int .i64 0, .int .i64 0, .int .i64 0, .slice none 0 0], 27)]) := hcut
                  have cel := (hcut.blk 1 rfl).cell
                  have fel := (hcut.blk 1 rfl).free
                  clear hcut
                  have h := HA2.out
                  rw [← Hp12.out] at h
                  by_cases c12 : p12 = 0
                  · subst c12
                    rw [if_pos rfl] at h
                    injection h with e1 e2
                    injection e2 with e2 e3
                    subst e1 e2 e3
                    go_wp2_with (go_at_call 23; refine (HDl.out.pickG 12 hL (by omega) (by decide) (by decide)).mono ?_; rintro e w11 ⟨rfl, hd_, hg_⟩; rw [← Hp12.out]; have HDw11 : Hid (Dr w w11 g v l (kA + 1) [(w.heap.size, #[.int .i64 0, .int .i64 0, .int .i64 0, .int .i64 0, .int .i64 0, .int .i64 0, .int .i64 0, .int .i64 0, .int .i64 0, .slice none 0 0], 27), (w3.heap.size, #[.int .i64 ki, .int .i64 (1 + (p7 : Int)), .int .i64 td, .int .i64 tm, .int .i64 la, .int .i64 lb, .int .i64 0, .int .i64 0, .int .i64 0, .slice none 0 0], 27)]) := hd_; have cew11 := (hd_.blk 1 rfl).cell; have few11 := (hd_.blk 1 rfl).free; clear hd_ hg_)
                    go_meet
                    exact (HDw11.out.set 1 rfl 4 (by simp) (.int .i64 4096) rfl).set 1 rfl 5 (by simp) (.int .i64 tm) rfl
                  · rw [if_neg c12] at h
                    injection h with e1 e2
                    injection e2 with e2 e3
                    subst e1 e2 e3
                    have c13 : ((p12 : Int) == 0) = false := by rw [beq_eq_false_iff_ne]; omega
                    go_wp2_with (go_at_call 23; refine (HDl.out.pickG 12 hL (by omega) (by decide) (by decide)).mono ?_; rintro e w11 ⟨rfl, hd_, hg_⟩; rw [← Hp12.out]; have HDw11 : Hid (Dr w w11 g v l (kA + 1) [(w.heap.size, #[.int .i64 0, .int .i64 0, .int .i64 0, .int .i64 0, .int .i64 0, .int .i64 0, .int .i64 0, .int .i64 0, .int .i64 0, .slice none 0 0], 27), (w3.heap.size, #[.int .i64 ki, .int .i64 (1 + (p7 : Int)), .int .i64 td, .int .i64 tm, .int .i64 la, .int .i64 lb, .int .i64 0, .int .i64 0, .int .i64 0, .slice none 0 0], 27)]) := hd_; have cew11 := (hd_.blk 1 rfl).cell; have few11 := (hd_.blk 1 rfl).free; clear hd_ hg_)
                    go_meet
                    exact HDw11.out
          case rest =>
            have HD8 : Hid (Dr w wc g v l k3 [(w.heap.size, #[.int .i64 0, .int .i64 0, .int .i64 0, .int .i64 0, .int .i64 0, .int .i64 0, .int .i64 0, .int .i64 0, .int .i64 0, .slice none 0 0], 27), (w3.heap.size, #[.int .i64 ki, .int .i64 (1 + (p7 : Int)), .int .i64 td, .int .i64 tm, .int .i64 li1, .int .i64 lt, .int .i64 0, .int .i64 0, .int .i64 0, .slice none 0 0], 27)]) := hcut
            have hbd := mgA_ok l k2 ki tm htm1 htm2
            rw [HA.out] at hbd
            dsimp only at hbd
            obtain ⟨hb1, hb2, hb3, hb4, hb5⟩ := hbd
            clear hcut HA HD7 ce7 fe7 Hkb
            have ce8 := (HD8.out.blk 1 rfl).cell
            have fe8 := (HD8.out.blk 1 rfl).free
            have hz8 := HD8.out.lt 1 rfl
            go_upto_if 71 with fail
            go_cut [71] (fun _ wx => ∃ ea ec, OwnE wx w.heap.size (.slice ea EN.length ec) EN ∧ Dr w wx g v l k4 [(w.heap.size, #[.int .i64 0, .int .i64 0, .int .i64 0, .int .i64 0, .int .i64 0, .int .i64 0, .int .i64 0, .int .i64 0, .int .i64 0, .slice none 0 0], 27), (w3.heap.size, #[.int .i64 ki, .int .i64 (1 + (p7 : Int)), .int .i64 td, .int .i64 tm, .int .i64 li1, .int .i64 lt, .int .i64 cm, .int .i64 0, .int .i64 0, .slice ea EN.length ec], 27)])
            case first =>
              as_aux_lemma =>
                have h := HB.out
                unfold mgB at h
                by_cases c5 : ki = 5
                · rw [if_pos c5] at h
                  have c6 : (ki == 5) = true := by rw [c5]; rfl
                  clear c5
                  have hn0 := mgN0_ok l (k3 + 1)
                  obtain ⟨n0, kN, hN0⟩ : ∃ n0 kN, mgN0 l (k3 + 1) = (n0, kN) := ⟨_, _, rfl⟩
                  have HN0 : Hid (mgN0 l (k3 + 1) = (n0, kN)) := hN0
                  obtain ⟨n, hn⟩ : ∃ n, n = mgN l (k3 + 1) li1 := ⟨_, rfl⟩
                  have hn2 : n = min n0 (4096 - li1).toNat := by rw [hn]; unfold mgN; rw [hN0]
                  rw [← hn, hN0] at h
                  rw [hN0] at hn0
                  dsimp only at h hn0
                  have Hn2 : Hid (n = min n0 (4096 - li1).toNat) := hn2
                  clear hn hN0 hn2
                  obtain ⟨q40, hq40⟩ : ∃ q40, q40 = pickV l k3 40 := ⟨_, rfl⟩
                  have Hq40 : Hid (q40 = pickV l k3 40) := hq40
                  rw [← hq40] at h
                  clear hq40
                  obtain ⟨mx, hmx⟩ : ∃ mx, mx = max 1 lt := ⟨_, rfl⟩
                  have Hmx : Hid (mx = max 1 lt) := hmx
                  have hmx1 : 1 ≤ mx ∧ mx ≤ 1073741824 := by omega
                  rw [← hmx] at h
                  clear hmx
                  obtain ⟨hmx0, hmxM⟩ := hmx1
                  have hnb : n ≤ 32 := by have := Hn2.out; omega
                  obtain ⟨D, KD, TD, hDe⟩ : ∃ D KD TD, entsD l kN mx n = (D, KD, TD) := ⟨_, _, _, rfl⟩
                  have hDl := entsD_len l kN mx n
                  rw [hDe] at hDl
                  dsimp only at hDl
                  have HEs : Hid (∀ (u : World), Src u g v l kN → Calls Tryz.prog 48 #[.pointer (some ⟨g, 0, none⟩), .int .i64 n, .int .i64 mx] u fun r w' => ∃ ev, r = .returned ev ∧ OwnE w' u.heap.size ev D ∧ Src w' g v l KD ∧ u.grownBy w' (some g)) := fun u hu => by
                    have := l1drawEntries_any g u v l kN n mx hL (by omega) (by omega) ⟨by omega, hmxM⟩ hu
                    rw [hDe] at this
                    exact this
                  rw [hDe] at h
                  clear hDe
                  injection h with e1 e2
                  injection e2 with e2 e3
                  subst e1
                  have HEN : Hid (EN = D.map (clipE tm)) := e2.symm
                  have hKD : KD = k4 := e3
                  subst hKD
                  clear e2
                  have A5 : True := trivial
                  go_upto_if 79 with (first
                    | (go_at_call 23; clear A5; refine (HD8.out.pickG 40 hL (by omega) (by decide) (by decide)).mono ?_; rintro e w15 ⟨rfl, hd_, hg_⟩; rw [← Hq40.out]; have HDw15 : Hid (Dr w w15 g v l (k3 + 1) [(w.heap.size, #[.int .i64 0, .int .i64 0, .int .i64 0, .int .i64 0, .int .i64 0, .int .i64 0, .int .i64 0, .int .i64 0, .int .i64 0, .slice none 0 0], 27), (w3.heap.size, #[.int .i64 ki, .int .i64 (1 + (p7 : Int)), .int .i64 td, .int .i64 tm, .int .i64 li1, .int .i64 lt, .int .i64 0, .int .i64 0, .int .i64 0, .slice none 0 0], 27)]) := hd_; have cew15 := (hd_.blk 1 rfl).cell; have few15 := (hd_.blk 1 rfl).free; have HDs15 : Hid (Dr w (w15.setCell ⟨w3.heap.size, 6, none⟩ (.int .i64 (q40 : Int))) g v l (k3 + 1) [(w.heap.size, #[.int .i64 0, .int .i64 0, .int .i64 0, .int .i64 0, .int .i64 0, .int .i64 0, .int .i64 0, .int .i64 0, .int .i64 0, .slice none 0 0], 27), (w3.heap.size, #[.int .i64 ki, .int .i64 (1 + (p7 : Int)), .int .i64 td, .int .i64 tm, .int .i64 li1, .int .i64 lt, .int .i64 (q40 : Int), .int .i64 0, .int .i64 0, .slice none 0 0], 27)]) := HDw15.out.set 1 rfl 6 (by simp) (.int .i64 (q40 : Int)) rfl; have A6 : True := trivial; obtain ⟨qd, hqd⟩ : ∃ qd, qd = pickV l (k3 + 1) 5 := ⟨_, rfl⟩; have Hqd : Hid (qd = pickV l (k3 + 1) 5) := hqd; clear hqd; clear hd_ hg_)
                    | (go_at_call 23; clear A6; refine (HDs15.out.pickG 5 hL (by omega) (by decide) (by decide)).mono ?_; rintro e w16 ⟨rfl, hd_, hg_⟩; rw [← Hqd.out]; have HDw16 : Hid (Dr w w16 g v l (k3 + 1 + 1) [(w.heap.size, #[.int .i64 0, .int .i64 0, .int .i64 0, .int .i64 0, .int .i64 0, .int .i64 0, .int .i64 0, .int .i64 0, .int .i64 0, .slice none 0 0], 27), (w3.heap.size, #[.int .i64 ki, .int .i64 (1 + (p7 : Int)), .int .i64 td, .int .i64 tm, .int .i64 li1, .int .i64 lt, .int .i64 (q40 : Int), .int .i64 0, .int .i64 0, .slice none 0 0], 27)]) := hd_; have cew16 := (hd_.blk 1 rfl).cell; have few16 := (hd_.blk 1 rfl).free; obtain ⟨qe, hqe⟩ : ∃ qe, qe = pickV l (k3 + 1 + 1) 10 := ⟨_, rfl⟩; have Hqe : Hid (qe = pickV l (k3 + 1 + 1) 10) := hqe; clear hqe; clear hd_ hg_)
                    | (go_at_call 23; refine (HDw16.out.pickG 10 hL (by omega) (by decide) (by decide)).mono ?_; rintro e w17 ⟨rfl, hd_, hg_⟩; rw [← Hqe.out]; have HDw17 : Hid (Dr w w17 g v l (k3 + 1 + 1 + 1) [(w.heap.size, #[.int .i64 0, .int .i64 0, .int .i64 0, .int .i64 0, .int .i64 0, .int .i64 0, .int .i64 0, .int .i64 0, .int .i64 0, .slice none 0 0], 27), (w3.heap.size, #[.int .i64 ki, .int .i64 (1 + (p7 : Int)), .int .i64 td, .int .i64 tm, .int .i64 li1, .int .i64 lt, .int .i64 (q40 : Int), .int .i64 0, .int .i64 0, .slice none 0 0], 27)]) := hd_; have cew17 := (hd_.blk 1 rfl).cell; have few17 := (hd_.blk 1 rfl).free; clear hd_ hg_))
                  go_cut [4] (fun s4 wx => s4 = .int .i64 (n0 : Int) ∧ Dr w wx g v l kN [(w.heap.size, #[.int .i64 0, .int .i64 0, .int .i64 0, .int .i64 0, .int .i64 0, .int .i64 0, .int .i64 0, .int .i64 0, .int .i64 0, .slice none 0 0], 27), (w3.heap.size, #[.int .i64 ki, .int .i64 (1 + (p7 : Int)), .int .i64 td, .int .i64 tm, .int .i64 li1, .int .i64 lt, .int .i64 (q40 : Int), .int .i64 0, .int .i64 0, .slice none 0 0], 27)])
                  case first =>
                    have h := HN0.out
                    unfold mgN0 at h
                    rw [← Hqe.out, ← Hqd.out] at h
                    by_cases c7 : qe = 0
                    · subst c7
                      rw [if_pos rfl] at h
                      obtain ⟨qf, hqf⟩ : ∃ qf, qf = pickV l (k3 + 1 + 1 + 1) 2 := ⟨_, rfl⟩
                      have Hqf : Hid (qf = pickV l (k3 + 1 + 1 + 1) 2) := hqf
                      have bqf := pickV_lt l (k3 + 1 + 1 + 1) 2 (by decide)
                      rw [← hqf] at h bqf
                      clear hqf
                      injection h with e4 e5
                      subst e5
                      go_wp2_with (go_at_call 23; refine (HDw17.out.pickG 2 hL (by omega) (by decide) (by decide)).mono ?_; rintro e w18 ⟨rfl, hd_, hg_⟩; rw [← Hqf.out]; have HDw18 : Hid (Dr w w18 g v l (k3 + 1 + 1 + 1 + 1) [(w.heap.size, #[.int .i64 0, .int .i64 0, .int .i64 0, .int .i64 0, .int .i64 0, .int .i64 0, .int .i64 0, .int .i64 0, .int .i64 0, .slice none 0 0], 27), (w3.heap.size, #[.int .i64 ki, .int .i64 (1 + (p7 : Int)), .int .i64 td, .int .i64 tm, .int .i64 li1, .int .i64 lt, .int .i64 (q40 : Int), .int .i64 0, .int .i64 0, .slice none 0 0], 27)]) := hd_; have cew18 := (hd_.blk 1 rfl).cell; have few18 := (hd_.blk 1 rfl).free; clear hd_ hg_)
                      go_meet
                      exact ⟨by rw [← e4]; congr 1; omega, HDw18.out⟩
                    · rw [if_neg c7] at h
                      have c8 : ((qe : Int) == 0) = false := by rw [beq_eq_false_iff_ne]; omega
                      injection h with e4 e5
                      subst e4 e5
                      go_wp2_with fail
                      go_meet
                      exact ⟨rfl, HDw17.out⟩
                  case rest =>
                    obtain ⟨rfl, hcut⟩ := hcut
                    have HD16 : Hid (Dr w wc g v l kN [(w.heap.size, #[.int .i64 0, .int .i64 0, .int .i64 0, .int .i64 0, .int .i64 0, .int .i64 0, .int .i64 0, .int .i64 0, .int .i64 0, .slice none 0 0], 27), (w3.heap.size, #[.int .i64 ki, .int .i64 (1 + (p7 : Int)), .int .i64 td, .int .i64 tm, .int .i64 li1, .int .i64 lt, .int .i64 (q40 : Int), .int .i64 0, .int .i64 0, .slice none 0 0], 27)]) := hcut
                    have ce16 := (hcut.blk 1 rfl).cell
                    have fe16 := (hcut.blk 1 rfl).free
                    clear hcut
                    obtain ⟨W16, hW16⟩ : ∃ W16, W16 = wc := ⟨_, rfl⟩
                    subst hW16
                    go_upto_if 87 with fail
                    go_cut [4] (fun s4 wx => s4 = .int .i64 (n : Int) ∧ wx = W16)
                    case first =>
                      by_cases c7 : 4096 - li1 < (n0 : Int)
                      · have c8 : decide (4096 - li1 < (n0 : Int)) = true := decide_eq_true c7
                        go_wp2_with fail
                        go_meet
                        exact ⟨by have := Hn2.out; congr 1; omega, rfl⟩
                      · have c8 : decide (4096 - li1 < (n0 : Int)) = false := decide_eq_false c7
                        go_wp2_with fail
                        go_meet
                        exact ⟨by have := Hn2.out; congr 1; omega, rfl⟩
                    case rest =>
                      obtain ⟨rfl, rfl⟩ := hcut
                      have HMX : Hid (∀ u : World, Calls Tryz.prog 49 #[.int .i64 1, .int .i64 lt] u fun e w' => e = .returned (.int .i64 mx) ∧ w' = u) := fun u => by rw [Hmx.out]; exact l1max_any 1 lt u
                      go_wp2_with (first
                        | (go_at_call 49; refine (HMX.out _).mono ?_; rintro e wm ⟨rfl, hwm⟩; subst wm)
                        | (go_at_call 48; refine (HEs.out _ HD16.out.src).mono ?_; rintro e w19 ⟨mv, rfl, ho19, hs19, hg19⟩; have HD19 : Hid (Dr w w19 g v l KD [(w.heap.size, #[.int .i64 0, .int .i64 0, .int .i64 0, .int .i64 0, .int .i64 0, .int .i64 0, .int .i64 0, .int .i64 0, .int .i64 0, .slice none 0 0], 27), (w3.heap.size, #[.int .i64 ki, .int .i64 (1 + (p7 : Int)), .int .i64 td, .int .i64 tm, .int .i64 li1, .int .i64 lt, .int .i64 (q40 : Int), .int .i64 0, .int .i64 0, .slice none 0 0], 27)]) := HD16.out.call hs19 hg19; have HM19 : Hid (OwnE w19 w.heap.size mv D) := ho19.le HD16.out.size; clear ho19 hs19 hg19))
                      subst hDl
                      obtain ⟨ma, mc, hmv⟩ := HM19.out.shape
                      subst hmv
                      clear HEs HD16 ce16 fe16 HN0 Hn2 HMX Hmx HD8 ce8 fe8
                      go_loopw [6] (fun iv wr => ∃ i : Nat, i ≤ D.length ∧ iv = .int .i64 i ∧ OwnE wr w.heap.size (.slice ma D.length mc) ((D.take i).map (clipE tm) ++ D.drop i) ∧ Dr w wr g v l KD [(w.heap.size, #[.int .i64 0, .int .i64 0, .int .i64 0, .int .i64 0, .int .i64 0, .int .i64 0, .int .i64 0, .int .i64 0, .int .i64 0, .slice none 0 0], 27), (w3.heap.size, #[.int .i64 ki, .int .i64 (1 + (p7 : Int)), .int .i64 td, .int .i64 tm, .int .i64 li1, .int .i64 lt, .int .i64 (q40 : Int), .int .i64 0, .int .i64 0, .slice none 0 0], 27)]) (fun i _ => D.length - (intOf i).toNat)
                      case atStart => exact ⟨0, Nat.zero_le _, rfl, by simpa using HM19.out, HD19.out⟩
                      case round =>
                        obtain ⟨i, hi, rfl, hm, hd⟩ := hrel
                        have hM1 : ((D.take i).map (clipE tm) ++ D.drop i).length = D.length := by rw [List.length_append, List.length_map, List.length_take, List.length_drop]; omega
                        have HM7 : Hid (OwnE wr w.heap.size (.slice ma D.length mc) ((D.take i).map (clipE tm) ++ D.drop i)) := hm
                        have HD20 : Hid (Dr w wr g v l KD [(w.heap.size, #[.int .i64 0, .int .i64 0, .int .i64 0, .int .i64 0, .int .i64 0, .int .i64 0, .int .i64 0, .int .i64 0, .int .i64 0, .slice none 0 0], 27), (w3.heap.size, #[.int .i64 ki, .int .i64 (1 + (p7 : Int)), .int .i64 td, .int .i64 tm, .int .i64 li1, .int .i64 lt, .int .i64 (q40 : Int), .int .i64 0, .int .i64 0, .slice none 0 0], 27)]) := hd
                        have ce20 := (hd.blk 1 rfl).cell
                        have fe20 := (hd.blk 1 rfl).free
                        clear hm hd HD19 HM19
                        by_cases hlt : i < D.length
                        · have hlt' : (i : Int) < (D.length : Int) := by omega
                          obtain ⟨q, ha, ⟨d0, d1, d2, d3, d4, d5, d6⟩, fz⟩ := ownAt HM7.out hM1.symm (k := i) (by omega) (by unfold maxLen; omega)
                          have hMi : ((D.take i).map (clipE tm) ++ D.drop i)[i]'(by omega) = D[i] := by
                            rw [List.getElem_append_right (by simp; omega)]
                            simp [List.length_take, Nat.min_eq_left (Nat.le_of_lt hlt)]
                          rw [hMi] at d0
                          clear d1 d2 d3 d4 d5 d6
                          subst ha
                          have HMS : Hid (∀ y, ((D.take i).map (clipE tm) ++ D.drop i).set i y = (D.take i).map (clipE tm) ++ y :: D.drop (i + 1)) := fun y => by
                            rw [List.set_append, if_neg (by simp; omega)]
                            congr 1
                            rw [List.length_map, List.length_take, Nat.min_eq_left (Nat.le_of_lt hlt), Nat.sub_self, List.drop_eq_getElem_cons hlt, List.set_cons_zero]
                          have HMN : Hid ((D.take (i + 1)).map (clipE tm) = (D.take i).map (clipE tm) ++ [clipE tm D[i]]) := (by rw [List.take_succ_eq_append_getElem hlt, List.map_append]; rfl : (D.take (i + 1)).map (clipE tm) = (D.take i).map (clipE tm) ++ [clipE tm D[i]])
                          obtain ⟨y, hy⟩ : ∃ y, y = D[i] := ⟨_, rfl⟩
                          rw [← hy] at d0 HMN
                          have HY : Hid (D.drop i = y :: D.drop (i + 1)) := (by rw [hy]; exact List.drop_eq_getElem_cons hlt : D.drop i = y :: D.drop (i + 1))
                          have HYM : Hid (setTE tm (((D.take i).map (clipE tm) ++ D.drop i)[i]'(by omega)) = setTE tm y) := (by rw [hMi, hy] : setTE tm (((D.take i).map (clipE tm) ++ D.drop i)[i]'(by omega)) = setTE tm y)
                          clear hMi hy
                          go_upto_region 25 with fail
                          go_cut [110] (fun s110 wx => s110 = .bool (decide (tm < y.t)) ∧ ∃ nq, wx = wr.drewN nq)
                          case first =>
                            go_quiet (fail)
                            go_wp2
                            go_meet
                            exact ⟨rfl, _, rfl⟩
                          case rest =>
                            obtain ⟨rfl, nq, rfl⟩ := hcut
                            have HMA : Hid (OwnE (wr.drewN nq) w.heap.size (.slice (some ⟨q, 0, none⟩) D.length mc) ((D.take i).map (clipE tm) ++ D.drop i)) := HM7.out.below ⟨rfl, rfl, rfl, Nat.le_refl _, fun _ _ => rfl⟩
                            have HDA : Hid (Dr w (wr.drewN nq) g v l KD [(w.heap.size, #[.int .i64 0, .int .i64 0, .int .i64 0, .int .i64 0, .int .i64 0, .int .i64 0, .int .i64 0, .int .i64 0, .int .i64 0, .slice none 0 0], 27), (w3.heap.size, #[.int .i64 ki, .int .i64 (1 + (p7 : Int)), .int .i64 td, .int .i64 tm, .int .i64 li1, .int .i64 lt, .int .i64 (q40 : Int), .int .i64 0, .int .i64 0, .slice none 0 0], 27)]) := HD20.out.drewN nq
                            by_cases cT : tm < y.t
                            · have cT' : decide (tm < y.t) = true := by simpa using cT
                              have HCL : Hid (clipE tm y = setTE tm y) := (by unfold clipE; rw [if_pos cT] : clipE tm y = setTE tm y)
                              go_wp2_with fail
                              go_roundw
                              case rel =>
                                have hMM := HMA.out.setT hM1.symm i (by omega) tm
                                rw [HYM.out, HMS.out, ← HCL.out] at hMM
                                have hox := HMA.out.2
                                rw [hM1] at hox
                                have hst := (hox.stored (i * 7) (.int .i64 tm)).2
                                refine ⟨i + 1, by omega, by go_num, by rw [HMN.out, List.append_assoc]; exact hMM, HDA.out.grew (u := .slice (some ⟨q, 0, none⟩) D.length mc) (u' := .slice (some ⟨q, 0, none⟩) D.length mc) ⟨hst, .inl rfl⟩ (fun q' hq' => (HMA.out.2.lt q' hq').1) ?_⟩
                                intro x hx
                                simp only [List.mem_cons, List.not_mem_nil, or_false] at hx
                                rcases hx with rfl | rfl
                                · exact ownsRow.neBlk HMA.out.2 (HDA.out.blk 0 rfl) (by decide)
                                · exact ownsRow.neBlk HMA.out.2 (HDA.out.blk 1 rfl) (by decide)
                              case measure => simp [intOf]; omega
                            · have cT' : decide (tm < y.t) = false := by simpa using cT
                              have HCL : Hid (clipE tm y = y) := (by unfold clipE; rw [if_neg cT] : clipE tm y = y)
                              go_wp2_with fail
                              go_roundw
                              case rel => exact ⟨i + 1, by omega, by go_num, by rw [HMN.out, List.append_assoc, HCL.out]; rw [HY.out] at HMA; exact HMA.out, HDA.out⟩
                              case measure => simp [intOf]; omega
                        · obtain rfl : i = D.length := by omega
                          have hel : EN.length = D.length := by rw [HEN.out, List.length_map]
                          have Hel : Hid (EN.length = D.length) := hel
                          clear hel
                          go_wp2_with fail
                          go_meet
                          refine ⟨ma, mc, ?_, ?_⟩
                          · have hm := HM7.out
                            rw [List.take_length, List.drop_length, List.append_nil, ← HEN.out] at hm
                            rw [Hel.out]
                            exact ownE_blk' hm (HD20.out.blk 1 rfl) (by decide) (set_keep' _ _ _ _)
                          · rw [Hel.out]
                            exact HD20.out.set 1 rfl 9 (by simp) (.slice ma D.length mc) rfl
                · rw [if_neg c5] at h
                  have c6 : (ki == 5) = false := by rw [beq_eq_false_iff_ne]; exact c5
                  injection h with e1 e2
                  injection e2 with e2 e3
                  subst e1 e2 e3
                  go_wp2_with fail
                  go_meet
                  exact ⟨none, 0, OwnE.nil _ _, HD8.out⟩
            case rest =>
              obtain ⟨ea, ec, hoe, hcut⟩ := hcut
              obtain ⟨en, hen⟩ : ∃ en, en = EN.length := ⟨_, rfl⟩
              rw [← hen] at hoe hcut
              have Hen : Hid (en = EN.length) := hen
              have HOE : Hid (OwnE wc w.heap.size (.slice ea en ec) EN) := hoe
              have HD9 : Hid (Dr w wc g v l k4 [(w.heap.size, #[.int .i64 0, .int .i64 0, .int .i64 0, .int .i64 0, .int .i64 0, .int .i64 0, .int .i64 0, .int .i64 0, .int .i64 0, .slice none 0 0], 27), (w3.heap.size, #[.int .i64 ki, .int .i64 (1 + (p7 : Int)), .int .i64 td, .int .i64 tm, .int .i64 li1, .int .i64 lt, .int .i64 cm, .int .i64 0, .int .i64 0, .slice ea en ec], 27)]) := hcut
              have hk4 := mgB_k l k3 ki tm li1 lt
              rw [HB.out] at hk4
              dsimp only at hk4
              clear hcut hoe hen HB HD8 ce8 fe8
              have ce9 := (HD9.out.blk 1 rfl).cell
              have fe9 := (HD9.out.blk 1 rfl).free
              obtain ⟨kc, hkc⟩ : ∃ kc : Bool, kc = decide (ki = 2 ∨ ki = 4 ∨ ki = 6) := ⟨_, rfl⟩
              have Hkc : Hid (kc = decide (ki = 2 ∨ ki = 4 ∨ ki = 6)) := hkc
              clear hkc
              go_upto_region 28 with fail
              go_cut [131] (fun s131 wx => s131 = .bool kc ∧ wx = wc)
              case first =>
                as_aux_lemma =>
                  rcases (show ki = 1 ∨ ki = 2 ∨ ki = 3 ∨ ki = 4 ∨ ki = 5 ∨ ki = 6 by omega) with q | q | q | q | q | q
                  · have e2 : (ki == 2) = false := by rw [q]; rfl
                    have e4 : (ki == 4) = false := by rw [q]; rfl
                    have e6 : (ki == 6) = false := by rw [q]; rfl
                    have hv_ : kc = false := by rw [Hkc.out]; simp [q]
                    clear q
                    go_wp2_with fail
                    go_meet
                    exact ⟨by rw [hv_], rfl⟩
                  · have e2 : (ki == 2) = true := by rw [q]; rfl
                    have e4 : (ki == 4) = false := by rw [q]; rfl
                    have e6 : (ki == 6) = false := by rw [q]; rfl
                    have hv_ : kc = true := by rw [Hkc.out]; simp [q]
                    clear q
                    go_wp2_with fail
                    go_meet
                    exact ⟨by rw [hv_], rfl⟩
                  · have e2 : (ki == 2) = false := by rw [q]; rfl
                    have e4 : (ki == 4) = false := by rw [q]; rfl
                    have e6 : (ki == 6) = false := by rw [q]; rfl
                    have hv_ : kc = false := by rw [Hkc.out]; simp [q]
                    clear q
                    go_wp2_with fail
                    go_meet
                    exact ⟨by rw [hv_], rfl⟩
                  · have e2 : (ki == 2) = false := by rw [q]; rfl
                    have e4 : (ki == 4) = true := by rw [q]; rfl
                    have e6 : (ki == 6) = false := by rw [q]; rfl
                    have hv_ : kc = true := by rw [Hkc.out]; simp [q]
                    clear q
                    go_wp2_with fail
                    go_meet
                    exact ⟨by rw [hv_], rfl⟩
                  · have e2 : (ki == 2) = false := by rw [q]; rfl
                    have e4 : (ki == 4) = false := by rw [q]; rfl
                    have e6 : (ki == 6) = false := by rw [q]; rfl
                    have hv_ : kc = false := by rw [Hkc.out]; simp [q]
                    clear q
                    go_wp2_with fail
                    go_meet
                    exact ⟨by rw [hv_], rfl⟩
                  · have e2 : (ki == 2) = false := by rw [q]; rfl
                    have e4 : (ki == 4) = false := by rw [q]; rfl
                    have e6 : (ki == 6) = true := by rw [q]; rfl
                    have hv_ : kc = true := by rw [Hkc.out]; simp [q]
                    clear q
                    go_wp2_with fail
                    go_meet
                    exact ⟨by rw [hv_], rfl⟩
              case rest =>
                obtain ⟨rfl, rfl⟩ := hcut
                obtain ⟨W9, hW9⟩ : ∃ W9, W9 = wc := ⟨_, rfl⟩
                subst hW9
                go_upto_if 131 with fail
                go_cut [131] (fun _ wx => OwnE wx w.heap.size (.slice ea en ec) EN ∧ Dr w wx g v l k5 [(w.heap.size, #[.int .i64 0, .int .i64 0, .int .i64 0, .int .i64 0, .int .i64 0, .int .i64 0, .int .i64 0, .int .i64 0, .int .i64 0, .slice none 0 0], 27), (w3.heap.size, #[.int .i64 ki, .int .i64 (1 + (p7 : Int)), .int .i64 td, .int .i64 tm, .int .i64 li1, .int .i64 lt, .int .i64 cm, .int .i64 ok, .int .i64 0, .slice ea en ec], 27)])
                case first =>
                  as_aux_lemma =>
                    have h := HC.out
                    unfold mgC at h
                    cases hkv : kc
                    · have hkn : ¬ (ki = 2 ∨ ki = 4 ∨ ki = 6) := of_decide_eq_false (Hkc.out.symm.trans hkv)
                      rw [if_neg hkn] at h
                      injection h with e1 e2
                      subst e1 e2
                      clear hkn
                      go_wp2_with fail
                      go_meet
                      exact ⟨HOE.out, HD9.out⟩
                    · have hkn : (ki = 2 ∨ ki = 4 ∨ ki = 6) := of_decide_eq_true (Hkc.out.symm.trans hkv)
                      rw [if_pos hkn] at h
                      clear hkn
                      obtain ⟨po, hpo⟩ : ∃ po, po = pickV l k4 2 := ⟨_, rfl⟩
                      have Hpo : Hid (po = pickV l k4 2) := hpo
                      rw [← hpo] at h
                      clear hpo
                      injection h with e1 e2
                      subst e1 e2
                      go_wp2_with (go_at_call 23; refine (HD9.out.pickG 2 hL (by omega) (by decide) (by decide)).mono ?_; rintro e w12 ⟨rfl, hd_, hg_⟩; rw [← Hpo.out]; have HDw12 : Hid (Dr w w12 g v l (k4 + 1) [(w.heap.size, #[.int .i64 0, .int .i64 0, .int .i64 0, .int .i64 0, .int .i64 0, .int .i64 0, .int .i64 0, .int .i64 0, .int .i64 0, .slice none 0 0], 27), (w3.heap.size, #[.int .i64 ki, .int .i64 (1 + (p7 : Int)), .int .i64 td, .int .i64 tm, .int .i64 li1, .int .i64 lt, .int .i64 cm, .int .i64 0, .int .i64 0, .slice ea en ec], 27)]) := hd_; have HOo : Hid (OwnE w12 w.heap.size (.slice ea en ec) EN) := HOE.out.grown hg_ hg0; have cew12 := (hd_.blk 1 rfl).cell; have few12 := (hd_.blk 1 rfl).free; clear hd_ hg_)
                      go_meet
                      exact ⟨ownE_blk' HOo.out (HDw12.out.blk 1 rfl) (by decide) (set_keep' _ _ _ _), HDw12.out.set 1 rfl 7 (by simp) (.int .i64 (po : Int)) rfl⟩
                case rest =>
                  obtain ⟨hoe, hcut⟩ := hcut
                  have HO10 : Hid (OwnE wc w.heap.size (.slice ea en ec) EN) := hoe
                  have HD10 : Hid (Dr w wc g v l k5 [(w.heap.size, #[.int .i64 0, .int .i64 0, .int .i64 0, .int .i64 0, .int .i64 0, .int .i64 0, .int .i64 0, .int .i64 0, .int .i64 0, .slice none 0 0], 27), (w3.heap.size, #[.int .i64 ki, .int .i64 (1 + (p7 : Int)), .int .i64 td, .int .i64 tm, .int .i64 li1, .int .i64 lt, .int .i64 cm, .int .i64 ok, .int .i64 0, .slice ea en ec], 27)]) := hcut
                  have hk5 : k5 ≤ k4 + 1 ∧ 0 ≤ ok ∧ ok ≤ 1 := by
                    have h := HC.out
                    have h1 := pickV_lt l k4 2 (by omega)
                    unfold mgC at h
                    split at h <;> (injection h with e1 e2; omega)
                  obtain ⟨hk5a, hok0, hok1⟩ := hk5
                  clear hcut hoe HC HD9 HOE ce9 fe9 Hkc
                  have ce10 := (HD10.out.blk 1 rfl).cell
                  have fe10 := (HD10.out.blk 1 rfl).free
                  go_upto_if 137 with fail
                  go_cut [137] (fun _ wx => OwnE wx w.heap.size (.slice ea en ec) EN ∧ Dr w wx g v l k6 [(w.heap.size, #[.int .i64 0, .int .i64 0, .int .i64 0, .int .i64 0, .int .i64 0, .int .i64 0, .int .i64 0, .int .i64 0, .int .i64 0, .slice none 0 0], 27), (w3.heap.size, #[.int .i64 ki, .int .i64 (1 + (p7 : Int)), .int .i64 td, .int .i64 tm, .int .i64 li, .int .i64 lt, .int .i64 cm, .int .i64 ok, .int .i64 hi, .slice ea en ec], 27)])
                  case first =>
                    as_aux_lemma =>
                      have h := HD.out
                      unfold mgD at h
                      by_cases c6 : ki = 6
                      · rw [if_pos c6] at h
                        have c7 : (ki == 6) = true := by rw [c6]; rfl
                        clear c6
                        obtain ⟨pa, hpa⟩ : ∃ pa, pa = pickV l k5 40 := ⟨_, rfl⟩
                        have Hpa : Hid (pa = pickV l k5 40) := hpa
                        obtain ⟨pb, hpb⟩ : ∃ pb, pb = pickV l (k5 + 1) 40 := ⟨_, rfl⟩
                        have Hpb : Hid (pb = pickV l (k5 + 1) 40) := hpb
                        rw [← hpa, ← hpb] at h
                        clear hpa hpb
                        have A7 : True := trivial
                        by_cases c8 : ok = 0
                        · rw [if_pos c8, if_pos c8] at h
                          have c9 : (ok == 0) = true := by rw [c8]; rfl
                          clear c8
                          injection h with e1 e2
                          injection e2 with e2 e3
                          subst e1 e2 e3
                          go_wp2_with (first
                            | (go_at_call 23; clear A7; refine (HD10.out.pickG 40 hL (by omega) (by decide) (by decide)).mono ?_; rintro e w13 ⟨rfl, hd_, hg_⟩; rw [← Hpa.out]; have HDw13 : Hid (Dr w w13 g v l (k5 + 1) [(w.heap.size, #[.int .i64 0, .int .i64 0, .int .i64 0, .int .i64 0, .int .i64 0, .int .i64 0, .int .i64 0, .int .i64 0, .int .i64 0, .slice none 0 0], 27), (w3.heap.size, #[.int .i64 ki, .int .i64 (1 + (p7 : Int)), .int .i64 td, .int .i64 tm, .int .i64 li1, .int .i64 lt, .int .i64 cm, .int .i64 ok, .int .i64 0, .slice ea en ec], 27)]) := hd_; have HOa : Hid (OwnE w13 w.heap.size (.slice ea en ec) EN) := HO10.out.grown hg_ hg0; have cew13 := (hd_.blk 1 rfl).cell; have few13 := (hd_.blk 1 rfl).free; have HDs13 : Hid (Dr w (w13.setCell ⟨w3.heap.size, 4, none⟩ (.int .i64 (pa : Int))) g v l (k5 + 1) [(w.heap.size, #[.int .i64 0, .int .i64 0, .int .i64 0, .int .i64 0, .int .i64 0, .int .i64 0, .int .i64 0, .int .i64 0, .int .i64 0, .slice none 0 0], 27), (w3.heap.size, #[.int .i64 ki, .int .i64 (1 + (p7 : Int)), .int .i64 td, .int .i64 tm, .int .i64 (pa : Int), .int .i64 lt, .int .i64 cm, .int .i64 ok, .int .i64 0, .slice ea en ec], 27)]) := HDw13.out.set 1 rfl 4 (by simp) (.int .i64 (pa : Int)) rfl; have HOs13 : Hid (OwnE (w13.setCell ⟨w3.heap.size, 4, none⟩ (.int .i64 (pa : Int))) w.heap.size (.slice ea en ec) EN) := ownE_blk' HOa.out (HDw13.out.blk 1 rfl) (by decide) (set_keep' _ _ _ _); clear hd_ hg_)
                            | (go_at_call 23; refine (HDs13.out.pickG 40 hL (by omega) (by decide) (by decide)).mono ?_; rintro e w14 ⟨rfl, hd_, hg_⟩; rw [← Hpb.out]; have HDw14 : Hid (Dr w w14 g v l (k5 + 1 + 1) [(w.heap.size, #[.int .i64 0, .int .i64 0, .int .i64 0, .int .i64 0, .int .i64 0, .int .i64 0, .int .i64 0, .int .i64 0, .int .i64 0, .slice none 0 0], 27), (w3.heap.size, #[.int .i64 ki, .int .i64 (1 + (p7 : Int)), .int .i64 td, .int .i64 tm, .int .i64 (pa : Int), .int .i64 lt, .int .i64 cm, .int .i64 ok, .int .i64 0, .slice ea en ec], 27)]) := hd_; have HOb : Hid (OwnE w14 w.heap.size (.slice ea en ec) EN) := HOs13.out.grown hg_ hg0; have cew14 := (hd_.blk 1 rfl).cell; have few14 := (hd_.blk 1 rfl).free; clear hd_ hg_))
                          go_meet
                          exact ⟨ownE_blk' HOb.out (HDw14.out.blk 1 rfl) (by decide) (set_keep' _ _ _ _), HDw14.out.set 1 rfl 8 (by simp) (.int .i64 (pb : Int)) rfl⟩
                        · rw [if_neg c8, if_neg c8] at h
                          have c9 : (ok == 0) = false := by rw [beq_eq_false_iff_ne]; exact c8
                          injection h with e1 e2
                          injection e2 with e2 e3
                          subst e1 e2 e3
                          go_wp2_with (first
                            | (go_at_call 23; clear A7; refine (HD10.out.pickG 40 hL (by omega) (by decide) (by decide)).mono ?_; rintro e w13 ⟨rfl, hd_, hg_⟩; rw [← Hpa.out]; have HDw13 : Hid (Dr w w13 g v l (k5 + 1) [(w.heap.size, #[.int .i64 0, .int .i64 0, .int .i64 0, .int .i64 0, .int .i64 0, .int .i64 0, .int .i64 0, .int .i64 0, .int .i64 0, .slice none 0 0], 27), (w3.heap.size, #[.int .i64 ki, .int .i64 (1 + (p7 : Int)), .int .i64 td, .int .i64 tm, .int .i64 li1, .int .i64 lt, .int .i64 cm, .int .i64 ok, .int .i64 0, .slice ea en ec], 27)]) := hd_; have HOa : Hid (OwnE w13 w.heap.size (.slice ea en ec) EN) := HO10.out.grown hg_ hg0; have cew13 := (hd_.blk 1 rfl).cell; have few13 := (hd_.blk 1 rfl).free; have HDs13 : Hid (Dr w (w13.setCell ⟨w3.heap.size, 4, none⟩ (.int .i64 (pa : Int))) g v l (k5 + 1) [(w.heap.size, #[.int .i64 0, .int .i64 0, .int .i64 0, .int .i64 0, .int .i64 0, .int .i64 0, .int .i64 0, .int .i64 0, .int .i64 0, .slice none 0 0], 27), (w3.heap.size, #[.int .i64 ki, .int .i64 (1 + (p7 : Int)), .int .i64 td, .int .i64 tm, .int .i64 (pa : Int), .int .i64 lt, .int .i64 cm, .int .i64 ok, .int .i64 0, .slice ea en ec], 27)]) := HDw13.out.set 1 rfl 4 (by simp) (.int .i64 (pa : Int)) rfl; have HOs13 : Hid (OwnE (w13.setCell ⟨w3.heap.size, 4, none⟩ (.int .i64 (pa : Int))) w.heap.size (.slice ea en ec) EN) := ownE_blk' HOa.out (HDw13.out.blk 1 rfl) (by decide) (set_keep' _ _ _ _); clear hd_ hg_))
                          go_meet
                          exact ⟨ownE_blk' HOa.out (HDw13.out.blk 1 rfl) (by decide) (set_keep' _ _ _ _), HDs13.out⟩
                      · rw [if_neg c6] at h
                        have c7 : (ki == 6) = false := by rw [beq_eq_false_iff_ne]; exact c6
                        injection h with e1 e2
                        injection e2 with e2 e3
                        subst e1 e2 e3
                        go_wp2_with fail
                        go_meet
                        exact ⟨HO10.out, HD10.out⟩
                  case rest =>
                    obtain ⟨hoe, hcut⟩ := hcut
                    have HO11 : Hid (OwnE wc w.heap.size (.slice ea en ec) EN) := hoe
                    have HD11 : Hid (Dr w wc g v l k6 [(w.heap.size, #[.int .i64 0, .int .i64 0, .int .i64 0, .int .i64 0, .int .i64 0, .int .i64 0, .int .i64 0, .int .i64 0, .int .i64 0, .slice none 0 0], 27), (w3.heap.size, #[.int .i64 ki, .int .i64 (1 + (p7 : Int)), .int .i64 td, .int .i64 tm, .int .i64 li, .int .i64 lt, .int .i64 cm, .int .i64 ok, .int .i64 hi, .slice ea en ec], 27)]) := hcut
                    clear hcut hoe HD HD10 HO10 ce10 fe10
                    go_wp2_with (first
                      | (have hBA := HD11; refine gate_ld 27 (.tmp 3) rfl ?_; clear hBA; refine wpl_load_blk rfl 27 (.tmp 3) rfl (w3.heap.size) rfl (HD11.out.blk 1 rfl) Tryz.underlying27 rfl infoMsgD rfl ?_)
                      | (have hBA := HD11; refine gate_st 27 (.tmp 2) _ rfl ?_; clear hBA; refine wpl_store_blk rfl 27 (.tmp 2) _ rfl (w.heap.size) rfl rfl (HD11.out.blk 0 rfl) infoMsgD rfl rfl (by simp [Value.oneCell']) ?_))
                    have hR := HD11.out.row 0 rfl #[.int .i64 ki, .int .i64 (1 + (p7 : Int)), .int .i64 td, .int .i64 tm, .int .i64 li, .int .i64 lt, .int .i64 cm, .int .i64 ok, .int .i64 hi, .slice ea en ec] (noU8_of rfl)
                    have hO := HO11.out.block (w' := wc.setRow w.heap.size #[.int .i64 ki, .int .i64 (1 + (p7 : Int)), .int .i64 td, .int .i64 tm, .int .i64 li, .int .i64 lt, .int .i64 cm, .int .i64 ok, .int .i64 hi, .slice ea en ec]) (fun q hq => setRow_other wc w.heap.size q #[.int .i64 ki, .int .i64 (1 + (p7 : Int)), .int .i64 td, .int .i64 tm, .int .i64 li, .int .i64 lt, .int .i64 cm, .int .i64 ok, .int .i64 hi, .slice ea en ec] (fun e => ownsRow.neBlk HO11.out.2 (HD11.out.blk 0 rfl) (by decide) (by rw [hq, e])))
                    exact bodyPost_ret (results_blk Tryz.results22 rfl (hR.blk 0 rfl) Tryz.underlying27 rfl infoMsgD rfl) rfl ⟨ea, ec, by rw [← Hen.out], by rw [← Hen.out]; exact hO, hR.src, hR.grown⟩
end Go.Proofs.YtafmjckpbcijoaaGreatDoor

/-
  spec.l1badReply.
-/
namespace Go.Proofs.YtafmjckpbcijoaaGreatDoor
open Go.RowKit
set_option linter.unusedVariables false
set_option linter.unusedSimpArgs false

structure RepD where
  cl : Int
  sq : Int
  st : Int
  cd : Int
  vl : ByteArray
  ld : Int
/-- a reply with one field spoilt, and where the draws stand -/
def badY (l : List Int) (k : Nat) (c : RepD) : RepD × Nat :=
  if pickV l k 6 = 0 then ({ c with cl := ((pickV l (k + 1) 12 : Nat) : Int) - 2 }, k + 1 + 1)
  else if pickV l k 6 = 1 then ({ c with sq := ((pickV l (k + 1 + 1) 2 : Nat) : Int) * 1073741825 }, k + 1 + 1 + 1)
  else if pickV l k 6 = 2 then ({ c with st := ((pickV l (k + 1 + 1) 5 : Nat) : Int) - 1 }, k + 1 + 1 + 1)
  else if pickV l k 6 = 3 then ({ c with cd := ((pickV l (k + 1) 12 : Nat) : Int) - 2 }, k + 1 + 1)
  else if pickV l k 6 = 4 then ({ c with vl := longV (64 + pickV l (k + 1 + 1) 2) 118 }, k + 1 + 1 + 1)
  else ({ c with ld := ((pickV l (k + 1) 12 : Nat) : Int) - 2 }, k + 1 + 1)
theorem infoRepB : (Tryz.prog.info? 38).map (·.size) = some 6 := by kernel_rfl
set_option maxHeartbeats 16000000 in
set_option maxRecDepth 100000 in
theorem l1badReply_any (g : Nat) (w : World) (v : Value) (l : List Int) (k : Nat) (c : RepD) (hL : l.length ≤ 1048576) (hk : k ≤ 500000000) (h : Src w g v l k) :
    Calls Tryz.prog 33 #[.pointer (some ⟨g, 0, none⟩), .agg #[.int .i64 c.cl, .int .i64 c.sq, .int .i64 c.st, .int .i64 c.cd, .string c.vl, .int .i64 c.ld]] w fun r w' => r = .returned (.agg #[.int .i64 (badY l k c).1.cl, .int .i64 (badY l k c).1.sq, .int .i64 (badY l k c).1.st, .int .i64 (badY l k c).1.cd, .string (badY l k c).1.vl, .int .i64 (badY l k c).1.ld]) ∧ Src w' g v l (badY l k c).2 ∧ w.grownBy w' (some g) := by
  have hg0 : g < w.heap.size := h.lt
  have HD0 : Hid (Dr w ((w.alloc (.cells #[.int .i64 c.cl, .int .i64 c.sq, .int .i64 c.st, .int .i64 c.cd, .string c.vl, .int .i64 c.ld] 38)).alloc (.cells #[.int .i64 0, .int .i64 0, .int .i64 0, .int .i64 0, .string ⟨#[]⟩, .int .i64 0] 38)) g v l k [(w.heap.size, #[.int .i64 c.cl, .int .i64 c.sq, .int .i64 c.st, .int .i64 c.cd, .string c.vl, .int .i64 c.ld], 38), (w.heap.size + 1, #[.int .i64 0, .int .i64 0, .int .i64 0, .int .i64 0, .string ⟨#[]⟩, .int .i64 0], 38)]) := by
    have hX := ((Dr.start h).new #[.int .i64 c.cl, .int .i64 c.sq, .int .i64 c.st, .int .i64 c.cd, .string c.vl, .int .i64 c.ld] 38 (noU8_of rfl)).new #[.int .i64 0, .int .i64 0, .int .i64 0, .int .i64 0, .string ⟨#[]⟩, .int .i64 0] 38 (noU8_of rfl)
    have hY : Dr w ((w.alloc (.cells #[.int .i64 c.cl, .int .i64 c.sq, .int .i64 c.st, .int .i64 c.cd, .string c.vl, .int .i64 c.ld] 38)).alloc (.cells #[.int .i64 0, .int .i64 0, .int .i64 0, .int .i64 0, .string ⟨#[]⟩, .int .i64 0] 38)) g v l k [(w.heap.size, #[.int .i64 c.cl, .int .i64 c.sq, .int .i64 c.st, .int .i64 c.cd, .string c.vl, .int .i64 c.ld], 38), (w.heap.size + 1, #[.int .i64 0, .int .i64 0, .int .i64 0, .int .i64 0, .string ⟨#[]⟩, .int .i64 0], 38)] := by simpa using hX
    exact hY
  clear h
  have hB : badY l k c = badY l k c := rfl
  conv at hB => rhs; unfold badY
  have HB : Hid (badY l k c = _) := hB
  generalize badY l k c = R at *
  clear hB
  have b6 := pickV_lt l k 6 (by decide)
  obtain ⟨p, hp⟩ : ∃ p, p = pickV l k 6 := ⟨_, rfl⟩
  rw [← hp] at b6 HB
  have Hp : Hid (p = pickV l k 6) := hp
  clear hp
  have b12 := pickV_lt l (k + 1) 12 (by decide)
  obtain ⟨q, hq⟩ : ∃ q, q = pickV l (k + 1) 12 := ⟨_, rfl⟩
  rw [← hq] at b12 HB
  have Hq : Hid (q = pickV l (k + 1) 12) := hq
  clear hq
  have A1 : True := trivial
  have A2 : True := trivial
  rcases (show p = 0 ∨ p = 1 ∨ p = 2 ∨ p = 3 ∨ p = 4 ∨ p = 5 by omega) with c0 | c0 | c0 | c0 | c0 | c0
  · subst c0
    rw [if_pos rfl] at HB
    go_enter Tryz.func33, Tryz.ntmps33
    go_wp2_with (first
      | (go_at_call 23; clear A1; refine (HD0.out.pick1 6 hL (by omega) (by decide) (by decide)).mono ?_; rintro e w1 ⟨rfl, hd_⟩; rw [← Hp.out]; have HDw1 : Hid (Dr w w1 g v l (k + 1) [(w.heap.size, #[.int .i64 c.cl, .int .i64 c.sq, .int .i64 c.st, .int .i64 c.cd, .string c.vl, .int .i64 c.ld], 38), (w.heap.size + 1, #[.int .i64 0, .int .i64 0, .int .i64 0, .int .i64 0, .string ⟨#[]⟩, .int .i64 0], 38)]) := hd_; have cew1 := (hd_.blk 0 rfl).cell; have few1 := (hd_.blk 0 rfl).free; clear hd_)
      | (go_at_call 23; clear A2; refine (HDw1.out.pick1 12 hL (by omega) (by decide) (by decide)).mono ?_; rintro e w2 ⟨rfl, hd_⟩; rw [← Hq.out]; have HDw2 : Hid (Dr w w2 g v l (k + 1 + 1) [(w.heap.size, #[.int .i64 c.cl, .int .i64 c.sq, .int .i64 c.st, .int .i64 c.cd, .string c.vl, .int .i64 c.ld], 38), (w.heap.size + 1, #[.int .i64 0, .int .i64 0, .int .i64 0, .int .i64 0, .string ⟨#[]⟩, .int .i64 0], 38)]) := hd_; have cew2 := (hd_.blk 0 rfl).cell; have few2 := (hd_.blk 0 rfl).free; have HDx : Hid (Dr w (w2.setCell ⟨w.heap.size, 0, none⟩ (.int .i64 ((q : Int) - 2))) g v l (k + 1 + 1) [(w.heap.size, #[.int .i64 ((q : Int) - 2), .int .i64 c.sq, .int .i64 c.st, .int .i64 c.cd, .string c.vl, .int .i64 c.ld], 38), (w.heap.size + 1, #[.int .i64 0, .int .i64 0, .int .i64 0, .int .i64 0, .string ⟨#[]⟩, .int .i64 0], 38)]) := hd_.set 0 rfl 0 (by simp) (.int .i64 ((q : Int) - 2)) rfl; clear hd_)
      | (have hBA := HDx; refine gate_ld 38 (.tmp 3) rfl ?_; clear hBA; refine wpl_load_blk rfl 38 (.tmp 3) rfl (w.heap.size) rfl (HDx.out.blk 0 rfl) Tryz.underlying38 rfl infoRepB rfl ?_)
      | (have hBA := HDx; refine gate_st 38 (.tmp 4) _ rfl ?_; clear hBA; refine wpl_store_blk rfl 38 (.tmp 4) _ rfl (w.heap.size + 1) rfl rfl (HDx.out.blk 1 rfl) infoRepB rfl rfl (by simp [Value.oneCell']) ?_))
    have hR := HDx.out.row 1 rfl #[.int .i64 ((q : Int) - 2), .int .i64 c.sq, .int .i64 c.st, .int .i64 c.cd, .string c.vl, .int .i64 c.ld] (noU8_of rfl)
    rw [HB.out]
    exact bodyPost_ret (results_blk Tryz.results33 rfl (hR.blk 1 rfl) Tryz.underlying38 rfl infoRepB rfl) rfl ⟨rfl, hR.src, hR.grown⟩
  · subst c0
    rw [if_neg (by decide), if_pos rfl] at HB
    have br := pickV_lt l (k + 1 + 1) 2 (by decide)
    obtain ⟨r, hr⟩ : ∃ r, r = pickV l (k + 1 + 1) 2 := ⟨_, rfl⟩
    have Hr : Hid (r = pickV l (k + 1 + 1) 2) := hr
    rw [← hr] at br HB
    clear hr
    have hw : IntKind.i64.wrap ((r : Int) * 1073741825) = (r : Int) * 1073741825 := (by rw [IntKind.wrap_i64]; omega)
    go_enter Tryz.func33, Tryz.ntmps33
    go_wp2_with (first
      | (go_at_call 23; clear A1; refine (HD0.out.pick1 6 hL (by omega) (by decide) (by decide)).mono ?_; rintro e w1 ⟨rfl, hd_⟩; rw [← Hp.out]; have HDw1 : Hid (Dr w w1 g v l (k + 1) [(w.heap.size, #[.int .i64 c.cl, .int .i64 c.sq, .int .i64 c.st, .int .i64 c.cd, .string c.vl, .int .i64 c.ld], 38), (w.heap.size + 1, #[.int .i64 0, .int .i64 0, .int .i64 0, .int .i64 0, .string ⟨#[]⟩, .int .i64 0], 38)]) := hd_; have cew1 := (hd_.blk 0 rfl).cell; have few1 := (hd_.blk 0 rfl).free; clear hd_)
      | (go_at_call 23; clear A2; refine (HDw1.out.pick1 12 hL (by omega) (by decide) (by decide)).mono ?_; rintro e w2 ⟨rfl, hd_⟩; rw [← Hq.out]; have HDw2 : Hid (Dr w w2 g v l (k + 1 + 1) [(w.heap.size, #[.int .i64 c.cl, .int .i64 c.sq, .int .i64 c.st, .int .i64 c.cd, .string c.vl, .int .i64 c.ld], 38), (w.heap.size + 1, #[.int .i64 0, .int .i64 0, .int .i64 0, .int .i64 0, .string ⟨#[]⟩, .int .i64 0], 38)]) := hd_; have cew2 := (hd_.blk 0 rfl).cell; have few2 := (hd_.blk 0 rfl).free; clear hd_)
      | (go_at_call 23; refine (HDw2.out.pick1 2 hL (by omega) (by decide) (by decide)).mono ?_; rintro e w3 ⟨rfl, hd_⟩; rw [← Hr.out]; have HDw3 : Hid (Dr w w3 g v l (k + 1 + 1 + 1) [(w.heap.size, #[.int .i64 c.cl, .int .i64 c.sq, .int .i64 c.st, .int .i64 c.cd, .string c.vl, .int .i64 c.ld], 38), (w.heap.size + 1, #[.int .i64 0, .int .i64 0, .int .i64 0, .int .i64 0, .string ⟨#[]⟩, .int .i64 0], 38)]) := hd_; have cew3 := (hd_.blk 0 rfl).cell; have few3 := (hd_.blk 0 rfl).free; have HDx : Hid (Dr w (w3.setCell ⟨w.heap.size, 1, none⟩ (.int .i64 ((r : Int) * 1073741825))) g v l (k + 1 + 1 + 1) [(w.heap.size, #[.int .i64 c.cl, .int .i64 ((r : Int) * 1073741825), .int .i64 c.st, .int .i64 c.cd, .string c.vl, .int .i64 c.ld], 38), (w.heap.size + 1, #[.int .i64 0, .int .i64 0, .int .i64 0, .int .i64 0, .string ⟨#[]⟩, .int .i64 0], 38)]) := hd_.set 0 rfl 1 (by simp) (.int .i64 ((r : Int) * 1073741825)) rfl; clear hd_)
      | (have hBA := HDx; refine gate_ld 38 (.tmp 3) rfl ?_; clear hBA; refine wpl_load_blk rfl 38 (.tmp 3) rfl (w.heap.size) rfl (HDx.out.blk 0 rfl) Tryz.underlying38 rfl infoRepB rfl ?_)
      | (have hBA := HDx; refine gate_st 38 (.tmp 4) _ rfl ?_; clear hBA; refine wpl_store_blk rfl 38 (.tmp 4) _ rfl (w.heap.size + 1) rfl rfl (HDx.out.blk 1 rfl) infoRepB rfl rfl (by simp [Value.oneCell']) ?_))
    have hR := HDx.out.row 1 rfl #[.int .i64 c.cl, .int .i64 ((r : Int) * 1073741825), .int .i64 c.st, .int .i64 c.cd, .string c.vl, .int .i64 c.ld] (noU8_of rfl)
    rw [HB.out]
    exact bodyPost_ret (results_blk Tryz.results33 rfl (hR.blk 1 rfl) Tryz.underlying38 rfl infoRepB rfl) rfl ⟨rfl, hR.src, hR.grown⟩
  · subst c0
    rw [if_neg (by decide), if_neg (by decide), if_pos rfl] at HB
    have br := pickV_lt l (k + 1 + 1) 5 (by decide)
    obtain ⟨r, hr⟩ : ∃ r, r = pickV l (k + 1 + 1) 5 := ⟨_, rfl⟩
    have Hr : Hid (r = pickV l (k + 1 + 1) 5) := hr
    rw [← hr] at br HB
    clear hr
    have hw : IntKind.i64.wrap ((r : Int) - 1) = (r : Int) - 1 := (by rw [IntKind.wrap_i64]; omega)
    go_enter Tryz.func33, Tryz.ntmps33
    go_wp2_with (first
      | (go_at_call 23; clear A1; refine (HD0.out.pick1 6 hL (by omega) (by decide) (by decide)).mono ?_; rintro e w1 ⟨rfl, hd_⟩; rw [← Hp.out]; have HDw1 : Hid (Dr w w1 g v l (k + 1) [(w.heap.size, #[.int .i64 c.cl, .int .i64 c.sq, .int .i64 c.st, .int .i64 c.cd, .string c.vl, .int .i64 c.ld], 38), (w.heap.size + 1, #[.int .i64 0, .int .i64 0, .int .i64 0, .int .i64 0, .string ⟨#[]⟩, .int .i64 0], 38)]) := hd_; have cew1 := (hd_.blk 0 rfl).cell; have few1 := (hd_.blk 0 rfl).free; clear hd_)
      | (go_at_call 23; clear A2; refine (HDw1.out.pick1 12 hL (by omega) (by decide) (by decide)).mono ?_; rintro e w2 ⟨rfl, hd_⟩; rw [← Hq.out]; have HDw2 : Hid (Dr w w2 g v l (k + 1 + 1) [(w.heap.size, #[.int .i64 c.cl, .int .i64 c.sq, .int .i64 c.st, .int .i64 c.cd, .string c.vl, .int .i64 c.ld], 38), (w.heap.size + 1, #[.int .i64 0, .int .i64 0, .int .i64 0, .int .i64 0, .string ⟨#[]⟩, .int .i64 0], 38)]) := hd_; have cew2 := (hd_.blk 0 rfl).cell; have few2 := (hd_.blk 0 rfl).free; clear hd_)
      | (go_at_call 23; refine (HDw2.out.pick1 5 hL (by omega) (by decide) (by decide)).mono ?_; rintro e w3 ⟨rfl, hd_⟩; rw [← Hr.out]; have HDw3 : Hid (Dr w w3 g v l (k + 1 + 1 + 1) [(w.heap.size, #[.int .i64 c.cl, .int .i64 c.sq, .int .i64 c.st, .int .i64 c.cd, .string c.vl, .int .i64 c.ld], 38), (w.heap.size + 1, #[.int .i64 0, .int .i64 0, .int .i64 0, .int .i64 0, .string ⟨#[]⟩, .int .i64 0], 38)]) := hd_; have cew3 := (hd_.blk 0 rfl).cell; have few3 := (hd_.blk 0 rfl).free; have HDx : Hid (Dr w (w3.setCell ⟨w.heap.size, 2, none⟩ (.int .i64 ((r : Int) - 1))) g v l (k + 1 + 1 + 1) [(w.heap.size, #[.int .i64 c.cl, .int .i64 c.sq, .int .i64 ((r : Int) - 1), .int .i64 c.cd, .string c.vl, .int .i64 c.ld], 38), (w.heap.size + 1, #[.int .i64 0, .int .i64 0, .int .i64 0, .int .i64 0, .string ⟨#[]⟩, .int .i64 0], 38)]) := hd_.set 0 rfl 2 (by simp) (.int .i64 ((r : Int) - 1)) rfl; clear hd_)
      | (have hBA := HDx; refine gate_ld 38 (.tmp 3) rfl ?_; clear hBA; refine wpl_load_blk rfl 38 (.tmp 3) rfl (w.heap.size) rfl (HDx.out.blk 0 rfl) Tryz.underlying38 rfl infoRepB rfl ?_)
      | (have hBA := HDx; refine gate_st 38 (.tmp 4) _ rfl ?_; clear hBA; refine wpl_store_blk rfl 38 (.tmp 4) _ rfl (w.heap.size + 1) rfl rfl (HDx.out.blk 1 rfl) infoRepB rfl rfl (by simp [Value.oneCell']) ?_))
    have hR := HDx.out.row 1 rfl #[.int .i64 c.cl, .int .i64 c.sq, .int .i64 ((r : Int) - 1), .int .i64 c.cd, .string c.vl, .int .i64 c.ld] (noU8_of rfl)
    rw [HB.out]
    exact bodyPost_ret (results_blk Tryz.results33 rfl (hR.blk 1 rfl) Tryz.underlying38 rfl infoRepB rfl) rfl ⟨rfl, hR.src, hR.grown⟩
  · subst c0
    rw [if_neg (by decide), if_neg (by decide), if_neg (by decide), if_pos rfl] at HB
    go_enter Tryz.func33, Tryz.ntmps33
    go_wp2_with (first
      | (go_at_call 23; clear A1; refine (HD0.out.pick1 6 hL (by omega) (by decide) (by decide)).mono ?_; rintro e w1 ⟨rfl, hd_⟩; rw [← Hp.out]; have HDw1 : Hid (Dr w w1 g v l (k + 1) [(w.heap.size, #[.int .i64 c.cl, .int .i64 c.sq, .int .i64 c.st, .int .i64 c.cd, .string c.vl, .int .i64 c.ld], 38), (w.heap.size + 1, #[.int .i64 0, .int .i64 0, .int .i64 0, .int .i64 0, .string ⟨#[]⟩, .int .i64 0], 38)]) := hd_; have cew1 := (hd_.blk 0 rfl).cell; have few1 := (hd_.blk 0 rfl).free; clear hd_)
      | (go_at_call 23; clear A2; refine (HDw1.out.pick1 12 hL (by omega) (by decide) (by decide)).mono ?_; rintro e w2 ⟨rfl, hd_⟩; rw [← Hq.out]; have HDw2 : Hid (Dr w w2 g v l (k + 1 + 1) [(w.heap.size, #[.int .i64 c.cl, .int .i64 c.sq, .int .i64 c.st, .int .i64 c.cd, .string c.vl, .int .i64 c.ld], 38), (w.heap.size + 1, #[.int .i64 0, .int .i64 0, .int .i64 0, .int .i64 0, .string ⟨#[]⟩, .int .i64 0], 38)]) := hd_; have cew2 := (hd_.blk 0 rfl).cell; have few2 := (hd_.blk 0 rfl).free; have HDx : Hid (Dr w (w2.setCell ⟨w.heap.size, 3, none⟩ (.int .i64 ((q : Int) - 2))) g v l (k + 1 + 1) [(w.heap.size, #[.int .i64 c.cl, .int .i64 c.sq, .int .i64 c.st, .int .i64 ((q : Int) - 2), .string c.vl, .int .i64 c.ld], 38), (w.heap.size + 1, #[.int .i64 0, .int .i64 0, .int .i64 0, .int .i64 0, .string ⟨#[]⟩, .int .i64 0], 38)]) := hd_.set 0 rfl 3 (by simp) (.int .i64 ((q : Int) - 2)) rfl; clear hd_)
      | (have hBA := HDx; refine gate_ld 38 (.tmp 3) rfl ?_; clear hBA; refine wpl_load_blk rfl 38 (.tmp 3) rfl (w.heap.size) rfl (HDx.out.blk 0 rfl) Tryz.underlying38 rfl infoRepB rfl ?_)
      | (have hBA := HDx; refine gate_st 38 (.tmp 4) _ rfl ?_; clear hBA; refine wpl_store_blk rfl 38 (.tmp 4) _ rfl (w.heap.size + 1) rfl rfl (HDx.out.blk 1 rfl) infoRepB rfl rfl (by simp [Value.oneCell']) ?_))
    have hR := HDx.out.row 1 rfl #[.int .i64 c.cl, .int .i64 c.sq, .int .i64 c.st, .int .i64 ((q : Int) - 2), .string c.vl, .int .i64 c.ld] (noU8_of rfl)
    rw [HB.out]
    exact bodyPost_ret (results_blk Tryz.results33 rfl (hR.blk 1 rfl) Tryz.underlying38 rfl infoRepB rfl) rfl ⟨rfl, hR.src, hR.grown⟩
  · subst c0
    rw [if_neg (by decide), if_neg (by decide), if_neg (by decide), if_neg (by decide), if_pos rfl] at HB
    have br := pickV_lt l (k + 1 + 1) 2 (by decide)
    obtain ⟨r, hr⟩ : ∃ r, r = pickV l (k + 1 + 1) 2 := ⟨_, rfl⟩
    have Hr : Hid (r = pickV l (k + 1 + 1) 2) := hr
    rw [← hr] at br HB
    clear hr
    have HLg : Hid (∀ u : World, Calls Tryz.prog 57 #[.int .i64 (64 + (r : Int)), .int .u8 118] u fun e w' => e = .returned (.string (longV (64 + r) 118)) ∧ Below u.heap.size u w') := fun u => l1long_gen (64 + r) 118 (by omega) (by decide) u
    generalize longV (64 + r) 118 = LG at *
    go_enter Tryz.func33, Tryz.ntmps33
    go_wp2_with (first
      | (go_at_call 23; clear A1; refine (HD0.out.pick1 6 hL (by omega) (by decide) (by decide)).mono ?_; rintro e w1 ⟨rfl, hd_⟩; rw [← Hp.out]; have HDw1 : Hid (Dr w w1 g v l (k + 1) [(w.heap.size, #[.int .i64 c.cl, .int .i64 c.sq, .int .i64 c.st, .int .i64 c.cd, .string c.vl, .int .i64 c.ld], 38), (w.heap.size + 1, #[.int .i64 0, .int .i64 0, .int .i64 0, .int .i64 0, .string ⟨#[]⟩, .int .i64 0], 38)]) := hd_; have cew1 := (hd_.blk 0 rfl).cell; have few1 := (hd_.blk 0 rfl).free; clear hd_)
      | (go_at_call 23; clear A2; refine (HDw1.out.pick1 12 hL (by omega) (by decide) (by decide)).mono ?_; rintro e w2 ⟨rfl, hd_⟩; rw [← Hq.out]; have HDw2 : Hid (Dr w w2 g v l (k + 1 + 1) [(w.heap.size, #[.int .i64 c.cl, .int .i64 c.sq, .int .i64 c.st, .int .i64 c.cd, .string c.vl, .int .i64 c.ld], 38), (w.heap.size + 1, #[.int .i64 0, .int .i64 0, .int .i64 0, .int .i64 0, .string ⟨#[]⟩, .int .i64 0], 38)]) := hd_; have cew2 := (hd_.blk 0 rfl).cell; have few2 := (hd_.blk 0 rfl).free; clear hd_)
      | (go_at_call 23; refine (HDw2.out.pick1 2 hL (by omega) (by decide) (by decide)).mono ?_; rintro e w3 ⟨rfl, hd_⟩; rw [← Hr.out]; have HDw3 : Hid (Dr w w3 g v l (k + 1 + 1 + 1) [(w.heap.size, #[.int .i64 c.cl, .int .i64 c.sq, .int .i64 c.st, .int .i64 c.cd, .string c.vl, .int .i64 c.ld], 38), (w.heap.size + 1, #[.int .i64 0, .int .i64 0, .int .i64 0, .int .i64 0, .string ⟨#[]⟩, .int .i64 0], 38)]) := hd_; have cew3 := (hd_.blk 0 rfl).cell; have few3 := (hd_.blk 0 rfl).free; clear hd_)
      | (go_at_call 57; refine (HLg.out _).mono ?_; rintro e w4 ⟨rfl, hb4⟩; have HD4 : Hid (Dr w w4 g v l (k + 1 + 1 + 1) [(w.heap.size, #[.int .i64 c.cl, .int .i64 c.sq, .int .i64 c.st, .int .i64 c.cd, .string c.vl, .int .i64 c.ld], 38), (w.heap.size + 1, #[.int .i64 0, .int .i64 0, .int .i64 0, .int .i64 0, .string ⟨#[]⟩, .int .i64 0], 38)]) := HDw3.out.below hb4; have ce4 := (HD4.out.blk 0 rfl).cell; have fe4 := (HD4.out.blk 0 rfl).free; have HDx : Hid (Dr w (w4.setCell ⟨w.heap.size, 4, none⟩ (.string LG)) g v l (k + 1 + 1 + 1) [(w.heap.size, #[.int .i64 c.cl, .int .i64 c.sq, .int .i64 c.st, .int .i64 c.cd, .string LG, .int .i64 c.ld], 38), (w.heap.size + 1, #[.int .i64 0, .int .i64 0, .int .i64 0, .int .i64 0, .string ⟨#[]⟩, .int .i64 0], 38)]) := HD4.out.set 0 rfl 4 (by simp) (.string LG) rfl; clear hb4)
      | (have hBA := HDx; refine gate_ld 38 (.tmp 3) rfl ?_; clear hBA; refine wpl_load_blk rfl 38 (.tmp 3) rfl (w.heap.size) rfl (HDx.out.blk 0 rfl) Tryz.underlying38 rfl infoRepB rfl ?_)
      | (have hBA := HDx; refine gate_st 38 (.tmp 4) _ rfl ?_; clear hBA; refine wpl_store_blk rfl 38 (.tmp 4) _ rfl (w.heap.size + 1) rfl rfl (HDx.out.blk 1 rfl) infoRepB rfl rfl (by simp [Value.oneCell']) ?_))
    have hR := HDx.out.row 1 rfl #[.int .i64 c.cl, .int .i64 c.sq, .int .i64 c.st, .int .i64 c.cd, .string LG, .int .i64 c.ld] (noU8_of rfl)
    rw [HB.out]
    exact bodyPost_ret (results_blk Tryz.results33 rfl (hR.blk 1 rfl) Tryz.underlying38 rfl infoRepB rfl) rfl ⟨rfl, hR.src, hR.grown⟩
  · subst c0
    rw [if_neg (by decide), if_neg (by decide), if_neg (by decide), if_neg (by decide), if_neg (by decide)] at HB
    go_enter Tryz.func33, Tryz.ntmps33
    go_wp2_with (first
      | (go_at_call 23; clear A1; refine (HD0.out.pick1 6 hL (by omega) (by decide) (by decide)).mono ?_; rintro e w1 ⟨rfl, hd_⟩; rw [← Hp.out]; have HDw1 : Hid (Dr w w1 g v l (k + 1) [(w.heap.size, #[.int .i64 c.cl, .int .i64 c.sq, .int .i64 c.st, .int .i64 c.cd, .string c.vl, .int .i64 c.ld], 38), (w.heap.size + 1, #[.int .i64 0, .int .i64 0, .int .i64 0, .int .i64 0, .string ⟨#[]⟩, .int .i64 0], 38)]) := hd_; have cew1 := (hd_.blk 0 rfl).cell; have few1 := (hd_.blk 0 rfl).free; clear hd_)
      | (go_at_call 23; clear A2; refine (HDw1.out.pick1 12 hL (by omega) (by decide) (by decide)).mono ?_; rintro e w2 ⟨rfl, hd_⟩; rw [← Hq.out]; have HDw2 : Hid (Dr w w2 g v l (k + 1 + 1) [(w.heap.size, #[.int .i64 c.cl, .int .i64 c.sq, .int .i64 c.st, .int .i64 c.cd, .string c.vl, .int .i64 c.ld], 38), (w.heap.size + 1, #[.int .i64 0, .int .i64 0, .int .i64 0, .int .i64 0, .string ⟨#[]⟩, .int .i64 0], 38)]) := hd_; have cew2 := (hd_.blk 0 rfl).cell; have few2 := (hd_.blk 0 rfl).free; have HDx : Hid (Dr w (w2.setCell ⟨w.heap.size, 5, none⟩ (.int .i64 ((q : Int) - 2))) g v l (k + 1 + 1) [(w.heap.size, #[.int .i64 c.cl, .int .i64 c.sq, .int .i64 c.st, .int .i64 c.cd, .string c.vl, .int .i64 ((q : Int) - 2)], 38), (w.heap.size + 1, #[.int .i64 0, .int .i64 0, .int .i64 0, .int .i64 0, .string ⟨#[]⟩, .int .i64 0], 38)]) := hd_.set 0 rfl 5 (by simp) (.int .i64 ((q : Int) - 2)) rfl; clear hd_)
      | (have hBA := HDx; refine gate_ld 38 (.tmp 3) rfl ?_; clear hBA; refine wpl_load_blk rfl 38 (.tmp 3) rfl (w.heap.size) rfl (HDx.out.blk 0 rfl) Tryz.underlying38 rfl infoRepB rfl ?_)
      | (have hBA := HDx; refine gate_st 38 (.tmp 4) _ rfl ?_; clear hBA; refine wpl_store_blk rfl 38 (.tmp 4) _ rfl (w.heap.size + 1) rfl rfl (HDx.out.blk 1 rfl) infoRepB rfl rfl (by simp [Value.oneCell']) ?_))
    have hR := HDx.out.row 1 rfl #[.int .i64 c.cl, .int .i64 c.sq, .int .i64 c.st, .int .i64 c.cd, .string c.vl, .int .i64 ((q : Int) - 2)] (noU8_of rfl)
    rw [HB.out]
    exact bodyPost_ret (results_blk Tryz.results33 rfl (hR.blk 1 rfl) Tryz.underlying38 rfl infoRepB rfl) rfl ⟨rfl, hR.src, hR.grown⟩
end Go.Proofs.YtafmjckpbcijoaaGreatDoor

/-
  spec.l1drawReply: what is drawn, and where the source stands behind it.
-/
namespace Go.Proofs.YtafmjckpbcijoaaGreatDoor
open Go.RowKit
set_option linter.unusedVariables false
set_option linter.unusedSimpArgs false

theorem sizeRepD : (Tryz.prog.info? 38).map (·.size) = some 6 := by kernel_rfl

set_option maxHeartbeats 4000000 in
set_option maxRecDepth 100000 in
theorem l1drawReply_01 (g : Nat) (w : World) (v : Value) (l : List Int) (k : Nat) (hL : l.length ≤ 1048576) (hk : k ≤ 700000000) (h : Src w g v l k) (hs : pickV l (k + 1 + 1) 2 = 0) (hp : 0 < pickV l (k + 1 + 1 + 1) 10) :
    Calls Tryz.prog 32 #[.pointer (some ⟨g, 0, none⟩)] w fun r w' => r = .returned (.agg #[.int .i64 (1 + (pickV l k 8 : Nat)), .int .i64 (1 + (pickV l (k + 1) 6 : Nat)), .int .i64 1, .int .i64 (1 + (pickV l ((k + 1 + 1 + 1) + 1) 4 : Nat)), .string (wordV l (((k + 1 + 1 + 1) + 1) + 1) true).1, .int .i64 0]) ∧ Src w' g v l (wordV l (((k + 1 + 1 + 1) + 1) + 1) true).2 ∧ w.grownBy w' (some g) := by
  have HS : Hid (Src w g v l k) := h
  have hg0 : g < w.heap.size := h.lt
  clear h
  have b0 := pickV_lt l k 8 (by omega)
  have b1 := pickV_lt l (k + 1) 6 (by omega)
  have b2 := pickV_lt l (k + 1 + 1) 2 (by omega)
  have b3 := pickV_lt l (k + 1 + 1 + 1) 10 (by omega)
  have b4 := pickV_lt l ((k + 1 + 1 + 1) + 1) 4 (by omega)
  have b5 := wordV_size l (((k + 1 + 1 + 1) + 1) + 1) true
  have g0 : True := trivial
  have g1 : True := trivial
  have g2 : True := trivial
  have g3 : True := trivial
  have g4 : True := trivial
  have g5 : True := trivial
  have fa0 : (1 + (pickV l (k + 1 + 1) 2 : Nat) : Int) = 1 := by omega
  have fa1 : ¬ ((pickV l (k + 1 + 1 + 1) 10 : Nat) : Int) = 0 := by omega
  go_enter Tryz.func32, Tryz.ntmps32
  go_wp2_with (first
    | (go_at_call 23; clear g0; refine Calls.mono (l1pick_any g _ v l k 8 hL (by omega) (by omega) (by omega) (HS.out.alloc _)) ?_; rintro r w1 ⟨rfl, hs, hg⟩; rw [show pickK 8 = 1 from by first | decide | (unfold pickK; rw [if_pos (by omega)])] at hs; have z0 := hg.size; (try simp [World.setCell] at z0); have BR : Hid (Blk _ _ _ _) := (Blk.new w _ _).grown hg (by omega); have HG : Hid (w.grownBy w1 (some g)) := grownBy_trans (World.grownBy_alloc _ _ _) hg; replace HS : Hid (Src w1 g v l (k + 1)) := hs; clear hs hg)
    | (go_at_call 23; clear g1; refine Calls.mono (l1pick_any g _ v l (k + 1) 6 hL (by omega) (by omega) (by omega) HS.out) ?_; rintro r w2 ⟨rfl, hs, hg⟩; rw [show pickK 6 = 1 from by first | decide | (unfold pickK; rw [if_pos (by omega)])] at hs; have z1 := hg.size; (try simp [World.setCell] at z1); replace BR : Hid (Blk _ _ _ _) := BR.out.grown hg (by omega); replace HG : Hid (w.grownBy w2 (some g)) := grownBy_trans HG.out hg; replace HS : Hid (Src w2 g v l ((k + 1) + 1)) := hs; clear hs hg)
    | (go_at_call 23; clear g2; refine Calls.mono (l1pick_any g _ v l (k + 1 + 1) 2 hL (by omega) (by omega) (by omega) HS.out) ?_; rintro r w3 ⟨rfl, hs, hg⟩; rw [show pickK 2 = 1 from by first | decide | (unfold pickK; rw [if_pos (by omega)])] at hs; have z2 := hg.size; (try simp [World.setCell] at z2); replace BR : Hid (Blk _ _ _ _) := BR.out.grown hg (by omega); replace HG : Hid (w.grownBy w3 (some g)) := grownBy_trans HG.out hg; replace HS : Hid (Src w3 g v l ((k + 1 + 1) + 1)) := hs; clear hs hg)
    | (have hBA := HS; refine gate_st 38 (.tmp 3) _ rfl ?_; clear hBA; refine wpl_store_last rfl 38 (.tmp 3) _ rfl (w3.heap.size) rfl rfl rfl sizeRepD rfl rfl (by simp [Value.oneCell']) ?_)
    | (go_at_call 23; clear g3; refine Calls.mono (l1pick_any g _ v l (k + 1 + 1 + 1) 10 hL (by omega) (by omega) (by omega) (HS.out.alloc _)) ?_; rintro r w4 ⟨rfl, hs, hg⟩; rw [show pickK 10 = 1 from by first | decide | (unfold pickK; rw [if_pos (by omega)])] at hs; have z3 := hg.size; (try simp [World.setCell] at z3); replace BR : Hid (Blk _ _ _ _) := (BR.out.alloc _).grown hg (by omega); replace HG : Hid (w.grownBy w4 (some g)) := grownBy_trans (grownBy_alloc' HG.out _) hg; have BV : Hid (Blk _ _ _ _) := (Blk.new w3 _ _).grown hg (by omega); replace HS : Hid (Src w4 g v l ((k + 1 + 1 + 1) + 1)) := hs; clear hs hg; have cV3 := BV.out.cell; have fV3 := BV.out.free)
    | (go_at_call 23; clear g4; refine Calls.mono (l1pick_any g _ v l ((k + 1 + 1 + 1) + 1) 4 hL (by omega) (by omega) (by omega) HS.out) ?_; rintro r w5 ⟨rfl, hs, hg⟩; rw [show pickK 4 = 1 from by first | decide | (unfold pickK; rw [if_pos (by omega)])] at hs; have z4 := hg.size; (try simp [World.setCell] at z4); replace BR : Hid (Blk _ _ _ _) := BR.out.grown hg (by omega); replace HG : Hid (w.grownBy w5 (some g)) := grownBy_trans HG.out hg; replace BV : Hid (Blk _ _ _ _) := BV.out.grown hg (by omega); replace HS : Hid (Src w5 g v l (((k + 1 + 1 + 1) + 1) + 1)) := hs; clear hs hg; have cV4 := BV.out.cell; have fV4 := BV.out.free)
    | (go_at_call 56; clear g5; refine Calls.mono (l1word_any g _ v l (((k + 1 + 1 + 1) + 1) + 1) true hL (by omega) (HS.out.setB BV.out (by omega) 3 (by simp) (noU8_of rfl) _)) ?_; rintro r w6 ⟨rfl, hs, hg⟩; have z5 := hg.size; (try simp [World.setCell] at z5); replace BR : Hid (Blk _ _ _ _) := (BR.out.set_other (p := ⟨w3.heap.size, 3, none⟩) _ (show w.heap.size ≠ w3.heap.size by omega)).grown hg (by omega); replace HG : Hid (w.grownBy w6 (some g)) := grownBy_trans (grownBy_set_new HG.out (by omega) _ _) hg; replace BV : Hid (Blk _ _ _ _) := (show Blk _ _ #[.int .i64 (1 + (pickV l k 8 : Nat)), .int .i64 (1 + (pickV l (k + 1) 6 : Nat)), .int .i64 1, .int .i64 (1 + (pickV l ((k + 1 + 1 + 1) + 1) 4 : Nat)), .string ⟨#[]⟩, .int .i64 0] _ from by simpa using BV.out.set 3 (.int .i64 (1 + (pickV l ((k + 1 + 1 + 1) + 1) 4 : Nat)))).grown hg (by omega); replace HS : Hid (Src w6 g v l (wordV l (((k + 1 + 1 + 1) + 1) + 1) true).2) := hs; clear hs hg; have cV5 := BV.out.cell; have fV5 := BV.out.free)
    | (have hBA := HS; refine gate_ld 38 (.tmp 3) rfl ?_; clear hBA; refine wpl_load_blk rfl 38 (.tmp 3) rfl (w3.heap.size) rfl (show Blk _ _ #[.int .i64 (1 + (pickV l k 8 : Nat)), .int .i64 (1 + (pickV l (k + 1) 6 : Nat)), .int .i64 1, .int .i64 (1 + (pickV l ((k + 1 + 1 + 1) + 1) 4 : Nat)), .string (wordV l (((k + 1 + 1 + 1) + 1) + 1) true).1, .int .i64 0] _ from by simpa using BV.out.set 4 (.string (wordV l (((k + 1 + 1 + 1) + 1) + 1) true).1)) Tryz.underlying38 rfl sizeRepD rfl ?_)
    | (have hBA := HS; refine gate_st 38 (.tmp 2) _ rfl ?_; clear hBA; refine wpl_store_blk rfl 38 (.tmp 2) _ rfl (w.heap.size) rfl rfl (BR.out.set_other (p := ⟨w3.heap.size, 4, none⟩) _ (show w.heap.size ≠ w3.heap.size by omega)) sizeRepD rfl rfl (by simp [Value.oneCell']) ?_))
  all_goals first
    | exact bodyPost_ret (v := .agg #[.int .i64 (1 + (pickV l k 8 : Nat)), .int .i64 (1 + (pickV l (k + 1) 6 : Nat)), .int .i64 1, .int .i64 (1 + (pickV l ((k + 1 + 1 + 1) + 1) 4 : Nat)), .string (wordV l (((k + 1 + 1 + 1) + 1) + 1) true).1, .int .i64 0]) (results_blk Tryz.results32 rfl ((BR.out.set_other (p := ⟨w3.heap.size, 4, none⟩) _ (show w.heap.size ≠ w3.heap.size by omega)).row _) Tryz.underlying38 rfl sizeRepD rfl) rfl ⟨rfl, (HS.out.setB BV.out (by omega) 4 (by simp) (noU8_of rfl) _).row (BR.out.set_other (p := ⟨w3.heap.size, 4, none⟩) _ (show w.heap.size ≠ w3.heap.size by omega)) (by omega) (noU8_of rfl) _, grownBy_row_new (grownBy_set_new HG.out (by omega) _ _) (BR.out.set_other (p := ⟨w3.heap.size, 4, none⟩) _ (show w.heap.size ≠ w3.heap.size by omega)) (Nat.le_refl _) _⟩
    | (exfalso; omega)
    | (exfalso; simp only [beq_iff_eq] at *; omega)

set_option maxHeartbeats 4000000 in
set_option maxRecDepth 100000 in
theorem l1drawReply_02 (g : Nat) (w : World) (v : Value) (l : List Int) (k : Nat) (hL : l.length ≤ 1048576) (hk : k ≤ 700000000) (h : Src w g v l k) (hs : pickV l (k + 1 + 1) 2 = 1) (hp : 0 < pickV l (k + 1 + 1 + 1) 10) :
    Calls Tryz.prog 32 #[.pointer (some ⟨g, 0, none⟩)] w fun r w' => r = .returned (.agg #[.int .i64 (1 + (pickV l k 8 : Nat)), .int .i64 (1 + (pickV l (k + 1) 6 : Nat)), .int .i64 2, .int .i64 0, .string ⟨#[]⟩, .int .i64 (pickV l ((k + 1 + 1 + 1) + 1) 8 : Nat)]) ∧ Src w' g v l (((k + 1 + 1 + 1) + 1) + 1) ∧ w.grownBy w' (some g) := by
  have HS : Hid (Src w g v l k) := h
  have hg0 : g < w.heap.size := h.lt
  clear h
  have b0 := pickV_lt l k 8 (by omega)
  have b1 := pickV_lt l (k + 1) 6 (by omega)
  have b2 := pickV_lt l (k + 1 + 1) 2 (by omega)
  have b3 := pickV_lt l (k + 1 + 1 + 1) 10 (by omega)
  have b4 := pickV_lt l ((k + 1 + 1 + 1) + 1) 8 (by omega)
  have g0 : True := trivial
  have g1 : True := trivial
  have g2 : True := trivial
  have g3 : True := trivial
  have g4 : True := trivial
  have fa0 : (1 + (pickV l (k + 1 + 1) 2 : Nat) : Int) = 2 := by omega
  have fa1 : ¬ ((pickV l (k + 1 + 1 + 1) 10 : Nat) : Int) = 0 := by omega
  go_enter Tryz.func32, Tryz.ntmps32
  go_wp2_with (first
    | (go_at_call 23; clear g0; refine Calls.mono (l1pick_any g _ v l k 8 hL (by omega) (by omega) (by omega) (HS.out.alloc _)) ?_; rintro r w1 ⟨rfl, hs, hg⟩; rw [show pickK 8 = 1 from by first | decide | (unfold pickK; rw [if_pos (by omega)])] at hs; have z0 := hg.size; (try simp [World.setCell] at z0); have BR : Hid (Blk _ _ _ _) := (Blk.new w _ _).grown hg (by omega); have HG : Hid (w.grownBy w1 (some g)) := grownBy_trans (World.grownBy_alloc _ _ _) hg; replace HS : Hid (Src w1 g v l (k + 1)) := hs; clear hs hg)
    | (go_at_call 23; clear g1; refine Calls.mono (l1pick_any g _ v l (k + 1) 6 hL (by omega) (by omega) (by omega) HS.out) ?_; rintro r w2 ⟨rfl, hs, hg⟩; rw [show pickK 6 = 1 from by first | decide | (unfold pickK; rw [if_pos (by omega)])] at hs; have z1 := hg.size; (try simp [World.setCell] at z1); replace BR : Hid (Blk _ _ _ _) := BR.out.grown hg (by omega); replace HG : Hid (w.grownBy w2 (some g)) := grownBy_trans HG.out hg; replace HS : Hid (Src w2 g v l ((k + 1) + 1)) := hs; clear hs hg)
    | (go_at_call 23; clear g2; refine Calls.mono (l1pick_any g _ v l (k + 1 + 1) 2 hL (by omega) (by omega) (by omega) HS.out) ?_; rintro r w3 ⟨rfl, hs, hg⟩; rw [show pickK 2 = 1 from by first | decide | (unfold pickK; rw [if_pos (by omega)])] at hs; have z2 := hg.size; (try simp [World.setCell] at z2); replace BR : Hid (Blk _ _ _ _) := BR.out.grown hg (by omega); replace HG : Hid (w.grownBy w3 (some g)) := grownBy_trans HG.out hg; replace HS : Hid (Src w3 g v l ((k + 1 + 1) + 1)) := hs; clear hs hg)
    | (have hBA := HS; refine gate_st 38 (.tmp 3) _ rfl ?_; clear hBA; refine wpl_store_last rfl 38 (.tmp 3) _ rfl (w3.heap.size) rfl rfl rfl sizeRepD rfl rfl (by simp [Value.oneCell']) ?_)
    | (go_at_call 23; clear g3; refine Calls.mono (l1pick_any g _ v l (k + 1 + 1 + 1) 10 hL (by omega) (by omega) (by omega) (HS.out.alloc _)) ?_; rintro r w4 ⟨rfl, hs, hg⟩; rw [show pickK 10 = 1 from by first | decide | (unfold pickK; rw [if_pos (by omega)])] at hs; have z3 := hg.size; (try simp [World.setCell] at z3); replace BR : Hid (Blk _ _ _ _) := (BR.out.alloc _).grown hg (by omega); replace HG : Hid (w.grownBy w4 (some g)) := grownBy_trans (grownBy_alloc' HG.out _) hg; have BV : Hid (Blk _ _ _ _) := (Blk.new w3 _ _).grown hg (by omega); replace HS : Hid (Src w4 g v l ((k + 1 + 1 + 1) + 1)) := hs; clear hs hg; have cV3 := BV.out.cell; have fV3 := BV.out.free)
    | (go_at_call 23; clear g4; refine Calls.mono (l1pick_any g _ v l ((k + 1 + 1 + 1) + 1) 8 hL (by omega) (by omega) (by omega) HS.out) ?_; rintro r w5 ⟨rfl, hs, hg⟩; rw [show pickK 8 = 1 from by first | decide | (unfold pickK; rw [if_pos (by omega)])] at hs; have z4 := hg.size; (try simp [World.setCell] at z4); replace BR : Hid (Blk _ _ _ _) := BR.out.grown hg (by omega); replace HG : Hid (w.grownBy w5 (some g)) := grownBy_trans HG.out hg; replace BV : Hid (Blk _ _ _ _) := BV.out.grown hg (by omega); replace HS : Hid (Src w5 g v l (((k + 1 + 1 + 1) + 1) + 1)) := hs; clear hs hg; have cV4 := BV.out.cell; have fV4 := BV.out.free)
    | (have hBA := HS; refine gate_ld 38 (.tmp 3) rfl ?_; clear hBA; refine wpl_load_blk rfl 38 (.tmp 3) rfl (w3.heap.size) rfl (show Blk _ _ #[.int .i64 (1 + (pickV l k 8 : Nat)), .int .i64 (1 + (pickV l (k + 1) 6 : Nat)), .int .i64 2, .int .i64 0, .string ⟨#[]⟩, .int .i64 (pickV l ((k + 1 + 1 + 1) + 1) 8 : Nat)] _ from by simpa using BV.out.set 5 (.int .i64 (pickV l ((k + 1 + 1 + 1) + 1) 8 : Nat))) Tryz.underlying38 rfl sizeRepD rfl ?_)
    | (have hBA := HS; refine gate_st 38 (.tmp 2) _ rfl ?_; clear hBA; refine wpl_store_blk rfl 38 (.tmp 2) _ rfl (w.heap.size) rfl rfl (BR.out.set_other (p := ⟨w3.heap.size, 5, none⟩) _ (show w.heap.size ≠ w3.heap.size by omega)) sizeRepD rfl rfl (by simp [Value.oneCell']) ?_))
  all_goals first
    | exact bodyPost_ret (v := .agg #[.int .i64 (1 + (pickV l k 8 : Nat)), .int .i64 (1 + (pickV l (k + 1) 6 : Nat)), .int .i64 2, .int .i64 0, .string ⟨#[]⟩, .int .i64 (pickV l ((k + 1 + 1 + 1) + 1) 8 : Nat)]) (results_blk Tryz.results32 rfl ((BR.out.set_other (p := ⟨w3.heap.size, 5, none⟩) _ (show w.heap.size ≠ w3.heap.size by omega)).row _) Tryz.underlying38 rfl sizeRepD rfl) rfl ⟨rfl, (HS.out.setB BV.out (by omega) 5 (by simp) (noU8_of rfl) _).row (BR.out.set_other (p := ⟨w3.heap.size, 5, none⟩) _ (show w.heap.size ≠ w3.heap.size by omega)) (by omega) (noU8_of rfl) _, grownBy_row_new (grownBy_set_new HG.out (by omega) _ _) (BR.out.set_other (p := ⟨w3.heap.size, 5, none⟩) _ (show w.heap.size ≠ w3.heap.size by omega)) (Nat.le_refl _) _⟩
    | (exfalso; omega)
    | (exfalso; simp only [beq_iff_eq] at *; omega)

set_option maxHeartbeats 4000000 in
set_option maxRecDepth 100000 in
theorem l1drawReply_11 (g : Nat) (w : World) (v : Value) (l : List Int) (k : Nat) (hL : l.length ≤ 1048576) (hk : k ≤ 700000000) (h : Src w g v l k) (hs : pickV l (k + 1 + 1) 2 = 0) (hp : pickV l (k + 1 + 1 + 1) 10 = 0) :
    Calls Tryz.prog 32 #[.pointer (some ⟨g, 0, none⟩)] w fun r w' => r = .returned (.agg #[.int .i64 (1 + (pickV l k 8 : Nat)), .int .i64 1073741824, .int .i64 1, .int .i64 (1 + (pickV l ((k + 1 + 1 + 1) + 1) 4 : Nat)), .string (wordV l (((k + 1 + 1 + 1) + 1) + 1) true).1, .int .i64 0]) ∧ Src w' g v l (wordV l (((k + 1 + 1 + 1) + 1) + 1) true).2 ∧ w.grownBy w' (some g) := by
  have HS : Hid (Src w g v l k) := h
  have hg0 : g < w.heap.size := h.lt
  clear h
  have b0 := pickV_lt l k 8 (by omega)
  have b1 := pickV_lt l (k + 1) 6 (by omega)
  have b2 := pickV_lt l (k + 1 + 1) 2 (by omega)
  have b3 := pickV_lt l (k + 1 + 1 + 1) 10 (by omega)
  have b4 := pickV_lt l ((k + 1 + 1 + 1) + 1) 4 (by omega)
  have b5 := wordV_size l (((k + 1 + 1 + 1) + 1) + 1) true
  have g0 : True := trivial
  have g1 : True := trivial
  have g2 : True := trivial
  have g3 : True := trivial
  have g4 : True := trivial
  have g5 : True := trivial
  have fa0 : (1 + (pickV l (k + 1 + 1) 2 : Nat) : Int) = 1 := by omega
  have fa1 : ((pickV l (k + 1 + 1 + 1) 10 : Nat) : Int) = 0 := by omega
  go_enter Tryz.func32, Tryz.ntmps32
  go_wp2_with (first
    | (go_at_call 23; clear g0; refine Calls.mono (l1pick_any g _ v l k 8 hL (by omega) (by omega) (by omega) (HS.out.alloc _)) ?_; rintro r w1 ⟨rfl, hs, hg⟩; rw [show pickK 8 = 1 from by first | decide | (unfold pickK; rw [if_pos (by omega)])] at hs; have z0 := hg.size; (try simp [World.setCell] at z0); have BR : Hid (Blk _ _ _ _) := (Blk.new w _ _).grown hg (by omega); have HG : Hid (w.grownBy w1 (some g)) := grownBy_trans (World.grownBy_alloc _ _ _) hg; replace HS : Hid (Src w1 g v l (k + 1)) := hs; clear hs hg)
    | (go_at_call 23; clear g1; refine Calls.mono (l1pick_any g _ v l (k + 1) 6 hL (by omega) (by omega) (by omega) HS.out) ?_; rintro r w2 ⟨rfl, hs, hg⟩; rw [show pickK 6 = 1 from by first | decide | (unfold pickK; rw [if_pos (by omega)])] at hs; have z1 := hg.size; (try simp [World.setCell] at z1); replace BR : Hid (Blk _ _ _ _) := BR.out.grown hg (by omega); replace HG : Hid (w.grownBy w2 (some g)) := grownBy_trans HG.out hg; replace HS : Hid (Src w2 g v l ((k + 1) + 1)) := hs; clear hs hg)
    | (go_at_call 23; clear g2; refine Calls.mono (l1pick_any g _ v l (k + 1 + 1) 2 hL (by omega) (by omega) (by omega) HS.out) ?_; rintro r w3 ⟨rfl, hs, hg⟩; rw [show pickK 2 = 1 from by first | decide | (unfold pickK; rw [if_pos (by omega)])] at hs; have z2 := hg.size; (try simp [World.setCell] at z2); replace BR : Hid (Blk _ _ _ _) := BR.out.grown hg (by omega); replace HG : Hid (w.grownBy w3 (some g)) := grownBy_trans HG.out hg; replace HS : Hid (Src w3 g v l ((k + 1 + 1) + 1)) := hs; clear hs hg)
    | (have hBA := HS; refine gate_st 38 (.tmp 3) _ rfl ?_; clear hBA; refine wpl_store_last rfl 38 (.tmp 3) _ rfl (w3.heap.size) rfl rfl rfl sizeRepD rfl rfl (by simp [Value.oneCell']) ?_)
    | (go_at_call 23; clear g3; refine Calls.mono (l1pick_any g _ v l (k + 1 + 1 + 1) 10 hL (by omega) (by omega) (by omega) (HS.out.alloc _)) ?_; rintro r w4 ⟨rfl, hs, hg⟩; rw [show pickK 10 = 1 from by first | decide | (unfold pickK; rw [if_pos (by omega)])] at hs; have z3 := hg.size; (try simp [World.setCell] at z3); replace BR : Hid (Blk _ _ _ _) := (BR.out.alloc _).grown hg (by omega); replace HG : Hid (w.grownBy w4 (some g)) := grownBy_trans (grownBy_alloc' HG.out _) hg; have BV : Hid (Blk _ _ _ _) := (Blk.new w3 _ _).grown hg (by omega); replace HS : Hid (Src w4 g v l ((k + 1 + 1 + 1) + 1)) := hs; clear hs hg; have cV3 := BV.out.cell; have fV3 := BV.out.free)
    | (go_at_call 23; clear g4; refine Calls.mono (l1pick_any g _ v l ((k + 1 + 1 + 1) + 1) 4 hL (by omega) (by omega) (by omega) (HS.out.setB BV.out (by omega) 1 (by simp) (noU8_of rfl) _)) ?_; rintro r w5 ⟨rfl, hs, hg⟩; rw [show pickK 4 = 1 from by first | decide | (unfold pickK; rw [if_pos (by omega)])] at hs; have z4 := hg.size; (try simp [World.setCell] at z4); replace BR : Hid (Blk _ _ _ _) := (BR.out.set_other (p := ⟨w3.heap.size, 1, none⟩) _ (show w.heap.size ≠ w3.heap.size by omega)).grown hg (by omega); replace HG : Hid (w.grownBy w5 (some g)) := grownBy_trans (grownBy_set_new HG.out (by omega) _ _) hg; replace BV : Hid (Blk _ _ _ _) := (show Blk _ _ #[.int .i64 (1 + (pickV l k 8 : Nat)), .int .i64 1073741824, .int .i64 1, .int .i64 0, .string ⟨#[]⟩, .int .i64 0] _ from by simpa using BV.out.set 1 (.int .i64 1073741824)).grown hg (by omega); replace HS : Hid (Src w5 g v l (((k + 1 + 1 + 1) + 1) + 1)) := hs; clear hs hg; have cV4 := BV.out.cell; have fV4 := BV.out.free)
    | (go_at_call 56; clear g5; refine Calls.mono (l1word_any g _ v l (((k + 1 + 1 + 1) + 1) + 1) true hL (by omega) (HS.out.setB BV.out (by omega) 3 (by simp) (noU8_of rfl) _)) ?_; rintro r w6 ⟨rfl, hs, hg⟩; have z5 := hg.size; (try simp [World.setCell] at z5); replace BR : Hid (Blk _ _ _ _) := (BR.out.set_other (p := ⟨w3.heap.size, 3, none⟩) _ (show w.heap.size ≠ w3.heap.size by omega)).grown hg (by omega); replace HG : Hid (w.grownBy w6 (some g)) := grownBy_trans (grownBy_set_new HG.out (by omega) _ _) hg; replace BV : Hid (Blk _ _ _ _) := (show Blk _ _ #[.int .i64 (1 + (pickV l k 8 : Nat)), .int .i64 1073741824, .int .i64 1, .int .i64 (1 + (pickV l ((k + 1 + 1 + 1) + 1) 4 : Nat)), .string ⟨#[]⟩, .int .i64 0] _ from by simpa using BV.out.set 3 (.int .i64 (1 + (pickV l ((k + 1 + 1 + 1) + 1) 4 : Nat)))).grown hg (by omega); replace HS : Hid (Src w6 g v l (wordV l (((k + 1 + 1 + 1) + 1) + 1) true).2) := hs; clear hs hg; have cV5 := BV.out.cell; have fV5 := BV.out.free)
    | (have hBA := HS; refine gate_ld 38 (.tmp 3) rfl ?_; clear hBA; refine wpl_load_blk rfl 38 (.tmp 3) rfl (w3.heap.size) rfl (show Blk _ _ #[.int .i64 (1 + (pickV l k 8 : Nat)), .int .i64 1073741824, .int .i64 1, .int .i64 (1 + (pickV l ((k + 1 + 1 + 1) + 1) 4 : Nat)), .string (wordV l (((k + 1 + 1 + 1) + 1) + 1) true).1, .int .i64 0] _ from by simpa using BV.out.set 4 (.string (wordV l (((k + 1 + 1 + 1) + 1) + 1) true).1)) Tryz.underlying38 rfl sizeRepD rfl ?_)
    | (have hBA := HS; refine gate_st 38 (.tmp 2) _ rfl ?_; clear hBA; refine wpl_store_blk rfl 38 (.tmp 2) _ rfl (w.heap.size) rfl rfl (BR.out.set_other (p := ⟨w3.heap.size, 4, none⟩) _ (show w.heap.size ≠ w3.heap.size by omega)) sizeRepD rfl rfl (by simp [Value.oneCell']) ?_))
  all_goals first
    | exact bodyPost_ret (v := .agg #[.int .i64 (1 + (pickV l k 8 : Nat)), .int .i64 1073741824, .int .i64 1, .int .i64 (1 + (pickV l ((k + 1 + 1 + 1) + 1) 4 : Nat)), .string (wordV l (((k + 1 + 1 + 1) + 1) + 1) true).1, .int .i64 0]) (results_blk Tryz.results32 rfl ((BR.out.set_other (p := ⟨w3.heap.size, 4, none⟩) _ (show w.heap.size ≠ w3.heap.size by omega)).row _) Tryz.underlying38 rfl sizeRepD rfl) rfl ⟨rfl, (HS.out.setB BV.out (by omega) 4 (by simp) (noU8_of rfl) _).row (BR.out.set_other (p := ⟨w3.heap.size, 4, none⟩) _ (show w.heap.size ≠ w3.heap.size by omega)) (by omega) (noU8_of rfl) _, grownBy_row_new (grownBy_set_new HG.out (by omega) _ _) (BR.out.set_other (p := ⟨w3.heap.size, 4, none⟩) _ (show w.heap.size ≠ w3.heap.size by omega)) (Nat.le_refl _) _⟩
    | (exfalso; omega)
    | (exfalso; simp only [beq_iff_eq] at *; omega)

set_option maxHeartbeats 4000000 in
set_option maxRecDepth 100000 in
theorem l1drawReply_12 (g : Nat) (w : World) (v : Value) (l : List Int) (k : Nat) (hL : l.length ≤ 1048576) (hk : k ≤ 700000000) (h : Src w g v l k) (hs : pickV l (k + 1 + 1) 2 = 1) (hp : pickV l (k + 1 + 1 + 1) 10 = 0) :
    Calls Tryz.prog 32 #[.pointer (some ⟨g, 0, none⟩)] w fun r w' => r = .returned (.agg #[.int .i64 (1 + (pickV l k 8 : Nat)), .int .i64 1073741824, .int .i64 2, .int .i64 0, .string ⟨#[]⟩, .int .i64 (pickV l ((k + 1 + 1 + 1) + 1) 8 : Nat)]) ∧ Src w' g v l (((k + 1 + 1 + 1) + 1) + 1) ∧ w.grownBy w' (some g) := by
  have HS : Hid (Src w g v l k) := h
  have hg0 : g < w.heap.size := h.lt
  clear h
  have b0 := pickV_lt l k 8 (by omega)
  have b1 := pickV_lt l (k + 1) 6 (by omega)
  have b2 := pickV_lt l (k + 1 + 1) 2 (by omega)
  have b3 := pickV_lt l (k + 1 + 1 + 1) 10 (by omega)
  have b4 := pickV_lt l ((k + 1 + 1 + 1) + 1) 8 (by omega)
  have g0 : True := trivial
  have g1 : True := trivial
  have g2 : True := trivial
  have g3 : True := trivial
  have g4 : True := trivial
  have fa0 : (1 + (pickV l (k + 1 + 1) 2 : Nat) : Int) = 2 := by omega
  have fa1 : ((pickV l (k + 1 + 1 + 1) 10 : Nat) : Int) = 0 := by omega
  go_enter Tryz.func32, Tryz.ntmps32
  go_wp2_with (first
    | (go_at_call 23; clear g0; refine Calls.mono (l1pick_any g _ v l k 8 hL (by omega) (by omega) (by omega) (HS.out.alloc _)) ?_; rintro r w1 ⟨rfl, hs, hg⟩; rw [show pickK 8 = 1 from by first | decide | (unfold pickK; rw [if_pos (by omega)])] at hs; have z0 := hg.size; (try simp [World.setCell] at z0); have BR : Hid (Blk _ _ _ _) := (Blk.new w _ _).grown hg (by omega); have HG : Hid (w.grownBy w1 (some g)) := grownBy_trans (World.grownBy_alloc _ _ _) hg; replace HS : Hid (Src w1 g v l (k + 1)) := hs; clear hs hg)
    | (go_at_call 23; clear g1; refine Calls.mono (l1pick_any g _ v l (k + 1) 6 hL (by omega) (by omega) (by omega) HS.out) ?_; rintro r w2 ⟨rfl, hs, hg⟩; rw [show pickK 6 = 1 from by first | decide | (unfold pickK; rw [if_pos (by omega)])] at hs; have z1 := hg.size; (try simp [World.setCell] at z1); replace BR : Hid (Blk _ _ _ _) := BR.out.grown hg (by omega); replace HG : Hid (w.grownBy w2 (some g)) := grownBy_trans HG.out hg; replace HS : Hid (Src w2 g v l ((k + 1) + 1)) := hs; clear hs hg)
    | (go_at_call 23; clear g2; refine Calls.mono (l1pick_any g _ v l (k + 1 + 1) 2 hL (by omega) (by omega) (by omega) HS.out) ?_; rintro r w3 ⟨rfl, hs, hg⟩; rw [show pickK 2 = 1 from by first | decide | (unfold pickK; rw [if_pos (by omega)])] at hs; have z2 := hg.size; (try simp [World.setCell] at z2); replace BR : Hid (Blk _ _ _ _) := BR.out.grown hg (by omega); replace HG : Hid (w.grownBy w3 (some g)) := grownBy_trans HG.out hg; replace HS : Hid (Src w3 g v l ((k + 1 + 1) + 1)) := hs; clear hs hg)
    | (have hBA := HS; refine gate_st 38 (.tmp 3) _ rfl ?_; clear hBA; refine wpl_store_last rfl 38 (.tmp 3) _ rfl (w3.heap.size) rfl rfl rfl sizeRepD rfl rfl (by simp [Value.oneCell']) ?_)
    | (go_at_call 23; clear g3; refine Calls.mono (l1pick_any g _ v l (k + 1 + 1 + 1) 10 hL (by omega) (by omega) (by omega) (HS.out.alloc _)) ?_; rintro r w4 ⟨rfl, hs, hg⟩; rw [show pickK 10 = 1 from by first | decide | (unfold pickK; rw [if_pos (by omega)])] at hs; have z3 := hg.size; (try simp [World.setCell] at z3); replace BR : Hid (Blk _ _ _ _) := (BR.out.alloc _).grown hg (by omega); replace HG : Hid (w.grownBy w4 (some g)) := grownBy_trans (grownBy_alloc' HG.out _) hg; have BV : Hid (Blk _ _ _ _) := (Blk.new w3 _ _).grown hg (by omega); replace HS : Hid (Src w4 g v l ((k + 1 + 1 + 1) + 1)) := hs; clear hs hg; have cV3 := BV.out.cell; have fV3 := BV.out.free)
    | (go_at_call 23; clear g4; refine Calls.mono (l1pick_any g _ v l ((k + 1 + 1 + 1) + 1) 8 hL (by omega) (by omega) (by omega) (HS.out.setB BV.out (by omega) 1 (by simp) (noU8_of rfl) _)) ?_; rintro r w5 ⟨rfl, hs, hg⟩; rw [show pickK 8 = 1 from by first | decide | (unfold pickK; rw [if_pos (by omega)])] at hs; have z4 := hg.size; (try simp [World.setCell] at z4); replace BR : Hid (Blk _ _ _ _) := (BR.out.set_other (p := ⟨w3.heap.size, 1, none⟩) _ (show w.heap.size ≠ w3.heap.size by omega)).grown hg (by omega); replace HG : Hid (w.grownBy w5 (some g)) := grownBy_trans (grownBy_set_new HG.out (by omega) _ _) hg; replace BV : Hid (Blk _ _ _ _) := (show Blk _ _ #[.int .i64 (1 + (pickV l k 8 : Nat)), .int .i64 1073741824, .int .i64 2, .int .i64 0, .string ⟨#[]⟩, .int .i64 0] _ from by simpa using BV.out.set 1 (.int .i64 1073741824)).grown hg (by omega); replace HS : Hid (Src w5 g v l (((k + 1 + 1 + 1) + 1) + 1)) := hs; clear hs hg; have cV4 := BV.out.cell; have fV4 := BV.out.free)
    | (have hBA := HS; refine gate_ld 38 (.tmp 3) rfl ?_; clear hBA; refine wpl_load_blk rfl 38 (.tmp 3) rfl (w3.heap.size) rfl (show Blk _ _ #[.int .i64 (1 + (pickV l k 8 : Nat)), .int .i64 1073741824, .int .i64 2, .int .i64 0, .string ⟨#[]⟩, .int .i64 (pickV l ((k + 1 + 1 + 1) + 1) 8 : Nat)] _ from by simpa using BV.out.set 5 (.int .i64 (pickV l ((k + 1 + 1 + 1) + 1) 8 : Nat))) Tryz.underlying38 rfl sizeRepD rfl ?_)
    | (have hBA := HS; refine gate_st 38 (.tmp 2) _ rfl ?_; clear hBA; refine wpl_store_blk rfl 38 (.tmp 2) _ rfl (w.heap.size) rfl rfl (BR.out.set_other (p := ⟨w3.heap.size, 5, none⟩) _ (show w.heap.size ≠ w3.heap.size by omega)) sizeRepD rfl rfl (by simp [Value.oneCell']) ?_))
  all_goals first
    | exact bodyPost_ret (v := .agg #[.int .i64 (1 + (pickV l k 8 : Nat)), .int .i64 1073741824, .int .i64 2, .int .i64 0, .string ⟨#[]⟩, .int .i64 (pickV l ((k + 1 + 1 + 1) + 1) 8 : Nat)]) (results_blk Tryz.results32 rfl ((BR.out.set_other (p := ⟨w3.heap.size, 5, none⟩) _ (show w.heap.size ≠ w3.heap.size by omega)).row _) Tryz.underlying38 rfl sizeRepD rfl) rfl ⟨rfl, (HS.out.setB BV.out (by omega) 5 (by simp) (noU8_of rfl) _).row (BR.out.set_other (p := ⟨w3.heap.size, 5, none⟩) _ (show w.heap.size ≠ w3.heap.size by omega)) (by omega) (noU8_of rfl) _, grownBy_row_new (grownBy_set_new HG.out (by omega) _ _) (BR.out.set_other (p := ⟨w3.heap.size, 5, none⟩) _ (show w.heap.size ≠ w3.heap.size by omega)) (Nat.le_refl _) _⟩
    | (exfalso; omega)
    | (exfalso; simp only [beq_iff_eq] at *; omega)


/-- the fields of a drawn reply -/
def repSt (l : List Int) (k : Nat) : Int := 1 + (pickV l (k + 1 + 1) 2 : Nat)
def repCd (l : List Int) (k : Nat) : Int := if pickV l (k + 1 + 1) 2 = 0 then 1 + (pickV l (k + 1 + 1 + 1 + 1) 4 : Nat) else 0
def repVl (l : List Int) (k : Nat) : ByteArray := if pickV l (k + 1 + 1) 2 = 0 then (wordV l (k + 1 + 1 + 1 + 1 + 1) true).1 else ⟨#[]⟩
def repLd (l : List Int) (k : Nat) : Int := if pickV l (k + 1 + 1) 2 = 0 then 0 else (pickV l (k + 1 + 1 + 1 + 1) 8 : Nat)
def repK (l : List Int) (k : Nat) : Nat := if pickV l (k + 1 + 1) 2 = 0 then (wordV l (k + 1 + 1 + 1 + 1 + 1) true).2 else k + 1 + 1 + 1 + 1 + 1
def repCl (l : List Int) (k : Nat) : Int := 1 + (pickV l k 8 : Nat)
def repSq (l : List Int) (k : Nat) : Int := if pickV l (k + 1 + 1 + 1) 10 = 0 then 1073741824 else 1 + (pickV l (k + 1) 6 : Nat)
theorem repK_le (l : List Int) (k : Nat) : k < repK l k ∧ repK l k ≤ k + 8 := by
  have h := wordV_size l (k + 1 + 1 + 1 + 1 + 1) true
  unfold repK; split <;> omega
theorem rep_facts (l : List Int) (k : Nat) : (repSt l k = 1 ∧ 1 ≤ repCd l k ∧ repCd l k ≤ 4 ∧ (repVl l k).size ≤ 64 ∧ repLd l k = 0) ∨ (repSt l k = 2 ∧ repCd l k = 0 ∧ (repVl l k).size = 0 ∧ 0 ≤ repLd l k ∧ repLd l k ≤ 7) := by
  have h := wordV_size l (k + 1 + 1 + 1 + 1 + 1) true
  have p2 := pickV_lt l (k + 1 + 1) 2 (by omega)
  have p4 := pickV_lt l (k + 1 + 1 + 1 + 1) 4 (by omega)
  have p8 := pickV_lt l (k + 1 + 1 + 1 + 1) 8 (by omega)
  unfold repSt repCd repVl repLd
  by_cases e : pickV l (k + 1 + 1) 2 = 0
  · left
    rw [if_pos e, if_pos e, if_pos e]
    refine ⟨by omega, by omega, by omega, h.1, rfl⟩
  · right
    rw [if_neg e, if_neg e, if_neg e]
    refine ⟨by omega, rfl, rfl, by omega, by omega⟩

set_option maxHeartbeats 1000000 in
theorem l1drawReply_any (g : Nat) (w : World) (v : Value) (l : List Int) (k : Nat) (hL : l.length ≤ 1048576) (hk : k ≤ 700000000) (h : Src w g v l k) :
    Calls Tryz.prog 32 #[.pointer (some ⟨g, 0, none⟩)] w fun r w' => r = .returned (.agg #[.int .i64 (repCl l k), .int .i64 (repSq l k), .int .i64 (repSt l k), .int .i64 (repCd l k), .string (repVl l k), .int .i64 (repLd l k)]) ∧ Src w' g v l (repK l k) ∧ w.grownBy w' (some g) := by
  have p2 := pickV_lt l (k + 1 + 1) 2 (by omega)
  by_cases hp : pickV l (k + 1 + 1 + 1) 10 = 0
  · have e1 : repSq l k = 1073741824 := by unfold repSq; rw [if_pos hp]
    by_cases hs : pickV l (k + 1 + 1) 2 = 0
    · have e2 : repSt l k = 1 := by unfold repSt; omega
      unfold repCd repVl repLd repK
      rw [e1, e2, if_pos hs, if_pos hs, if_pos hs, if_pos hs]
      exact l1drawReply_11 g w v l k hL hk h hs hp
    · have e2 : repSt l k = 2 := by unfold repSt; omega
      unfold repCd repVl repLd repK
      rw [e1, e2, if_neg hs, if_neg hs, if_neg hs, if_neg hs]
      exact l1drawReply_12 g w v l k hL hk h (by omega) hp
  · have e1 : repSq l k = 1 + (pickV l (k + 1) 6 : Nat) := by unfold repSq; rw [if_neg hp]
    replace hp : 0 < pickV l (k + 1 + 1 + 1) 10 := by omega
    by_cases hs : pickV l (k + 1 + 1) 2 = 0
    · have e2 : repSt l k = 1 := by unfold repSt; omega
      unfold repCd repVl repLd repK
      rw [e1, e2, if_pos hs, if_pos hs, if_pos hs, if_pos hs]
      exact l1drawReply_01 g w v l k hL hk h hs hp
    · have e2 : repSt l k = 2 := by unfold repSt; omega
      unfold repCd repVl repLd repK
      rw [e1, e2, if_neg hs, if_neg hs, if_neg hs, if_neg hs]
      exact l1drawReply_02 g w v l k hL hk h (by omega) hp
end Go.Proofs.YtafmjckpbcijoaaGreatDoor

/-
  spec.DrawEncodeCall, spec.DrawEncodeReply.
-/
namespace Go.Proofs.YtafmjckpbcijoaaGreatDoor
open Go.RowKit
set_option linter.unusedVariables false
set_option linter.unusedSimpArgs false

theorem grown_belowE {w w' : World} {o1 o2 : Obj} (h : World.grownBy ((w.alloc o1).alloc o2) w' (some (w.heap.size + 1))) : Below w.heap.size w w' := by
  have hb : Below w.heap.size w ((w.alloc o1).alloc o2) := ((Below.refl _ _).alloc (Nat.le_refl _) _).alloc (by simp) _
  refine ⟨h.os.trans hb.os, h.tape.trans hb.tape, h.output.trans hb.output, Nat.le_trans hb.size h.size, fun k hk => (h.block k (by simp; omega) (by intro e; injection e with e; omega)).trans (hb.block k hk)⟩
def drC (l : List Int) : CmdV := ⟨cmdCl l 0, cmdSq l 0, cmdOp l 0, cmdKy l 0, cmdVl l 0, cmdOl l 0⟩
def encC (l : List Int) : CmdV := if pickV l (cmdK l 0) 8 = 0 then (badC l (cmdK l 0 + 1) (drC l)).1 else drC l
def drY (l : List Int) : RepD := ⟨repCl l 0, repSq l 0, repSt l 0, repCd l 0, repVl l 0, repLd l 0⟩
def encY (l : List Int) : RepD := if pickV l (repK l 0) 4 = 0 then (badY l (repK l 0 + 1) (drY l)).1 else drY l
set_option maxHeartbeats 8000000 in
set_option maxRecDepth 100000 in
theorem drawEncodeCall_any (a : Option Addr) (cap : Nat) (l : List Int) (w : World) (hv : Bs w (.slice a l.length cap) l) (hL : l.length ≤ 1048576) :
    Calls Tryz.prog 10 #[.slice a l.length cap] w fun r w' => r = .returned (.agg #[.int .i64 (encC l).cl, .int .i64 (encC l).sq, .int .i64 (encC l).op, .string (encC l).ky, .string (encC l).vl, .string (encC l).ol]) ∧ Below w.heap.size w w' := by
  have HS0 : Hid (Src ((w.alloc (.cells #[.int .i64 0, .int .i64 0, .int .i64 0, .string ⟨#[]⟩, .string ⟨#[]⟩, .string ⟨#[]⟩] 33)).alloc (.cells #[.slice a l.length cap, .int .i64 0] 54)) (w.heap.size + 1) (.slice a l.length cap) l 0) := by
    have hx := Src.start (w.alloc (.cells #[.int .i64 0, .int .i64 0, .int .i64 0, .string ⟨#[]⟩, .string ⟨#[]⟩, .string ⟨#[]⟩] 33)) (.slice a l.length cap) l (hv.below ((Below.refl _ _).alloc (Nat.le_refl _) _)) 54
    rw [show (w.alloc (.cells #[.int .i64 0, .int .i64 0, .int .i64 0, .string ⟨#[]⟩, .string ⟨#[]⟩, .string ⟨#[]⟩] 33)).heap.size = w.heap.size + 1 by simp] at hx
    exact hx
  have hE : encC l = if pickV l (cmdK l 0) 8 = 0 then (badC l (cmdK l 0 + 1) (drC l)).1 else drC l := rfl
  have HDr : Hid (∀ u : World, Src u (w.heap.size + 1) (.slice a l.length cap) l 0 → Calls Tryz.prog 30 #[.pointer (some ⟨(w.heap.size + 1), 0, none⟩)] u fun r w' => r = .returned (.agg #[.int .i64 (drC l).cl, .int .i64 (drC l).sq, .int .i64 (drC l).op, .string (drC l).ky, .string (drC l).vl, .string (drC l).ol]) ∧ Src w' (w.heap.size + 1) (.slice a l.length cap) l (cmdK l 0) ∧ u.grownBy w' (some (w.heap.size + 1))) := fun u hu => l1drawCmd_any (w.heap.size + 1) u (.slice a l.length cap) l 0 hL (by omega) hu
  have hkb : cmdK l 0 ≤ 1000 := (by have := cmdK_le l 0; omega)
  generalize cmdK l 0 = K at *
  generalize drC l = c at *
  have HBd : Hid (∀ u : World, Src u (w.heap.size + 1) (.slice a l.length cap) l (K + 1) → Calls Tryz.prog 31 #[.pointer (some ⟨(w.heap.size + 1), 0, none⟩), .agg #[.int .i64 c.cl, .int .i64 c.sq, .int .i64 c.op, .string c.ky, .string c.vl, .string c.ol]] u fun r w' => r = .returned (.agg #[.int .i64 (badC l (K + 1) c).1.cl, .int .i64 (badC l (K + 1) c).1.sq, .int .i64 (badC l (K + 1) c).1.op, .string (badC l (K + 1) c).1.ky, .string (badC l (K + 1) c).1.vl, .string (badC l (K + 1) c).1.ol]) ∧ Src w' (w.heap.size + 1) (.slice a l.length cap) l (badC l (K + 1) c).2 ∧ u.grownBy w' (some (w.heap.size + 1))) := fun u hu => l1badCmd_any (w.heap.size + 1) u (.slice a l.length cap) l (K + 1) c hL (by omega) hu
  generalize badC l (K + 1) c = BB at *
  obtain ⟨y, KB⟩ := BB
  dsimp only at HBd hE
  have b8 := pickV_lt l K 8 (by decide)
  obtain ⟨p, hp⟩ : ∃ p, p = pickV l K 8 := ⟨_, rfl⟩
  rw [← hp] at b8 hE
  have Hp : Hid (p = pickV l K 8) := hp
  clear hp hv
  have HE : Hid (encC l = if p = 0 then y else c) := hE
  generalize encC l = X at *
  clear hE
  go_enter Tryz.func10, Tryz.ntmps10
  go_upto_if 9 with (first
    | (go_at_call 30; refine (HDr.out _ HS0.out).mono ?_; rintro r w3 ⟨rfl, hs3, hg3⟩; have HD3 : Hid (Dr ((w.alloc (.cells #[.int .i64 0, .int .i64 0, .int .i64 0, .string ⟨#[]⟩, .string ⟨#[]⟩, .string ⟨#[]⟩] 33)).alloc (.cells #[.slice a l.length cap, .int .i64 0] 54)) (w3.alloc (.cells #[.int .i64 c.cl, .int .i64 c.sq, .int .i64 c.op, .string c.ky, .string c.vl, .string c.ol] 33)) (w.heap.size + 1) (.slice a l.length cap) l K [(w3.heap.size, #[.int .i64 c.cl, .int .i64 c.sq, .int .i64 c.op, .string c.ky, .string c.vl, .string c.ol], 33)]) := ((Dr.start HS0.out).call hs3 hg3).new #[.int .i64 c.cl, .int .i64 c.sq, .int .i64 c.op, .string c.ky, .string c.vl, .string c.ol] 33 (noU8_of rfl); have hz3 := hg3.size; (simp only [World.size_alloc] at hz3); clear hs3 hg3)
    | (go_at_call 23; refine (HD3.out.pick1 8 hL (by omega) (by decide) (by decide)).mono ?_; rintro r w4 ⟨rfl, hd4⟩; rw [← Hp.out]; have HD4 : Hid (Dr ((w.alloc (.cells #[.int .i64 0, .int .i64 0, .int .i64 0, .string ⟨#[]⟩, .string ⟨#[]⟩, .string ⟨#[]⟩] 33)).alloc (.cells #[.slice a l.length cap, .int .i64 0] 54)) w4 (w.heap.size + 1) (.slice a l.length cap) l (K + 1) [(w3.heap.size, #[.int .i64 c.cl, .int .i64 c.sq, .int .i64 c.op, .string c.ky, .string c.vl, .string c.ol], 33)]) := hd4; clear hd4))
  go_cut [9] (fun _ wx => ∃ K', Dr ((w.alloc (.cells #[.int .i64 0, .int .i64 0, .int .i64 0, .string ⟨#[]⟩, .string ⟨#[]⟩, .string ⟨#[]⟩] 33)).alloc (.cells #[.slice a l.length cap, .int .i64 0] 54)) wx (w.heap.size + 1) (.slice a l.length cap) l K' [(w3.heap.size, #[.int .i64 X.cl, .int .i64 X.sq, .int .i64 X.op, .string X.ky, .string X.vl, .string X.ol], 33)])
  case first =>
    by_cases c0 : p = 0
    · subst c0
      rw [if_pos rfl] at HE
      have hX := HE.out
      subst hX
      go_wp2_with (first
        | (have hBA := HD4; refine gate_ld 33 (.tmp 4) rfl ?_; clear hBA; refine wpl_load_blk rfl 33 (.tmp 4) rfl (w3.heap.size) rfl (HD4.out.blk 0 rfl) Tryz.underlying33 rfl infoCmdB rfl ?_)
        | (go_at_call 31; refine (HBd.out _ HD4.out.src).mono ?_; rintro r w5 ⟨rfl, hs5, hg5⟩; have HD5 : Hid (Dr ((w.alloc (.cells #[.int .i64 0, .int .i64 0, .int .i64 0, .string ⟨#[]⟩, .string ⟨#[]⟩, .string ⟨#[]⟩] 33)).alloc (.cells #[.slice a l.length cap, .int .i64 0] 54)) w5 (w.heap.size + 1) (.slice a l.length cap) l KB [(w3.heap.size, #[.int .i64 c.cl, .int .i64 c.sq, .int .i64 c.op, .string c.ky, .string c.vl, .string c.ol], 33)]) := HD4.out.call hs5 hg5; clear hs5 hg5)
        | (have hBA := HD5; refine gate_st 33 (.tmp 4) _ rfl ?_; clear hBA; refine wpl_store_blk rfl 33 (.tmp 4) _ rfl (w3.heap.size) rfl rfl (HD5.out.blk 0 rfl) infoCmdB rfl rfl (by simp [Value.oneCell']) ?_))
      go_meet
      exact ⟨_, HD5.out.row 0 rfl #[.int .i64 X.cl, .int .i64 X.sq, .int .i64 X.op, .string X.ky, .string X.vl, .string X.ol] (noU8_of rfl)⟩
    · rw [if_neg c0] at HE
      have hX := HE.out
      subst hX
      have c1 : ((p : Int) == 0) = false := by rw [beq_eq_false_iff_ne]; omega
      go_wp2_with fail
      go_meet
      exact ⟨_, HD4.out⟩
  case rest =>
    obtain ⟨K', hd⟩ := hcut
    have HDc : Hid (Dr ((w.alloc (.cells #[.int .i64 0, .int .i64 0, .int .i64 0, .string ⟨#[]⟩, .string ⟨#[]⟩, .string ⟨#[]⟩] 33)).alloc (.cells #[.slice a l.length cap, .int .i64 0] 54)) wc (w.heap.size + 1) (.slice a l.length cap) l K' [(w3.heap.size, #[.int .i64 X.cl, .int .i64 X.sq, .int .i64 X.op, .string X.ky, .string X.vl, .string X.ol], 33)]) := hd
    have hB1 : Blk wc w.heap.size #[.int .i64 0, .int .i64 0, .int .i64 0, .string ⟨#[]⟩, .string ⟨#[]⟩, .string ⟨#[]⟩] 33 := ((Blk.new w #[.int .i64 0, .int .i64 0, .int .i64 0, .string ⟨#[]⟩, .string ⟨#[]⟩, .string ⟨#[]⟩] 33).alloc _).grown hd.grown (by omega)
    have HB1 : Hid (Blk wc w.heap.size #[.int .i64 0, .int .i64 0, .int .i64 0, .string ⟨#[]⟩, .string ⟨#[]⟩, .string ⟨#[]⟩] 33) := hB1
    clear hd hB1
    go_wp2_with (first
      | (have hBA := HDc; refine gate_ld 33 (.tmp 4) rfl ?_; clear hBA; refine wpl_load_blk rfl 33 (.tmp 4) rfl (w3.heap.size) rfl (HDc.out.blk 0 rfl) Tryz.underlying33 rfl infoCmdB rfl ?_)
      | (have hBA := HB1; refine gate_st 33 (.tmp 2) _ rfl ?_; clear hBA; refine wpl_store_blk rfl 33 (.tmp 2) _ rfl (w.heap.size) rfl rfl HB1.out infoCmdB rfl rfl (by simp [Value.oneCell']) ?_))
    exact bodyPost_ret (results_blk Tryz.results10 rfl (HB1.out.row _) Tryz.underlying33 rfl infoCmdB rfl) rfl ⟨rfl, below_row (grown_belowE HDc.out.grown) (Nat.le_refl _) _⟩
set_option maxHeartbeats 8000000 in
set_option maxRecDepth 100000 in
theorem drawEncodeReply_any (a : Option Addr) (cap : Nat) (l : List Int) (w : World) (hv : Bs w (.slice a l.length cap) l) (hL : l.length ≤ 1048576) :
    Calls Tryz.prog 13 #[.slice a l.length cap] w fun r w' => r = .returned (.agg #[.int .i64 (encY l).cl, .int .i64 (encY l).sq, .int .i64 (encY l).st, .int .i64 (encY l).cd, .string (encY l).vl, .int .i64 (encY l).ld]) ∧ Below w.heap.size w w' := by
  have HS0 : Hid (Src ((w.alloc (.cells #[.int .i64 0, .int .i64 0, .int .i64 0, .int .i64 0, .string ⟨#[]⟩, .int .i64 0] 38)).alloc (.cells #[.slice a l.length cap, .int .i64 0] 54)) (w.heap.size + 1) (.slice a l.length cap) l 0) := by
    have hx := Src.start (w.alloc (.cells #[.int .i64 0, .int .i64 0, .int .i64 0, .int .i64 0, .string ⟨#[]⟩, .int .i64 0] 38)) (.slice a l.length cap) l (hv.below ((Below.refl _ _).alloc (Nat.le_refl _) _)) 54
    rw [show (w.alloc (.cells #[.int .i64 0, .int .i64 0, .int .i64 0, .int .i64 0, .string ⟨#[]⟩, .int .i64 0] 38)).heap.size = w.heap.size + 1 by simp] at hx
    exact hx
  have hE : encY l = if pickV l (repK l 0) 4 = 0 then (badY l (repK l 0 + 1) (drY l)).1 else drY l := rfl
  have HDr : Hid (∀ u : World, Src u (w.heap.size + 1) (.slice a l.length cap) l 0 → Calls Tryz.prog 32 #[.pointer (some ⟨(w.heap.size + 1), 0, none⟩)] u fun r w' => r = .returned (.agg #[.int .i64 (drY l).cl, .int .i64 (drY l).sq, .int .i64 (drY l).st, .int .i64 (drY l).cd, .string (drY l).vl, .int .i64 (drY l).ld]) ∧ Src w' (w.heap.size + 1) (.slice a l.length cap) l (repK l 0) ∧ u.grownBy w' (some (w.heap.size + 1))) := fun u hu => l1drawReply_any (w.heap.size + 1) u (.slice a l.length cap) l 0 hL (by omega) hu
  have hkb : repK l 0 ≤ 1000 := (by have := repK_le l 0; omega)
  generalize repK l 0 = K at *
  generalize drY l = c at *
  have HBd : Hid (∀ u : World, Src u (w.heap.size + 1) (.slice a l.length cap) l (K + 1) → Calls Tryz.prog 33 #[.pointer (some ⟨(w.heap.size + 1), 0, none⟩), .agg #[.int .i64 c.cl, .int .i64 c.sq, .int .i64 c.st, .int .i64 c.cd, .string c.vl, .int .i64 c.ld]] u fun r w' => r = .returned (.agg #[.int .i64 (badY l (K + 1) c).1.cl, .int .i64 (badY l (K + 1) c).1.sq, .int .i64 (badY l (K + 1) c).1.st, .int .i64 (badY l (K + 1) c).1.cd, .string (badY l (K + 1) c).1.vl, .int .i64 (badY l (K + 1) c).1.ld]) ∧ Src w' (w.heap.size + 1) (.slice a l.length cap) l (badY l (K + 1) c).2 ∧ u.grownBy w' (some (w.heap.size + 1))) := fun u hu => l1badReply_any (w.heap.size + 1) u (.slice a l.length cap) l (K + 1) c hL (by omega) hu
  generalize badY l (K + 1) c = BB at *
  obtain ⟨y, KB⟩ := BB
  dsimp only at HBd hE
  have b8 := pickV_lt l K 4 (by decide)
  obtain ⟨p, hp⟩ : ∃ p, p = pickV l K 4 := ⟨_, rfl⟩
  rw [← hp] at b8 hE
  have Hp : Hid (p = pickV l K 4) := hp
  clear hp hv
  have HE : Hid (encY l = if p = 0 then y else c) := hE
  generalize encY l = X at *
  clear hE
  go_enter Tryz.func13, Tryz.ntmps13
  go_upto_if 9 with (first
    | (go_at_call 32; refine (HDr.out _ HS0.out).mono ?_; rintro r w3 ⟨rfl, hs3, hg3⟩; have HD3 : Hid (Dr ((w.alloc (.cells #[.int .i64 0, .int .i64 0, .int .i64 0, .int .i64 0, .string ⟨#[]⟩, .int .i64 0] 38)).alloc (.cells #[.slice a l.length cap, .int .i64 0] 54)) (w3.alloc (.cells #[.int .i64 c.cl, .int .i64 c.sq, .int .i64 c.st, .int .i64 c.cd, .string c.vl, .int .i64 c.ld] 38)) (w.heap.size + 1) (.slice a l.length cap) l K [(w3.heap.size, #[.int .i64 c.cl, .int .i64 c.sq, .int .i64 c.st, .int .i64 c.cd, .string c.vl, .int .i64 c.ld], 38)]) := ((Dr.start HS0.out).call hs3 hg3).new #[.int .i64 c.cl, .int .i64 c.sq, .int .i64 c.st, .int .i64 c.cd, .string c.vl, .int .i64 c.ld] 38 (noU8_of rfl); have hz3 := hg3.size; (simp only [World.size_alloc] at hz3); clear hs3 hg3)
    | (go_at_call 23; refine (HD3.out.pick1 4 hL (by omega) (by decide) (by decide)).mono ?_; rintro r w4 ⟨rfl, hd4⟩; rw [← Hp.out]; have HD4 : Hid (Dr ((w.alloc (.cells #[.int .i64 0, .int .i64 0, .int .i64 0, .int .i64 0, .string ⟨#[]⟩, .int .i64 0] 38)).alloc (.cells #[.slice a l.length cap, .int .i64 0] 54)) w4 (w.heap.size + 1) (.slice a l.length cap) l (K + 1) [(w3.heap.size, #[.int .i64 c.cl, .int .i64 c.sq, .int .i64 c.st, .int .i64 c.cd, .string c.vl, .int .i64 c.ld], 38)]) := hd4; clear hd4))
  go_cut [9] (fun _ wx => ∃ K', Dr ((w.alloc (.cells #[.int .i64 0, .int .i64 0, .int .i64 0, .int .i64 0, .string ⟨#[]⟩, .int .i64 0] 38)).alloc (.cells #[.slice a l.length cap, .int .i64 0] 54)) wx (w.heap.size + 1) (.slice a l.length cap) l K' [(w3.heap.size, #[.int .i64 X.cl, .int .i64 X.sq, .int .i64 X.st, .int .i64 X.cd, .string X.vl, .int .i64 X.ld], 38)])
  case first =>
    by_cases c0 : p = 0
    · subst c0
      rw [if_pos rfl] at HE
      have hX := HE.out
      subst hX
      go_wp2_with (first
        | (have hBA := HD4; refine gate_ld 38 (.tmp 4) rfl ?_; clear hBA; refine wpl_load_blk rfl 38 (.tmp 4) rfl (w3.heap.size) rfl (HD4.out.blk 0 rfl) Tryz.underlying38 rfl infoRepB rfl ?_)
        | (go_at_call 33; refine (HBd.out _ HD4.out.src).mono ?_; rintro r w5 ⟨rfl, hs5, hg5⟩; have HD5 : Hid (Dr ((w.alloc (.cells #[.int .i64 0, .int .i64 0, .int .i64 0, .int .i64 0, .string ⟨#[]⟩, .int .i64 0] 38)).alloc (.cells #[.slice a l.length cap, .int .i64 0] 54)) w5 (w.heap.size + 1) (.slice a l.length cap) l KB [(w3.heap.size, #[.int .i64 c.cl, .int .i64 c.sq, .int .i64 c.st, .int .i64 c.cd, .string c.vl, .int .i64 c.ld], 38)]) := HD4.out.call hs5 hg5; clear hs5 hg5)
        | (have hBA := HD5; refine gate_st 38 (.tmp 4) _ rfl ?_; clear hBA; refine wpl_store_blk rfl 38 (.tmp 4) _ rfl (w3.heap.size) rfl rfl (HD5.out.blk 0 rfl) infoRepB rfl rfl (by simp [Value.oneCell']) ?_))
      go_meet
      exact ⟨_, HD5.out.row 0 rfl #[.int .i64 X.cl, .int .i64 X.sq, .int .i64 X.st, .int .i64 X.cd, .string X.vl, .int .i64 X.ld] (noU8_of rfl)⟩
    · rw [if_neg c0] at HE
      have hX := HE.out
      subst hX
      have c1 : ((p : Int) == 0) = false := by rw [beq_eq_false_iff_ne]; omega
      go_wp2_with fail
      go_meet
      exact ⟨_, HD4.out⟩
  case rest =>
    obtain ⟨K', hd⟩ := hcut
    have HDc : Hid (Dr ((w.alloc (.cells #[.int .i64 0, .int .i64 0, .int .i64 0, .int .i64 0, .string ⟨#[]⟩, .int .i64 0] 38)).alloc (.cells #[.slice a l.length cap, .int .i64 0] 54)) wc (w.heap.size + 1) (.slice a l.length cap) l K' [(w3.heap.size, #[.int .i64 X.cl, .int .i64 X.sq, .int .i64 X.st, .int .i64 X.cd, .string X.vl, .int .i64 X.ld], 38)]) := hd
    have hB1 : Blk wc w.heap.size #[.int .i64 0, .int .i64 0, .int .i64 0, .int .i64 0, .string ⟨#[]⟩, .int .i64 0] 38 := ((Blk.new w #[.int .i64 0, .int .i64 0, .int .i64 0, .int .i64 0, .string ⟨#[]⟩, .int .i64 0] 38).alloc _).grown hd.grown (by omega)
    have HB1 : Hid (Blk wc w.heap.size #[.int .i64 0, .int .i64 0, .int .i64 0, .int .i64 0, .string ⟨#[]⟩, .int .i64 0] 38) := hB1
    clear hd hB1
    go_wp2_with (first
      | (have hBA := HDc; refine gate_ld 38 (.tmp 4) rfl ?_; clear hBA; refine wpl_load_blk rfl 38 (.tmp 4) rfl (w3.heap.size) rfl (HDc.out.blk 0 rfl) Tryz.underlying38 rfl infoRepB rfl ?_)
      | (have hBA := HB1; refine gate_st 38 (.tmp 2) _ rfl ?_; clear hBA; refine wpl_store_blk rfl 38 (.tmp 2) _ rfl (w.heap.size) rfl rfl HB1.out infoRepB rfl rfl (by simp [Value.oneCell']) ?_))
    exact bodyPost_ret (results_blk Tryz.results13 rfl (HB1.out.row _) Tryz.underlying38 rfl infoRepB rfl) rfl ⟨rfl, below_row (grown_belowE HDc.out.grown) (Nat.le_refl _) _⟩
end Go.Proofs.YtafmjckpbcijoaaGreatDoor

/-
  spec.DrawEncodeMsg.
-/
namespace Go.Proofs.YtafmjckpbcijoaaGreatDoor
open Go.RowKit
set_option linter.unusedVariables false
set_option linter.unusedSimpArgs false

theorem mgT_ok (l : List Int) (k : Nat) : 1 ≤ (mgT l k).1 ∧ (mgT l k).1 ≤ 1073741824 ∧ (mgT l k).2 ≤ k + 7 := by
  have h1 := pickV_lt l (k + 1 + 1 + 1 + 1 + 1 + 1) 2 (by decide)
  have h2 := pickV_lt l (k + 1 + 1) 9 (by decide)
  unfold mgT
  split <;> (dsimp only; omega)
theorem mgB_len (l : List Int) (k : Nat) (ki tm li lt : Int) : (mgB l k ki tm li lt).2.1.length ≤ 32 := by
  unfold mgB
  split
  · dsimp only
    rw [List.length_map, entsD_len]
    have := (mgN0_ok l (k + 1)).1
    unfold mgN
    omega
  · simp
theorem mgC_k (l : List Int) (k : Nat) (ki : Int) : (mgC l k ki).2 ≤ k + 1 := by
  unfold mgC
  split <;> (dsimp only; omega)
theorem mgD_k (l : List Int) (k : Nat) (ki ok li : Int) : (mgD l k ki ok li).2.2 ≤ k + 2 := by
  unfold mgD
  split
  · dsimp only
    split <;> omega
  · dsimp only; omega
theorem msgD_ok (l : List Int) (k : Nat) : 1 ≤ (msgD l k).tm ∧ (msgD l k).tm ≤ 1073741824 ∧ 0 ≤ (msgD l k).lt ∧ (msgD l k).lt ≤ 1073741824 ∧ (msgD l k).es.length ≤ 32 ∧ (msgD l k).k ≤ k + 700 := by
  have hT := mgT_ok l k
  have hA := mgA_ok l (mgT l k).2 (mgK l k) (mgT l k).1 hT.1 hT.2.1
  unfold msgD
  dsimp only
  refine ⟨hT.1, hT.2.1, hA.2.2.1, hA.2.2.2.1, mgB_len _ _ _ _ _ _, ?_⟩
  refine Nat.le_trans (mgD_k _ _ _ _ _) ?_
  have h1 := mgC_k l (mgB l (mgA l (mgT l k).2 (mgK l k) (mgT l k).1).2.2 (mgK l k) (mgT l k).1 (mgA l (mgT l k).2 (mgK l k) (mgT l k).1).1 (mgA l (mgT l k).2 (mgK l k) (mgT l k).1).2.1).2.2 (mgK l k)
  have h2 := mgB_k l (mgA l (mgT l k).2 (mgK l k) (mgT l k).1).2.2 (mgK l k) (mgT l k).1 (mgA l (mgT l k).2 (mgK l k) (mgT l k).1).1 (mgA l (mgT l k).2 (mgK l k) (mgT l k).1).2.1
  omega
theorem one_keep {w0 w w' : World} {g k : Nat} {v u : Value} {l : List Int} {L : List Ent} {B b : Nat} {C : Array Value} (hO : OwnE w B u L) (h : Dr w0 w g v l k [(b, C, 27)]) (hoth : ∀ b, b < w.heap.size → b ≠ g → u.ownBlock ≠ some b → w'.heap[b]? = w.heap[b]?) : ∀ x ∈ [(b, C, 27)], w'.heap[x.1]? = w.heap[x.1]? := fun x hx => by
  rw [List.mem_singleton.1 hx]
  exact hoth b (h.lt 0 rfl) (h.ne 0 rfl) (ownsRow.neBlk hO.2 (h.blk 0 rfl) (by decide))
def drM (l : List Int) : MsgE := ⟨(msgD l 0).ki, (msgD l 0).fr, (msgD l 0).td, (msgD l 0).tm, (msgD l 0).li, (msgD l 0).lt, (msgD l 0).cm, (msgD l 0).ok, (msgD l 0).hi, (msgD l 0).es⟩
def encM (l : List Int) : MsgE := if pickV l (msgD l 0).k 8 = 0 then (badM l ((msgD l 0).k + 1) (drM l)).1 else drM l
set_option maxHeartbeats 8000000 in
set_option maxRecDepth 100000 in
theorem drawEncodeMsg_any (a : Option Addr) (cap : Nat) (l : List Int) (w : World) (hv : Bs w (.slice a l.length cap) l) (hL : l.length ≤ 1048576) :
    Calls Tryz.prog 6 #[.slice a l.length cap] w fun r w' => ∃ ea ec, r = .returned (.agg #[.int .i64 (encM l).ki, .int .i64 (encM l).fr, .int .i64 (encM l).td, .int .i64 (encM l).tm, .int .i64 (encM l).li, .int .i64 (encM l).lt, .int .i64 (encM l).cm, .int .i64 (encM l).ok, .int .i64 (encM l).hi, .slice ea (encM l).es.length ec]) ∧ OwnE w' w.heap.size (.slice ea (encM l).es.length ec) (encM l).es ∧ Below w.heap.size w w' := by
  have HS0 : Hid (Src ((w.alloc (.cells #[.int .i64 0, .int .i64 0, .int .i64 0, .int .i64 0, .int .i64 0, .int .i64 0, .int .i64 0, .int .i64 0, .int .i64 0, .slice none 0 0] 27)).alloc (.cells #[.slice a l.length cap, .int .i64 0] 54)) (w.heap.size + 1) (.slice a l.length cap) l 0) := by
    have hx := Src.start (w.alloc (.cells #[.int .i64 0, .int .i64 0, .int .i64 0, .int .i64 0, .int .i64 0, .int .i64 0, .int .i64 0, .int .i64 0, .int .i64 0, .slice none 0 0] 27)) (.slice a l.length cap) l (hv.below ((Below.refl _ _).alloc (Nat.le_refl _) _)) 54
    rw [show (w.alloc (.cells #[.int .i64 0, .int .i64 0, .int .i64 0, .int .i64 0, .int .i64 0, .int .i64 0, .int .i64 0, .int .i64 0, .int .i64 0, .slice none 0 0] 27)).heap.size = w.heap.size + 1 by simp] at hx
    exact hx
  have hsz : (((w.alloc (.cells #[.int .i64 0, .int .i64 0, .int .i64 0, .int .i64 0, .int .i64 0, .int .i64 0, .int .i64 0, .int .i64 0, .int .i64 0, .slice none 0 0] 27)).alloc (.cells #[.slice a l.length cap, .int .i64 0] 54))).heap.size = w.heap.size + 1 + 1 := by simp
  have Hsz : Hid ((((w.alloc (.cells #[.int .i64 0, .int .i64 0, .int .i64 0, .int .i64 0, .int .i64 0, .int .i64 0, .int .i64 0, .int .i64 0, .int .i64 0, .slice none 0 0] 27)).alloc (.cells #[.slice a l.length cap, .int .i64 0] 54))).heap.size = w.heap.size + 1 + 1) := hsz
  clear hsz
  have hE : encM l = if pickV l (msgD l 0).k 8 = 0 then (badM l ((msgD l 0).k + 1) (drM l)).1 else drM l := rfl
  have hok := msgD_ok l 0
  have HDr : Hid (∀ u : World, Src u (w.heap.size + 1) (.slice a l.length cap) l 0 → Calls Tryz.prog 22 #[.pointer (some ⟨(w.heap.size + 1), 0, none⟩)] u fun r w' => ∃ ea ec, r = .returned (.agg #[.int .i64 (drM l).ki, .int .i64 (drM l).fr, .int .i64 (drM l).td, .int .i64 (drM l).tm, .int .i64 (drM l).li, .int .i64 (drM l).lt, .int .i64 (drM l).cm, .int .i64 (drM l).ok, .int .i64 (drM l).hi, .slice ea (drM l).es.length ec]) ∧ OwnE w' u.heap.size (.slice ea (drM l).es.length ec) (drM l).es ∧ Src w' (w.heap.size + 1) (.slice a l.length cap) l (msgD l 0).k ∧ u.grownBy w' (some (w.heap.size + 1))) := fun u hu => l1drawMsg_any (w.heap.size + 1) u (.slice a l.length cap) l 0 hL (by omega) hu
  have hb1 : 1 ≤ (drM l).tm ∧ (drM l).tm ≤ 1073741824 := ⟨hok.1, hok.2.1⟩
  have hb2 : 0 ≤ (drM l).lt ∧ (drM l).lt ≤ 1073741824 := ⟨hok.2.2.1, hok.2.2.2.1⟩
  have hb3 : (drM l).es.length ≤ 32 := hok.2.2.2.2.1
  have hkb : (msgD l 0).k ≤ 1000 := by have := hok.2.2.2.2.2; omega
  clear hok
  generalize (msgD l 0).k = K at *
  generalize drM l = m at *
  obtain ⟨n, hn⟩ : ∃ n, n = m.es.length := ⟨_, rfl⟩
  rw [← hn] at hb3 HDr
  have Hn : Hid (n = m.es.length) := hn
  clear hn hv
  have HBd : Hid (∀ (u : World) (ea : Option Addr) (ec : Nat), Dr ((w.alloc (.cells #[.int .i64 0, .int .i64 0, .int .i64 0, .int .i64 0, .int .i64 0, .int .i64 0, .int .i64 0, .int .i64 0, .int .i64 0, .slice none 0 0] 27)).alloc (.cells #[.slice a l.length cap, .int .i64 0] 54)) u (w.heap.size + 1) (.slice a l.length cap) l (K + 1) [] → OwnE u (w.heap.size + 1 + 1) (.slice ea n ec) m.es → Calls Tryz.prog 24 #[.pointer (some ⟨(w.heap.size + 1), 0, none⟩), .agg #[.int .i64 m.ki, .int .i64 m.fr, .int .i64 m.td, .int .i64 m.tm, .int .i64 m.li, .int .i64 m.lt, .int .i64 m.cm, .int .i64 m.ok, .int .i64 m.hi, .slice ea n ec]] u fun r w' => ∃ ea' ec', r = .returned (.agg #[.int .i64 (badM l (K + 1) m).1.ki, .int .i64 (badM l (K + 1) m).1.fr, .int .i64 (badM l (K + 1) m).1.td, .int .i64 (badM l (K + 1) m).1.tm, .int .i64 (badM l (K + 1) m).1.li, .int .i64 (badM l (K + 1) m).1.lt, .int .i64 (badM l (K + 1) m).1.cm, .int .i64 (badM l (K + 1) m).1.ok, .int .i64 (badM l (K + 1) m).1.hi, .slice ea' (badM l (K + 1) m).1.es.length ec']) ∧ OwnE w' (w.heap.size + 1 + 1) (.slice ea' (badM l (K + 1) m).1.es.length ec') (badM l (K + 1) m).1.es ∧ Dr ((w.alloc (.cells #[.int .i64 0, .int .i64 0, .int .i64 0, .int .i64 0, .int .i64 0, .int .i64 0, .int .i64 0, .int .i64 0, .int .i64 0, .slice none 0 0] 27)).alloc (.cells #[.slice a l.length cap, .int .i64 0] 54)) w' (w.heap.size + 1) (.slice a l.length cap) l (badM l (K + 1) m).2 [] ∧ ∀ b, b < u.heap.size → b ≠ (w.heap.size + 1) → (Value.slice ea n ec).ownBlock ≠ some b → w'.heap[b]? = u.heap[b]?) := fun u ea ec hd ho => by
    have hx := l1badMsg_any (w.heap.size + 1) ((w.alloc (.cells #[.int .i64 0, .int .i64 0, .int .i64 0, .int .i64 0, .int .i64 0, .int .i64 0, .int .i64 0, .int .i64 0, .int .i64 0, .slice none 0 0] 27)).alloc (.cells #[.slice a l.length cap, .int .i64 0] 54)) u (.slice a l.length cap) l (K + 1) m ea ec n hL (by omega) Hn.out (by omega) ⟨by omega, by omega⟩ ⟨by omega, by omega⟩ hd (by rw [Hsz.out]; exact ho)
    rw [Hsz.out] at hx
    exact hx
  generalize badM l (K + 1) m = BB at *
  obtain ⟨y, KB⟩ := BB
  dsimp only at HBd hE
  have b8 := pickV_lt l K 8 (by decide)
  obtain ⟨p, hp⟩ : ∃ p, p = pickV l K 8 := ⟨_, rfl⟩
  rw [← hp] at b8 hE
  have Hp : Hid (p = pickV l K 8) := hp
  clear hp
  have HE : Hid (encM l = if p = 0 then y else m) := hE
  generalize encM l = X at *
  clear hE
  obtain ⟨nX, hnX⟩ : ∃ n, n = X.es.length := ⟨_, rfl⟩
  rw [← hnX]
  have HnX : Hid (nX = X.es.length) := hnX
  clear hnX
  go_enter Tryz.func6, Tryz.ntmps6
  go_upto_if 9 with (first
    | (go_at_call 22; refine (HDr.out _ HS0.out).mono ?_; rintro r w3 ⟨ea, ec, rfl, ho3, hs3, hg3⟩; have HD3 : Hid (Dr ((w.alloc (.cells #[.int .i64 0, .int .i64 0, .int .i64 0, .int .i64 0, .int .i64 0, .int .i64 0, .int .i64 0, .int .i64 0, .int .i64 0, .slice none 0 0] 27)).alloc (.cells #[.slice a l.length cap, .int .i64 0] 54)) (w3.alloc (.cells #[.int .i64 m.ki, .int .i64 m.fr, .int .i64 m.td, .int .i64 m.tm, .int .i64 m.li, .int .i64 m.lt, .int .i64 m.cm, .int .i64 m.ok, .int .i64 m.hi, .slice ea n ec] 27)) (w.heap.size + 1) (.slice a l.length cap) l K [(w3.heap.size, #[.int .i64 m.ki, .int .i64 m.fr, .int .i64 m.td, .int .i64 m.tm, .int .i64 m.li, .int .i64 m.lt, .int .i64 m.cm, .int .i64 m.ok, .int .i64 m.hi, .slice ea n ec], 27)]) := ((Dr.start HS0.out).call hs3 hg3).new #[.int .i64 m.ki, .int .i64 m.fr, .int .i64 m.td, .int .i64 m.tm, .int .i64 m.li, .int .i64 m.lt, .int .i64 m.cm, .int .i64 m.ok, .int .i64 m.hi, .slice ea n ec] 27 (noU8_of rfl); have HO3 : Hid (OwnE (w3.alloc (.cells #[.int .i64 m.ki, .int .i64 m.fr, .int .i64 m.td, .int .i64 m.tm, .int .i64 m.li, .int .i64 m.lt, .int .i64 m.cm, .int .i64 m.ok, .int .i64 m.hi, .slice ea n ec] 27)) (w.heap.size + 1 + 1) (.slice ea n ec) m.es) := (ho3.le (by rw [Hsz.out]; exact Nat.le_refl _)).below ((Below.refl _ _).alloc (Nat.le_refl _) _); have hz3 := hg3.size; (rw [Hsz.out] at hz3); clear ho3 hs3 hg3)
    | (go_at_call 23; refine (HD3.out.pickG 8 hL (by omega) (by decide) (by decide)).mono ?_; rintro r w4 ⟨rfl, hd4, hg4⟩; rw [← Hp.out]; have HD4 : Hid (Dr ((w.alloc (.cells #[.int .i64 0, .int .i64 0, .int .i64 0, .int .i64 0, .int .i64 0, .int .i64 0, .int .i64 0, .int .i64 0, .int .i64 0, .slice none 0 0] 27)).alloc (.cells #[.slice a l.length cap, .int .i64 0] 54)) w4 (w.heap.size + 1) (.slice a l.length cap) l (K + 1) [(w3.heap.size, #[.int .i64 m.ki, .int .i64 m.fr, .int .i64 m.td, .int .i64 m.tm, .int .i64 m.li, .int .i64 m.lt, .int .i64 m.cm, .int .i64 m.ok, .int .i64 m.hi, .slice ea n ec], 27)]) := hd4; have HO4 : Hid (OwnE w4 (w.heap.size + 1 + 1) (.slice ea n ec) m.es) := HO3.out.grown hg4 (by omega); clear hd4 hg4))
  go_cut [9] (fun _ wx => ∃ K' xa xc, Dr ((w.alloc (.cells #[.int .i64 0, .int .i64 0, .int .i64 0, .int .i64 0, .int .i64 0, .int .i64 0, .int .i64 0, .int .i64 0, .int .i64 0, .slice none 0 0] 27)).alloc (.cells #[.slice a l.length cap, .int .i64 0] 54)) wx (w.heap.size + 1) (.slice a l.length cap) l K' [(w3.heap.size, #[.int .i64 X.ki, .int .i64 X.fr, .int .i64 X.td, .int .i64 X.tm, .int .i64 X.li, .int .i64 X.lt, .int .i64 X.cm, .int .i64 X.ok, .int .i64 X.hi, .slice xa nX xc], 27)] ∧ OwnE wx (w.heap.size + 1 + 1) (.slice xa nX xc) X.es)
  case first =>
    by_cases c0 : p = 0
    · subst c0
      rw [if_pos rfl] at HE
      have hX := HE.out
      subst hX
      rw [← HnX.out] at HBd
      go_wp2_with (first
        | (have hBA := HD4; refine gate_ld 27 (.tmp 4) rfl ?_; clear hBA; refine wpl_load_blk rfl 27 (.tmp 4) rfl (w3.heap.size) rfl (HD4.out.blk 0 rfl) Tryz.underlying27 rfl infoMsgB rfl ?_)
        | (go_at_call 24; refine (HBd.out _ ea ec HD4.out.nilF HO4.out).mono ?_; rintro r w5 ⟨xa, xc, rfl, ho5, hd5, hoth⟩; have HD5 : Hid (Dr ((w.alloc (.cells #[.int .i64 0, .int .i64 0, .int .i64 0, .int .i64 0, .int .i64 0, .int .i64 0, .int .i64 0, .int .i64 0, .int .i64 0, .slice none 0 0] 27)).alloc (.cells #[.slice a l.length cap, .int .i64 0] 54)) w5 (w.heap.size + 1) (.slice a l.length cap) l KB [(w3.heap.size, #[.int .i64 m.ki, .int .i64 m.fr, .int .i64 m.td, .int .i64 m.tm, .int .i64 m.li, .int .i64 m.lt, .int .i64 m.cm, .int .i64 m.ok, .int .i64 m.hi, .slice ea n ec], 27)]) := HD4.out.reF hd5 (one_keep HO4.out HD4.out hoth); have HO5 : Hid (OwnE w5 (w.heap.size + 1 + 1) (.slice xa nX xc) X.es) := ho5; clear ho5 hd5 hoth)
        | (have hBA := HD5; refine gate_st 27 (.tmp 4) _ rfl ?_; clear hBA; refine wpl_store_blk rfl 27 (.tmp 4) _ rfl (w3.heap.size) rfl rfl (HD5.out.blk 0 rfl) infoMsgB rfl rfl (by simp [Value.oneCell']) ?_))
      go_meet
      exact ⟨KB, xa, xc, HD5.out.row 0 rfl #[.int .i64 X.ki, .int .i64 X.fr, .int .i64 X.td, .int .i64 X.tm, .int .i64 X.li, .int .i64 X.lt, .int .i64 X.cm, .int .i64 X.ok, .int .i64 X.hi, .slice xa nX xc] (noU8_of rfl), ownE_blkM HO5.out (HD5.out.blk 0 rfl) (by decide) (setRow_keepM _ _ #[.int .i64 X.ki, .int .i64 X.fr, .int .i64 X.td, .int .i64 X.tm, .int .i64 X.li, .int .i64 X.lt, .int .i64 X.cm, .int .i64 X.ok, .int .i64 X.hi, .slice xa nX xc])⟩
    · rw [if_neg c0] at HE
      have hX := HE.out
      subst hX
      have hnn : nX = n := HnX.out.trans Hn.out.symm
      subst hnn
      have c1 : ((p : Int) == 0) = false := by rw [beq_eq_false_iff_ne]; omega
      go_wp2_with fail
      go_meet
      exact ⟨_, ea, ec, HD4.out, HO4.out⟩
  case rest =>
    obtain ⟨K', xa, xc, hd, ho⟩ := hcut
    have HDc : Hid (Dr ((w.alloc (.cells #[.int .i64 0, .int .i64 0, .int .i64 0, .int .i64 0, .int .i64 0, .int .i64 0, .int .i64 0, .int .i64 0, .int .i64 0, .slice none 0 0] 27)).alloc (.cells #[.slice a l.length cap, .int .i64 0] 54)) wc (w.heap.size + 1) (.slice a l.length cap) l K' [(w3.heap.size, #[.int .i64 X.ki, .int .i64 X.fr, .int .i64 X.td, .int .i64 X.tm, .int .i64 X.li, .int .i64 X.lt, .int .i64 X.cm, .int .i64 X.ok, .int .i64 X.hi, .slice xa nX xc], 27)]) := hd
    have HOc : Hid (OwnE wc (w.heap.size + 1 + 1) (.slice xa nX xc) X.es) := ho
    have hB1 : Blk wc w.heap.size #[.int .i64 0, .int .i64 0, .int .i64 0, .int .i64 0, .int .i64 0, .int .i64 0, .int .i64 0, .int .i64 0, .int .i64 0, .slice none 0 0] 27 := ((Blk.new w #[.int .i64 0, .int .i64 0, .int .i64 0, .int .i64 0, .int .i64 0, .int .i64 0, .int .i64 0, .int .i64 0, .int .i64 0, .slice none 0 0] 27).alloc _).grown hd.grown (by omega)
    have HB1 : Hid (Blk wc w.heap.size #[.int .i64 0, .int .i64 0, .int .i64 0, .int .i64 0, .int .i64 0, .int .i64 0, .int .i64 0, .int .i64 0, .int .i64 0, .slice none 0 0] 27) := hB1
    clear hd hB1 ho
    go_wp2_with (first
      | (have hBA := HDc; refine gate_ld 27 (.tmp 4) rfl ?_; clear hBA; refine wpl_load_blk rfl 27 (.tmp 4) rfl (w3.heap.size) rfl (HDc.out.blk 0 rfl) Tryz.underlying27 rfl infoMsgB rfl ?_)
      | (have hBA := HB1; refine gate_st 27 (.tmp 2) _ rfl ?_; clear hBA; refine wpl_store_blk rfl 27 (.tmp 2) _ rfl (w.heap.size) rfl rfl HB1.out infoMsgB rfl rfl (by simp [Value.oneCell']) ?_))
    exact bodyPost_ret (results_blk Tryz.results6 rfl (HB1.out.row _) Tryz.underlying27 rfl infoMsgB rfl) rfl ⟨xa, xc, rfl, (ownE_blkM HOc.out HB1.out (by decide) (setRow_keepM _ _ #[.int .i64 X.ki, .int .i64 X.fr, .int .i64 X.td, .int .i64 X.tm, .int .i64 X.li, .int .i64 X.lt, .int .i64 X.cm, .int .i64 X.ok, .int .i64 X.hi, .slice xa nX xc])).le (by omega), below_row (grown_belowE HDc.out.grown) (Nat.le_refl _) _⟩
end Go.Proofs.YtafmjckpbcijoaaGreatDoor

/-
  The shortest form of a number, as a list of bytes.
-/
namespace Go.Proofs.YtafmjckpbcijoaaGreatDoor
open Go.RowKit
set_option linter.unusedVariables false

/-- with so many steps at the most -/
def numA : Nat → Nat → List Int
  | 0, n => [(n : Int)]
  | f + 1, n => if n < 128 then [(n : Int)] else ((n % 128 + 128 : Nat) : Int) :: numA f (n / 128)
def numL (n : Nat) : List Int := numA n n

theorem numA_enough (f : Nat) : ∀ g n : Nat, n ≤ f → n ≤ g → numA f n = numA g n := by
  induction f with
  | zero =>
    intro g n hf hg
    have e : n = 0 := by omega
    subst e
    cases g with
    | zero => rfl
    | succ g => simp [numA]
  | succ f ih =>
    intro g n hf hg
    cases g with
    | zero =>
      have e : n = 0 := by omega
      subst e
      simp [numA]
    | succ g =>
      by_cases h : n < 128
      · simp [numA, h]
      · simp only [numA, if_neg h]
        rw [ih g (n / 128) (by omega) (by omega)]

theorem numL_small {n : Nat} (h : n < 128) : numL n = [(n : Int)] := by
  unfold numL
  cases n with
  | zero => rfl
  | succ n => simp [numA, h]
theorem numL_big {n : Nat} (h : ¬ n < 128) : numL n = ((n % 128 + 128 : Nat) : Int) :: numL (n / 128) := by
  unfold numL
  cases n with
  | zero => omega
  | succ n =>
    rw [numA, if_neg h, numA_enough n ((n + 1) / 128) ((n + 1) / 128) (by omega) (by omega)]
theorem numL_byte (n : Nat) : ∀ x ∈ numL n, 0 ≤ x ∧ x ≤ 255 := by
  induction n using Nat.strongRecOn with
  | ind n ih =>
    by_cases h : n < 128
    · rw [numL_small h]; intro x hx; simp at hx; subst hx; omega
    · rw [numL_big h]
      intro x hx
      rcases List.mem_cons.1 hx with rfl | hx
      · omega
      · exact ih (n / 128) (by omega) x hx
theorem numL_pos (n : Nat) : 0 < (numL n).length := by
  by_cases h : n < 128
  · rw [numL_small h]; simp
  · rw [numL_big h]; simp
theorem numL_len (k : Nat) : ∀ n : Nat, n < 128 ^ (k + 1) → (numL n).length ≤ k + 1 := by
  induction k with
  | zero => intro n h; rw [numL_small (by simpa using h)]; simp
  | succ k ih =>
    intro n h
    by_cases hn : n < 128
    · rw [numL_small hn]; simp
    · rw [numL_big hn, List.length_cons]
      have : n / 128 < 128 ^ (k + 1) := by
        rw [Nat.div_lt_iff_lt_mul (by decide)]
        rw [Nat.pow_succ] at h
        exact h
      have := ih _ this
      omega
theorem numL_len9 (n : Nat) (h : n < 9223372036854775808) : (numL n).length ≤ 9 := numL_len 8 n (by simpa using h)

/-- what 'byte(n) | 128' is -/
theorem or_128 (m : Nat) : bits .or .u8 ((m : Int) % 256) 128 = ((m % 128 + 128 : Nat) : Int) := by
  have e : (m : Int) % 256 = ((m % 256 : Nat) : Int) := by omega
  rw [e]
  have := u8_or_nat (m % 256) 128 (by omega) (by decide)
  refine this.trans ?_
  congr 1
  have h7 : m % 256 = m % 128 + 128 * (m / 128 % 2) := by omega
  have hj := nat_join 7 128 (m % 128) (by decide) (by omega)
  rcases (by omega : m / 128 % 2 = 0 ∨ m / 128 % 2 = 1) with h | h
  · rw [h7, h, Nat.or_comm]
    simpa [Nat.add_comm] using hj
  · have e2 : m % 256 = 128 ||| (m % 128) := by rw [hj]; omega
    rw [e2, Nat.or_comm, ← Nat.or_assoc, Nat.or_self, hj, Nat.add_comm]
end Go.Proofs.YtafmjckpbcijoaaGreatDoor

/-
  Bytes that the call lays itself: one, none.
-/
namespace Go.Proofs.YtafmjckpbcijoaaGreatDoor
open Go.RowKit
set_option linter.unusedVariables false

theorem Bs.one (w : World) (x : Int) (h : 0 ≤ x ∧ x ≤ 255) : Bs (w.alloc (.cells #[.int .u8 x] 5)) (.slice (some ⟨w.heap.size, 0, none⟩) 1 1) [x] := by
  have := (Own.lit w [x] #[.int .u8 x] rfl (by simpa using h) (by simp [maxLen])).bs (by simp [maxLen])
  simpa using this

theorem Own.lit0 (w : World) : Own (w.alloc (.cells #[] 5)) w.heap.size (.slice (some ⟨w.heap.size, 0, none⟩) 0 0) [] := Own.lit w [] #[] rfl (by simp) (by simp)

theorem Own.ne {w : World} {B : Nat} {v : Value} {l : List Int} (h : Own w B v l) {k : Nat} (hk : w.heap.size ≤ k) : v.ownBlock ≠ some k := by
  intro e
  have := (h.2.lt k e).2
  omega

end Go.Proofs.YtafmjckpbcijoaaGreatDoor

/-
  impl.putNumber, impl.putNumbers, impl.putText, impl.putWord.
-/
namespace Go.Proofs.YtafmjckpbcijoaaGreatDoor
open Go.RowKit
set_option linter.unusedVariables false

set_option maxHeartbeats 1000000 in
set_option maxRecDepth 100000 in
theorem putNumber_any (v : Value) (l : List Int) (n : Nat) (w : World) (B : Nat) (hv : Own w B v l) (hB : B ≤ w.heap.size) (hl : l.length ≤ 1000000000) (hn : n < 9223372036854775808) :
    Calls Tryz.prog 123 #[v, .int .i64 n] w fun e w' => ∃ v', e = .returned v' ∧ Own w' B v' (l ++ numL n) ∧ Grew w v w' v' := by
  go_enter Tryz.func123, Tryz.ntmps123
  go_wp2
  go_loopw [0, 1] (fun o i wr => ∃ (m : Nat) (l' : List Int), i = .int .i64 m ∧ m ≤ n ∧ Own wr B o (l ++ l') ∧ l' ++ numL m = numL n ∧ Grew w v wr o) (fun _ i _ => (intOf i).toNat)
  case atStart => exact ⟨n, [], rfl, Nat.le_refl _, by simpa using hv, by simp, Grew.refl _ _⟩
  case round =>
    obtain ⟨m, l', rfl, hmn, ho, hnum, hb⟩ := hrel
    have HN : Hid (l' ++ numL m = numL n) := hnum
    have hsz := hb.g.size
    have hlen : l'.length + (numL m).length ≤ 9 := by
      have h1 := congrArg List.length hnum
      have h2 := numL_len9 n hn
      simp at h1; omega
    have hpos := numL_pos m
    clear hnum
    by_cases hlt : m < 128
    · have HS : Hid (numL m = [(m : Int)]) := numL_small hlt
      go_wp2_with (at_builtin; refine wpl_append rfl (.tmp 15) (.tmp 18) rfl (ho.below ((Below.refl _ _).alloc (Nat.le_refl _) _)) rfl (Bs.one _ (m : Int) (by omega)) rfl (by simp) (by simp; omega) (by simp; omega) ?_; intro v' w' ho' hb')
      go_ret
      refine ⟨_, rfl, ?_, (hb.alloc _).trans hb'⟩
      rw [← HN.out, HS.out, ← List.append_assoc]
      exact ho'
    · have HS : Hid (numL m = ((m % 128 + 128 : Nat) : Int) :: numL (m / 128)) := numL_big hlt
      have hor := or_128 m
      go_wp2_with (at_builtin; refine wpl_append rfl (.tmp 7) (.tmp 11) rfl (ho.below ((Below.refl _ _).alloc (Nat.le_refl _) _)) rfl (Bs.one _ ((m % 128 + 128 : Nat) : Int) (by omega)) rfl (by simp) (by simp; omega) (by simp; omega) ?_; intro v' w' ho' hb')
      go_roundw
      case rel => exact ⟨m / 128, l' ++ [((m % 128 + 128 : Nat) : Int)], by go_num, by omega, by rw [← List.append_assoc]; exact ho', by rw [← HN.out, HS.out]; simp, (hb.alloc _).trans hb'⟩
      case measure => simp [intOf]; omega

/-- a slice of ints holds the numbers ns -/
def Ints (w : World) (v : Value) (ns : List Nat) : Prop :=
  ∃ b cap, v = .slice (some ⟨b, 0, none⟩) ns.length cap ∧ ∀ j, j < ns.length → w.cell? ⟨b, j, none⟩ = some (.int .i64 (ns[j]?.getD 0 : Nat))

def numsL (ns : List Nat) : List Int := ns.flatMap numL
theorem numsL_snoc (ns : List Nat) (k : Nat) (h : k < ns.length) : numsL (ns.take (k + 1)) = numsL (ns.take k) ++ numL (ns[k]?.getD 0) := by
  rw [List.take_succ_eq_append_getElem h, numsL, numsL, List.flatMap_append]
  simp [h]
theorem numsL_len (ns : List Nat) (h : ∀ n ∈ ns, n < 9223372036854775808) : (numsL ns).length ≤ 9 * ns.length := by
  induction ns with
  | nil => simp [numsL]
  | cons n r ih =>
    have h1 := numL_len9 n (h n (by simp))
    have h2 := ih (fun m hm => h m (by simp [hm]))
    simp only [numsL, List.flatMap_cons, List.length_append, List.length_cons] at h2 ⊢
    omega

set_option maxHeartbeats 1000000 in
set_option maxRecDepth 100000 in
theorem putNumbers_any (v : Value) (l : List Int) (ns : List Nat) (b cap : Nat) (w : World) (B : Nat) (hv : Own w B v l) (hB : B ≤ w.heap.size) (hl : l.length ≤ 900000000) (hns : ∀ n ∈ ns, n < 9223372036854775808) (hnl : ns.length ≤ 100)
    (hc : ∀ j, j < ns.length → w.cell? ⟨b, j, none⟩ = some (.int .i64 (ns[j]?.getD 0 : Nat))) (hfar : v.ownBlock ≠ some b) :
    Calls Tryz.prog 117 #[v, .slice (some ⟨b, 0, none⟩) ns.length cap] w fun e w' => ∃ v', e = .returned v' ∧ Own w' B v' (l ++ numsL ns) ∧ Grew w v w' v' := by
  go_enter Tryz.func117, Tryz.ntmps117
  go_wp2
  go_loopw [0, 9] (fun o i wr => ∃ k : Nat, k ≤ ns.length ∧ i = .int .i64 k ∧ Own wr B o (l ++ numsL (ns.take k)) ∧ Grew w v wr o) (fun _ i _ => ns.length - (intOf i).toNat)
  case atStart => exact ⟨0, Nat.zero_le _, rfl, by simpa [numsL] using hv, Grew.refl _ _⟩
  case round =>
    obtain ⟨k, hk, rfl, ho, hb⟩ := hrel
    have hsz := hb.g.size
    by_cases hlt : k < ns.length
    · have hlen := numsL_len (ns.take k) (fun n hn => hns n (List.mem_of_mem_take hn))
      rw [List.length_take] at hlen
      have hck : wr.cell? ⟨b, k, none⟩ = some (.int .i64 (ns[k]?.getD 0 : Nat)) := by rw [hb.cell (cell_lt (hc k hlt)) hfar]; exact hc k hlt
      have hn : ns[k]?.getD 0 < 9223372036854775808 := by simp [hlt]; exact hns _ (List.getElem_mem hlt)
      have HS : Hid (numsL (ns.take (k + 1)) = numsL (ns.take k) ++ numL (ns[k]?.getD 0)) := numsL_snoc ns k hlt
      generalize ns[k]?.getD 0 = n at hck hn HS
      clear hc
      go_wp2_with (go_at_call 123; refine (putNumber_any _ _ n _ B ho (by omega) (by simp; omega) hn).mono ?_; rintro e w' ⟨v', rfl, ho', hb'⟩)
      go_roundw
      case rel => exact ⟨k + 1, by omega, by go_num, by rw [HS.out, ← List.append_assoc]; exact ho', hb.trans hb'⟩
      case measure => simp [intOf]; omega
    · have e : k = ns.length := by omega
      subst e
      rw [List.take_length] at ho
      go_wp2
      go_ret
      exact ⟨_, rfl, ho, hb⟩

def textL (s : ByteArray) : List Int := numL s.size ++ strL s

set_option maxHeartbeats 1000000 in
set_option maxRecDepth 100000 in
theorem putText_any (v : Value) (l : List Int) (s : ByteArray) (w : World) (B : Nat) (hv : Own w B v l) (hB : B ≤ w.heap.size) (hl : l.length ≤ 1000000) (hs : s.size ≤ 1048576) :
    Calls Tryz.prog 126 #[v, .string s] w fun e w' => ∃ v', e = .returned v' ∧ Own w' B v' (l ++ textL s) ∧ Grew w v w' v' := by
  have h9 := numL_len9 s.size (by omega)
  have hpos := numL_pos s.size
  go_enter Tryz.func126, Tryz.ntmps126
  go_wp2_with (first
    | (go_at_call 123; refine (putNumber_any _ _ s.size _ B hv (by omega) (by omega) (by omega)).mono ?_; rintro e w1 ⟨v1, rfl, ho1, hb1⟩; have hsz := hb1.g.size)
    | (at_builtin; refine wpl_append_str rfl (.tmp 8) (.tmp 9) rfl ho1 (by simp; omega) rfl rfl (by simp; omega) (by omega) ?_; intro v2 w2 ho2 hb2))
  go_ret
  exact ⟨_, rfl, by rw [textL, ← List.append_assoc]; exact ho2, hb1.trans hb2⟩

/-- a word of four bytes, the lowest first -/
def wordL (x : Nat) : List Int := [((x % 256 : Nat) : Int), ((x / 256 % 256 : Nat) : Int), ((x / 65536 % 256 : Nat) : Int), ((x / 16777216 % 256 : Nat) : Int)]
theorem Bs.four (w : World) (x : Nat) (a b c d : Int) (ha : a = ((x % 256 : Nat) : Int)) (hb : b = ((x / 256 % 256 : Nat) : Int)) (hc : c = ((x / 65536 % 256 : Nat) : Int)) (hd : d = ((x / 16777216 % 256 : Nat) : Int)) :
    Bs (w.alloc (.cells #[.int .u8 a, .int .u8 b, .int .u8 c, .int .u8 d] 5)) (.slice (some ⟨w.heap.size, 0, none⟩) 4 4) (wordL x) := by
  subst ha hb hc hd
  have := (Own.lit w (wordL x) #[.int .u8 ((x % 256 : Nat) : Int), .int .u8 ((x / 256 % 256 : Nat) : Int), .int .u8 ((x / 65536 % 256 : Nat) : Int), .int .u8 ((x / 16777216 % 256 : Nat) : Int)] rfl (by simp only [wordL]; intro y hy; simp only [List.mem_cons, List.not_mem_nil, or_false] at hy; omega) (by simp [wordL, maxLen])).bs (by simp [wordL, maxLen])
  simpa [wordL] using this

set_option maxHeartbeats 1000000 in
set_option maxRecDepth 100000 in
theorem putWord_any (v : Value) (l : List Int) (x : Nat) (w : World) (B : Nat) (hv : Own w B v l) (hB : B ≤ w.heap.size) (hl : l.length ≤ 1000000) (hx : x < 4294967296) :
    Calls Tryz.prog 74 #[v, .int .u32 x] w fun e w' => ∃ v', e = .returned v' ∧ Own w' B v' (l ++ wordL x) ∧ Grew w v w' v' := by
  go_enter Tryz.func74, Tryz.ntmps74
  go_wp2_with (at_builtin; refine wpl_append rfl (.tmp 5) (.tmp 17) rfl (hv.below ((Below.refl _ _).alloc (Nat.le_refl _) _)) rfl (Bs.four _ x _ _ _ _ (by omega) (by omega) (by omega) (by omega)) rfl (by simp [wordL]) (by simp [wordL]; omega) (by simp; omega) ?_; intro v' w' ho' hb')
  go_ret
  exact ⟨_, rfl, ho', ((Grew.refl _ _).alloc _).trans hb'⟩

theorem textL_len (s : ByteArray) (h : s.size < 9223372036854775808) : (textL s).length ≤ 9 + s.size := by
  have := numL_len9 s.size h
  simp [textL, strL_len]; omega

theorem textL_pos (s : ByteArray) : 0 < (textL s).length := by
  have := numL_pos s.size
  simp [textL]; omega

theorem Grew.held {w w' : World} {v v' : Value} (h : Grew w v w' v') {b o : Nat} {x : Value} (hc : w.cell? ⟨b, o, none⟩ = some x) (hne : v.ownBlock ≠ some b) : w'.cell? ⟨b, o, none⟩ = some x := (h.cell (cell_lt hc) hne).trans hc
end Go.Proofs.YtafmjckpbcijoaaGreatDoor

/-
  impl.putCmd.
-/
namespace Go.Proofs.YtafmjckpbcijoaaGreatDoor
open Go.RowKit
set_option linter.unusedVariables false

def cmdL (cl sq op : Nat) (k v o : ByteArray) : List Int := numsL [cl, sq, op] ++ textL k ++ textL v ++ textL o

theorem Ints.three (w : World) (a b c : Nat) : ∀ j, j < [a, b, c].length → (w.alloc (.cells #[.int .i64 a, .int .i64 b, .int .i64 c] 3)).cell? ⟨w.heap.size, j, none⟩ = some (.int .i64 ([a, b, c][j]?.getD 0 : Nat)) := by
  intro j hj
  rw [World.cell?_alloc_new]
  match j, hj with
  | 0, _ => rfl
  | 1, _ => rfl
  | 2, _ => rfl

set_option maxHeartbeats 1000000 in
set_option maxRecDepth 100000 in
theorem putCmd_any (v : Value) (l : List Int) (cl sq op : Nat) (k vl o : ByteArray) (w : World) (B : Nat) (hv : Own w B v l) (hB : B ≤ w.heap.size) (hl : l.length ≤ 100000)
    (h1 : cl < 9223372036854775808) (h2 : sq < 9223372036854775808) (h3 : op < 9223372036854775808) (hk : k.size ≤ 64) (hvl : vl.size ≤ 64) (ho : o.size ≤ 64) :
    Calls Tryz.prog 124 #[v, .agg #[.int .i64 cl, .int .i64 sq, .int .i64 op, .string k, .string vl, .string o]] w fun e w' => ∃ v', e = .returned v' ∧ Own w' B v' (l ++ cmdL cl sq op k vl o) ∧ Grew w v w' v' := by
  have n0 := hv.ne (Nat.le_refl _)
  have n1 : v.ownBlock ≠ some (w.heap.size + 1) := hv.ne (Nat.le_succ w.heap.size)
  have hb0 : ∀ o1 o2 : Obj, Below w.heap.size w ((w.alloc o1).alloc o2) := fun o1 o2 => ((Below.refl _ _).alloc (Nat.le_refl _) _).alloc (by simp) _
  have hA : ∀ o1 o2 : Obj, Own ((w.alloc o1).alloc o2) B v l := fun o1 o2 => hv.below (hb0 o1 o2)
  have hn : (numsL [cl, sq, op]).length ≤ 27 := numsL_len [cl, sq, op] (by simp; omega)
  have t1 := textL_len k (by omega)
  have t2 := textL_len vl (by omega)
  have hI := Ints.three (w.alloc (.cells #[.int .i64 cl, .int .i64 sq, .int .i64 op, .string k, .string vl, .string o] 33)) cl sq op
  have hC := putNumbers_any v l [cl, sq, op] (w.heap.size + 1) 3 _ B (hA (.cells #[.int .i64 cl, .int .i64 sq, .int .i64 op, .string k, .string vl, .string o] 33) (.cells #[.int .i64 cl, .int .i64 sq, .int .i64 op] 3)) (by simp; omega) (by omega) (by simp; omega) (by simp) (by simpa using hI) n1
  have HC : Hid _ := hC
  clear hA hI hb0 hC
  go_enter Tryz.func124, Tryz.ntmps124
  go_wp2_with (first
    | (go_at_call 117; (refine Calls.mono HC.out ?_; clear HC; rintro e w1 ⟨v1, rfl, ho1, hg1⟩; have hz : w.heap.size < w1.heap.size := (by have := hg1.g.size; simp at this; omega); have c3 := hg1.held (b := w.heap.size) (o := 3) (x := .string k) (by simp [go_sem]) n0; have c4 := hg1.held (b := w.heap.size) (o := 4) (x := .string vl) (by simp [go_sem]) n0; have c5 := hg1.held (b := w.heap.size) (o := 5) (x := .string o) (by simp [go_sem]) n0; have f1 : v1.ownBlock ≠ some w.heap.size := hg1.far (by simp; omega) n0))
    | (go_at_call 126; refine (putText_any _ _ k _ B ho1 (by omega) (by simp; omega) (by omega)).mono ?_; rintro e w2 ⟨v2, rfl, ho2, hg2⟩; have hz2 := hg2.g.size; have d4 := hg2.held c4 f1; have d5 := hg2.held c5 f1; have f2 := hg2.far hz f1; clear ho1 c4 c5)
    | (go_at_call 126; refine (putText_any _ _ vl _ B ho2 (by omega) (by simp; omega) (by omega)).mono ?_; rintro e w3 ⟨v3, rfl, ho3, hg3⟩; have hz3 := hg3.g.size; have e5 := hg3.held d5 f2; clear ho2 d5)
    | (go_at_call 126; refine (putText_any _ _ o _ B ho3 (by omega) (by simp; omega) (by omega)).mono ?_; rintro e w4 ⟨v4, rfl, ho4, hg4⟩))
  go_ret
  refine ⟨_, rfl, ?_, ((((Grew.refl _ _).alloc _).alloc _).trans (hg1.trans (hg2.trans (hg3.trans hg4))))⟩
  simpa [cmdL, List.append_assoc] using ho4
end Go.Proofs.YtafmjckpbcijoaaGreatDoor

/-
  impl.within.
-/
namespace Go.Proofs.YtafmjckpbcijoaaGreatDoor
open Go.RowKit
set_option linter.unusedVariables false

/-- in a range, as a Bool that the walk leaves whole -/
def inB (n lo hi : Int) : Bool := decide (lo ≤ n) && decide (n ≤ hi)
theorem inB_iff (n lo hi : Int) : inB n lo hi = true ↔ lo ≤ n ∧ n ≤ hi := by simp [inB]
theorem inB_not (n lo hi : Int) : inB n lo hi = false ↔ (n < lo ∨ hi < n) := by
  by_cases h1 : lo ≤ n <;> by_cases h2 : n ≤ hi <;> simp [inB, h1, h2] <;> omega

set_option maxHeartbeats 400000 in
theorem within_any (n lo hi : Int) (w : World) :
    Calls Tryz.prog 52 #[.int .i64 n, .int .i64 lo, .int .i64 hi] w fun e w' => e = .returned (.bool (inB n lo hi)) ∧ w' = w := by
  by_cases h1 : lo ≤ n
  · by_cases h2 : n ≤ hi
    · have hb : inB n lo hi = true := by simp [inB, h1, h2]
      rw [hb]
      go_enter Tryz.func52, Tryz.ntmps52
      go_wp2
      go_ret
      exact ⟨rfl, rfl⟩
    · have hb : inB n lo hi = false := by simp [inB, h1]; omega
      rw [hb]
      go_enter Tryz.func52, Tryz.ntmps52
      go_wp2
      go_ret
      exact ⟨by simp, rfl⟩
  · have hb : inB n lo hi = false := by simp [inB]; omega
    rw [hb]
    go_enter Tryz.func52, Tryz.ntmps52
    go_wp2
    go_ret
    exact ⟨rfl, rfl⟩

end Go.Proofs.YtafmjckpbcijoaaGreatDoor

/-
  impl.limitsOf; CmdFault, both.
-/
namespace Go.Proofs.YtafmjckpbcijoaaGreatDoor
open Go.RowKit
set_option linter.unusedVariables false

/-- impl.limitsOf, as a value -/
def limV (op : Int) : Value :=
  if op = 0 then .agg #[.int .i64 0, .int .i64 0, .int .i64 0, .int .i64 0, .int .i64 0, .int .i64 0]
  else .agg #[.int .i64 1, .int .i64 8, .int .i64 1073741824, .int .i64 64, .int .i64 (if op = 2 ∨ op = 4 then 64 else 0), .int .i64 (if op = 4 then 64 else 0)]

theorem limitsOf_any (op : Int) (w : World) :
    Calls Tryz.prog 129 #[.int .i64 op] w fun e w' => e = .returned (limV op) ∧ Below w.heap.size w w' := by
  by_cases h0 : op = 0
  · subst h0
    have e : limV 0 = .agg #[.int .i64 0, .int .i64 0, .int .i64 0, .int .i64 0, .int .i64 0, .int .i64 0] := rfl
    rw [e]
    go_enter Tryz.func129, Tryz.ntmps129
    go_wp2
    exact bodyPost_ret (v := .agg #[.int .i64 0, .int .i64 0, .int .i64 0, .int .i64 0, .int .i64 0, .int .i64 0]) (by simp [results, Tryz.results129, go_sem]) rfl ⟨rfl, (Below.refl _ _).alloc (Nat.le_refl _) _⟩
  by_cases h2 : op = 2
  · subst h2
    have e : limV 2 = .agg #[.int .i64 1, .int .i64 8, .int .i64 1073741824, .int .i64 64, .int .i64 64, .int .i64 0] := rfl
    rw [e]
    go_enter Tryz.func129, Tryz.ntmps129
    go_wp2
    exact bodyPost_ret (v := .agg #[.int .i64 1, .int .i64 8, .int .i64 1073741824, .int .i64 64, .int .i64 64, .int .i64 0]) (by simp [results, Tryz.results129, go_sem]) rfl ⟨rfl, ((Below.refl _ _).alloc (Nat.le_refl _) _).alloc (by simp) _⟩
  by_cases h4 : op = 4
  · subst h4
    have e : limV 4 = .agg #[.int .i64 1, .int .i64 8, .int .i64 1073741824, .int .i64 64, .int .i64 64, .int .i64 64] := rfl
    rw [e]
    go_enter Tryz.func129, Tryz.ntmps129
    go_wp2
    exact bodyPost_ret (v := .agg #[.int .i64 1, .int .i64 8, .int .i64 1073741824, .int .i64 64, .int .i64 64, .int .i64 64]) (by simp [results, Tryz.results129, go_sem]) rfl ⟨rfl, ((Below.refl _ _).alloc (Nat.le_refl _) _).alloc (by simp) _⟩
  · have e : limV op = .agg #[.int .i64 1, .int .i64 8, .int .i64 1073741824, .int .i64 64, .int .i64 0, .int .i64 0] := by simp [limV, h0, h2, h4]
    rw [e]
    have n2 : (op == 2) = false := by simpa using h2
    have n4 : (op == 4) = false := by simpa using h4
    go_enter Tryz.func129, Tryz.ntmps129
    go_wp2
    all_goals exact bodyPost_ret (v := .agg #[.int .i64 1, .int .i64 8, .int .i64 1073741824, .int .i64 64, .int .i64 0, .int .i64 0]) (by simp [results, Tryz.results129, go_sem]) rfl ⟨rfl, ((Below.refl _ _).alloc (Nat.le_refl _) _).alloc (by simp) _⟩

/-- the fault of a command -/
def cmdF (cl sq op : Int) (k v o : Int) : Int :=
  if op < 0 ∨ 4 < op then 1
  else if op = 0 then (if cl ≠ 0 then 2 else if sq ≠ 0 then 3 else if k ≠ 0 then 4 else if v ≠ 0 then 5 else if o ≠ 0 then 6 else 0)
  else if cl < 1 ∨ 8 < cl then 2 else if sq < 1 ∨ 1073741824 < sq then 3 else if k < 1 ∨ 64 < k then 4
  else if (if op = 2 ∨ op = 4 then 64 else 0) < v then 5 else if (if op = 4 then 64 else 0) < o then 6 else 0



def implF (cl sq op k v o l0 l1 l2 l3 l4 l5 : Int) : Int :=
  if inB op 0 4 = false then 1 else if inB cl l0 l1 = false then 2 else if inB sq l0 l2 = false then 3 else if inB k l0 l3 = false then 4 else if l4 < v then 5 else if l5 < o then 6 else 0

set_option maxHeartbeats 1000000 in
theorem implCF_lim (cl sq op : Int) (k v o : ByteArray) (l0 l1 l2 l3 l4 l5 : Int) (hlim : limV op = .agg #[.int .i64 l0, .int .i64 l1, .int .i64 l2, .int .i64 l3, .int .i64 l4, .int .i64 l5])
    (hk : k.size ≤ maxLen) (hv : v.size ≤ maxLen) (ho : o.size ≤ maxLen) (w : World) :
    Calls Tryz.prog 128 #[.agg #[.int .i64 cl, .int .i64 sq, .int .i64 op, .string k, .string v, .string o]] w fun e w' =>
      e = .returned (.int .i64 (implF cl sq op k.size v.size o.size l0 l1 l2 l3 l4 l5)) ∧ Below w.heap.size w w' := by
  unfold maxLen at hk hv ho
  have HL : Hid (limV op = .agg #[.int .i64 l0, .int .i64 l1, .int .i64 l2, .int .i64 l3, .int .i64 l4, .int .i64 l5]) := hlim
  clear hlim
  go_enter Tryz.func128, Tryz.ntmps128
  go_wp2_with (first
    | (go_at_call 129; refine (limitsOf_any _ _).mono ?_; rintro e w1 ⟨rfl, hb⟩; rw [HL.out]; obtain ⟨hc, hf⟩ := bcell hb; have hz : w.heap.size < w1.heap.size := (by have := hb.size; simp at this; omega))
    | (go_at_call 52; refine (within_any _ _ _ _).mono ?_; rintro e w' ⟨rfl, rfl⟩))
  all_goals go_ret
  all_goals refine ⟨ret_int ?_, (((Below.refl _ _).alloc (Nat.le_refl _) _).trans (hb.mono (by simp))).alloc (by omega) _⟩
  all_goals (clear hb hc hf HL; go_light; simp_all [implF]; try omega)

theorem implF_zero (cl sq k v o : Int) (hk : 0 ≤ k) (hv : 0 ≤ v) (ho : 0 ≤ o) : implF cl sq 0 k v o 0 0 0 0 0 0 = cmdF cl sq 0 k v o := by
  unfold implF cmdF
  simp only [inB_not]
  rw [if_neg (by omega : ¬ ((0 : Int) < 0 ∨ (4 : Int) < 0)), if_neg (by omega : ¬ ((0 : Int) < 0 ∨ (4 : Int) < 0)), if_pos trivial]
  exact ifc (by omega) rfl (ifc (by omega) rfl (ifc (by omega) rfl (ifc (by omega) rfl (ifc (by omega) rfl rfl))))
theorem implF_pos (cl sq op k v o : Int) (h : op ≠ 0) : implF cl sq op k v o 1 8 1073741824 64 (if op = 2 ∨ op = 4 then 64 else 0) (if op = 4 then 64 else 0) = cmdF cl sq op k v o := by
  unfold implF cmdF
  simp only [inB_not]
  rw [if_neg h]

theorem implCmdFault_any (cl sq op : Int) (k v o : ByteArray) (hk : k.size ≤ maxLen) (hv : v.size ≤ maxLen) (ho : o.size ≤ maxLen) (w : World) :
    Calls Tryz.prog 128 #[.agg #[.int .i64 cl, .int .i64 sq, .int .i64 op, .string k, .string v, .string o]] w fun e w' =>
      e = .returned (.int .i64 (cmdF cl sq op k.size v.size o.size)) ∧ Below w.heap.size w w' := by
  by_cases h : op = 0
  · subst h
    rw [← implF_zero _ _ _ _ _ (Int.natCast_nonneg _) (Int.natCast_nonneg _) (Int.natCast_nonneg _)]
    exact implCF_lim cl sq 0 k v o 0 0 0 0 0 0 rfl hk hv ho w
  · rw [← implF_pos _ _ _ _ _ _ h]
    exact implCF_lim cl sq op k v o _ _ _ _ _ _ (by simp [limV, h]) hk hv ho w

set_option maxHeartbeats 2000000 in
theorem specCmdFault_any (cl sq op : Int) (k v o : ByteArray) (hk : k.size ≤ maxLen) (hv : v.size ≤ maxLen) (ho : o.size ≤ maxLen) (w : World) :
    Calls Tryz.prog 11 #[.agg #[.int .i64 cl, .int .i64 sq, .int .i64 op, .string k, .string v, .string o]] w fun e w' =>
      e = .returned (.int .i64 (cmdF cl sq op k.size v.size o.size)) ∧ Below w.heap.size w w' := by
  unfold maxLen at hk hv ho
  go_enter Tryz.func11, Tryz.ntmps11
  go_wp2
  all_goals go_ret
  all_goals refine ⟨ret_int ?_, (Below.refl _ _).alloc (Nat.le_refl _) _⟩
  all_goals go_light
  all_goals (try (simp only [beq_iff_eq, beq_eq_false_iff_ne, bne_iff_ne, bne_eq_false_iff_eq, ne_eq] at *))
  all_goals first | (exfalso; omega) | (unfold cmdF; repeat (first | rfl | rw [if_pos (by omega)] | rw [if_neg (by omega)]))
end Go.Proofs.YtafmjckpbcijoaaGreatDoor

/-
  impl.entryFits, spec.l1entryOk.
-/
namespace Go.Proofs.YtafmjckpbcijoaaGreatDoor
open Go.RowKit
set_option linter.unusedVariables false

theorem ret_bool {a b : Bool} (h : a = b) : Ending.returned (.bool a) = .returned (.bool b) := by rw [h]

/-- is an entry well-formed? -/
def entB (e : Ent) : Bool := inB e.t 1 1073741824 && (cmdF e.cl e.sq e.op e.k.size e.v.size e.o.size == 0)

set_option maxHeartbeats 2000000 in
theorem entryFits_any (e : Ent) (hf : e.fits) (w : World) :
    Calls Tryz.prog 127 #[.agg #[.int .i64 e.t, .int .i64 e.cl, .int .i64 e.sq, .int .i64 e.op, .string e.k, .string e.v, .string e.o]] w fun r w' => r = .returned (.bool (entB e)) ∧ Below w.heap.size w w' := by
  obtain ⟨h1, h2, h3⟩ := hf
  go_enter Tryz.func127, Tryz.ntmps127
  go_wp2_with (first
    | (go_at_call 52; refine (within_any _ _ _ _).mono ?_; rintro r w' ⟨rfl, rfl⟩)
    | (go_at_call 128; refine (implCmdFault_any e.cl e.sq e.op e.k e.v e.o h1 h2 h3 _).mono ?_; rintro r w1 ⟨rfl, hb⟩))
  · go_ret
    exact ⟨ret_bool (by go_light; simp_all [entB]), ((Below.refl _ _).alloc (Nat.le_refl _) _).trans (hb.mono (by simp))⟩
  · go_ret
    exact ⟨ret_bool (by go_light; simp_all [entB]), (Below.refl _ _).alloc (Nat.le_refl _) _⟩

set_option maxHeartbeats 2000000 in
theorem entryOk_any (e : Ent) (hf : e.fits) (w : World) :
    Calls Tryz.prog 51 #[.agg #[.int .i64 e.t, .int .i64 e.cl, .int .i64 e.sq, .int .i64 e.op, .string e.k, .string e.v, .string e.o]] w fun r w' => r = .returned (.bool (entB e)) ∧ Below w.heap.size w w' := by
  obtain ⟨h1, h2, h3⟩ := hf
  by_cases t1 : 1 ≤ e.t
  · by_cases t2 : e.t ≤ 1073741824
    · have hin : inB e.t 1 1073741824 = true := (inB_iff _ _ _).2 ⟨t1, t2⟩
      go_enter Tryz.func51, Tryz.ntmps51
      go_wp2_with (go_at_call 11; refine (specCmdFault_any e.cl e.sq e.op e.k e.v e.o h1 h2 h3 _).mono ?_; rintro r w1 ⟨rfl, hb⟩)
      go_ret
      exact ⟨ret_bool (by rw [entB, hin]; simp), ((Below.refl _ _).alloc (Nat.le_refl _) _).trans (hb.mono (by simp))⟩
    · have hin : inB e.t 1 1073741824 = false := (inB_not _ _ _).2 (by omega)
      have hd : decide (e.t ≤ 1073741824) = false := by simpa using t2
      go_enter Tryz.func51, Tryz.ntmps51
      go_wp2_with (go_at_call 11; refine (specCmdFault_any e.cl e.sq e.op e.k e.v e.o h1 h2 h3 _).mono ?_; rintro r w1 ⟨rfl, hb⟩)
      go_ret
      exact ⟨ret_bool (by rw [entB, hin]; simp), (Below.refl _ _).alloc (Nat.le_refl _) _⟩
  · have hin : inB e.t 1 1073741824 = false := (inB_not _ _ _).2 (by omega)
    have hd : decide (1 ≤ e.t) = false := by simpa using t1
    go_enter Tryz.func51, Tryz.ntmps51
    go_wp2_with (go_at_call 11; refine (specCmdFault_any e.cl e.sq e.op e.k e.v e.o h1 h2 h3 _).mono ?_; rintro r w1 ⟨rfl, hb⟩)
    go_ret
    exact ⟨ret_bool (by rw [entB, hin]; simp), (Below.refl _ _).alloc (Nat.le_refl _) _⟩

/-- every entry well-formed, no term below the one ahead of it, all up tq high -/
def fitL (high : Int) : Int → List Ent → Bool
  | _, [] => true
  | low, e :: r => entB e && inB e.t low high && fitL high e.t r

theorem fitL_drop (high low : Int) (l : List Ent) (k : Nat) (h : k < l.length) : fitL high low (l.drop k) = (entB l[k] && inB l[k].t low high && fitL high l[k].t (l.drop (k + 1))) := by
  rw [List.drop_eq_getElem_cons h]
  rfl
end Go.Proofs.YtafmjckpbcijoaaGreatDoor

/-
  append at a step of a region that draws its order.
-/
namespace Go.Proofs.YtafmjckpbcijoaaGreatDoor
open Go.RowKit
set_option linter.unusedVariables false

theorem Bs.cell1 {w : World} {b : Nat} {x : Int} (h : w.cell? ⟨b, 0, none⟩ = some (.int .u8 x)) (h8 : 0 ≤ x ∧ x ≤ 255) : Bs w (.slice (some ⟨b, 0, none⟩) 1 1) [x] :=
  ⟨by simp [maxLen], by simpa using h8, _, _, rfl, fun i hi => ⟨b, 0, rfl, fun j hj => by
    have : j = 0 := by simp at hj; omega
    subst this
    simpa using h⟩⟩

set_option maxRecDepth 100000 in
theorem wp_append {w : World} {o : Oper} {a : Act} {K : Act → World → Prop} {Q : Exit → Act → World → Prop} (s x : Operand)
    (ho : o.op = .call { callee := .builtin .append, args := #[s, x], argTypes := #[22, 22] })
    {B : Nat} {v u : Value} {l l2 : List Int} (hown : Own w B v l) (hs : a.eval s = v) (hu : Bs w u l2) (hx : a.eval x = u) (hne : 0 < l2.length) (hlen : l.length + l2.length ≤ 1073741824) (hB : B ≤ w.heap.size)
    (h : ∀ v' w', Own w' B v' (l ++ l2) → Grew w v w' v' → K (a.put o.dst v') w') : o.wp Tryz.prog a w K Q := by
  obtain ⟨i0, hi, hz0, hz1, hz2⟩ := info_parts infoU8
  obtain ⟨_, h8, au, cu, rfl, hc⟩ := hu
  obtain ⟨b, off, rfl, hcell⟩ := hc 0 hne
  refine wp_append_lies w s x 22 ho B 5 i0 (.int .u8 0) 1 1 Tryz.underlying22 hi hz0 hz1 hz2 rfl (by decide) v l.length _ hs hown.2 ⟨b, off, none⟩ l2.length cu (l2.map (Value.int .u8)) hx (by simp) ?_ ?_ hne (by unfold maxLen; omega) (by omega) hB _ rfl ?_
  · intro j u hj
    rw [cell_add]
    rw [List.getElem?_map] at hj
    cases hk : l2[j]? with
    | none => rw [hk] at hj; cases hj
    | some y =>
      rw [hk] at hj
      have hjl : j < l2.length := by
        rcases Nat.lt_or_ge j l2.length with h' | h'
        · exact h'
        · rw [List.getElem?_eq_none h'] at hk; cases hk
      rw [hcell j hjl, hk]
      exact hj
  · intro u hu
    simp only [List.mem_map] at hu
    obtain ⟨y, _, rfl⟩ := hu
    rfl
  · intro g cap w' h2 h3 h5 _
    refine h _ w' ⟨fun y hy => ?_, by simpa using h2⟩ ⟨h3, h5.imp (fun e => e.symm) fun e => ⟨_, rfl, by show w.heap.size ≤ g; omega⟩⟩
    rcases List.mem_append.1 hy with hy | hy
    · exact hown.1 y hy
    · exact h8 y hy
set_option maxRecDepth 100000 in
theorem stp_append {w : World} {ops : Array Oper} {o : Oper} {a : Act} {K : Act → World → Prop} {Q : Exit → Act → World → Prop} {E : Prop} (hgd : o.guard = none) (s x : Operand)
    (ho : o.op = .call { callee := .builtin .append, args := #[s, x], argTypes := #[22, 22] })
    {B : Nat} {v u : Value} {l l2 : List Int} (hown : Own w B v l) (hs : a.eval s = v) (hu : Bs w u l2) (hx : a.eval x = u) (hne : 0 < l2.length) (hlen : l.length + l2.length ≤ 1073741824) (hB : B ≤ w.heap.size)
    (h : ∀ v' w', Own w' B v' (l ++ l2) → Grew w v w' v' → K (a.put o.dst v') w') : if Region.wanted o (yielded ops a.tmps) = true then Oper.wp Tryz.prog o a w K Q else E := by
  have hw : Region.wanted o (yielded ops a.tmps) = true := by simp [Region.wanted, hgd]
  rw [if_pos hw]
  exact wp_append s x ho hown hs hu hx hne hlen hB h
end Go.Proofs.YtafmjckpbcijoaaGreatDoor

/-
  impl.putEntry; the bytes of entries.
-/
namespace Go.Proofs.YtafmjckpbcijoaaGreatDoor
open Go.RowKit
set_option linter.unusedVariables false

def entN (t cl sq op : Nat) (k v o : ByteArray) : List Int := numL t ++ cmdL cl sq op k v o
def entL (e : Ent) : List Int := entN e.t.toNat e.cl.toNat e.sq.toNat e.op.toNat e.k e.v e.o
def entsL (l : List Ent) : List Int := l.flatMap entL

set_option maxHeartbeats 4000000 in
set_option maxRecDepth 100000 in
theorem putEntry_nat (v : Value) (l : List Int) (t cl sq op : Nat) (k vl o : ByteArray) (w : World) (B : Nat) (hv : Own w B v l) (hB : B ≤ w.heap.size) (hl : l.length ≤ 90000) (h0 : t < 9223372036854775808) (h1 : cl < 9223372036854775808) (h2 : sq < 9223372036854775808) (h3 : op < 9223372036854775808) (hk : k.size ≤ 64) (hvl : vl.size ≤ 64) (ho : o.size ≤ 64) :
    Calls Tryz.prog 118 #[v, .agg #[.int .i64 t, .int .i64 cl, .int .i64 sq, .int .i64 op, .string k, .string vl, .string o]] w fun e w' => ∃ v', e = .returned v' ∧ Own w' B v' (l ++ entN t cl sq op k vl o) ∧ Grew w v w' v' := by
  have n0 := hv.ne (Nat.le_refl _)
  have h9 := numL_len9 t h0
  have hv1 : Own (w.alloc (.cells #[.int .i64 t, .int .i64 cl, .int .i64 sq, .int .i64 op, .string k, .string vl, .string o] 87)).drew B v l := hv.below (((Below.refl _ _).alloc (Nat.le_refl _) _).drew)
  go_enter Tryz.func118, Tryz.ntmps118
  go_wp2
  go_region_held3 (fun w' => w'.cell? ⟨w.heap.size, 0, none⟩ = some (.int .i64 t) ∧ w'.cell? ⟨w.heap.size, 1, none⟩ = some (.int .i64 cl) ∧ w'.cell? ⟨w.heap.size, 2, none⟩ = some (.int .i64 sq) ∧ w'.cell? ⟨w.heap.size, 3, none⟩ = some (.int .i64 op) ∧ w'.cell? ⟨w.heap.size, 4, none⟩ = some (.string k) ∧ w'.cell? ⟨w.heap.size, 5, none⟩ = some (.string vl) ∧ w'.cell? ⟨w.heap.size, 6, none⟩ = some (.string o)) (simp [*, go_sem])
    (first
      | (go_at_call 123; refine (putNumber_any _ _ t _ B hv1 (by simp; omega) (by omega) h0).mono ?_; rintro e w1 ⟨v1, rfl, ho1, hg1⟩; have hz1 : w.heap.size < w1.heap.size := (by have := hg1.g.size; simp at this; omega); have q1 := fun (o : Nat) => hg1.cell (k := w.heap.size) (o := o) (by simp) n0; have f1 : v1.ownBlock ≠ some w.heap.size := hg1.far (by simp) n0)
      | (go_at_call 124; refine (putCmd_any _ _ cl sq op k vl o _ B ho1 (by omega) (by simp; omega) h1 h2 h3 hk hvl ho).mono ?_; rintro e w2 ⟨v2, rfl, ho2, hg2⟩; have q2 := fun (o : Nat) => hg2.cell (k := w.heap.size) (o := o) hz1 f1))
  all_goals go_wp2
  all_goals go_ret
  all_goals refine ⟨_, rfl, by simpa [entN, List.append_assoc] using ho2, Grew.trans (Grew.of_below (((Below.refl _ _).alloc (Nat.le_refl _) _).drew)) (hg1.trans hg2)⟩

theorem entN_len (t cl sq op : Nat) (k vl o : ByteArray) (h0 : t < 9223372036854775808) (h1 : cl < 9223372036854775808) (h2 : sq < 9223372036854775808) (h3 : op < 9223372036854775808) (hk : k.size ≤ 64) (hvl : vl.size ≤ 64) (ho : o.size ≤ 64) : 0 < (entN t cl sq op k vl o).length ∧ (entN t cl sq op k vl o).length ≤ 320 := by
  have h9 := numL_len9 t h0
  have hp := numL_pos t
  have hn : (numsL [cl, sq, op]).length ≤ 27 := numsL_len [cl, sq, op] (by simp; omega)
  have t1 := textL_len k (by omega)
  have t2 := textL_len vl (by omega)
  have t3 := textL_len o (by omega)
  simp only [entN, cmdL, List.length_append]
  omega

theorem cmdF_fits {cl sq op k v o : Int} (h : cmdF cl sq op k v o = 0) : 0 ≤ cl ∧ cl ≤ 8 ∧ 0 ≤ sq ∧ sq ≤ 1073741824 ∧ 0 ≤ op ∧ op ≤ 4 ∧ k ≤ 64 ∧ v ≤ 64 ∧ o ≤ 64 := by
  unfold cmdF at h
  by_cases h1 : op < 0 ∨ 4 < op
  · rw [if_pos h1] at h; omega
  rw [if_neg h1] at h
  by_cases h2 : op = 0
  · rw [if_pos h2] at h
    repeat' split at h
    all_goals omega
  · rw [if_neg h2] at h
    repeat' split at h
    all_goals omega
/-- a well-formed entry, in plain numbers -/
theorem entB_nat {e : Ent} (h : entB e = true) : ∃ (t cl sq op : Nat) (k vl o : ByteArray), e = ⟨t, cl, sq, op, k, vl, o⟩ ∧ t < 9223372036854775808 ∧ cl < 9223372036854775808 ∧ sq < 9223372036854775808 ∧ op < 9223372036854775808 ∧ k.size ≤ 64 ∧ vl.size ≤ 64 ∧ o.size ≤ 64 ∧ entL e = entN t cl sq op k vl o := by
  obtain ⟨t, cl, sq, op, k, vl, o⟩ := e
  simp only [entB, Bool.and_eq_true, inB_iff, beq_iff_eq] at h
  obtain ⟨⟨ht, ht'⟩, hc⟩ := h
  obtain ⟨a1, a2, a3, a4, a5, a6, a7, a8, a9⟩ := cmdF_fits hc
  obtain ⟨t, rfl⟩ := Int.eq_ofNat_of_zero_le (show 0 ≤ t by omega)
  obtain ⟨cl, rfl⟩ := Int.eq_ofNat_of_zero_le a1
  obtain ⟨sq, rfl⟩ := Int.eq_ofNat_of_zero_le a3
  obtain ⟨op, rfl⟩ := Int.eq_ofNat_of_zero_le a5
  exact ⟨t, cl, sq, op, k, vl, o, rfl, by omega, by omega, by omega, by omega, by omega, by omega, by omega, by simp [entL]⟩

theorem fitL_all {high : Int} : ∀ (l : List Ent) (low : Int), fitL high low l = true → ∀ e ∈ l, entB e = true
  | [], _, _, e, he => by cases he
  | x :: r, low, h, e, he => by
    simp only [fitL, Bool.and_eq_true] at h
    rcases List.mem_cons.1 he with rfl | he
    · exact h.1.1
    · exact fitL_all r x.t h.2 e he

theorem entsL_snoc (l : List Ent) (k : Nat) (h : k < l.length) : entsL (l.take (k + 1)) = entsL (l.take k) ++ entL l[k] := by
  rw [List.take_succ_eq_append_getElem h, entsL, entsL, List.flatMap_append]
  simp
theorem entsL_len (l : List Ent) (h : ∀ e ∈ l, entB e = true) : (entsL l).length ≤ 320 * l.length := by
  induction l with
  | nil => simp [entsL]
  | cons e r ih =>
    have h2 := ih (fun m hm => h m (by simp [hm]))
    obtain ⟨t, cl, sq, op, k, vl, o, rfl, b0, b1, b2, b3, b4, b5, b6, hE⟩ := entB_nat (h e (by simp))
    have h3 := (entN_len t cl sq op k vl o b0 b1 b2 b3 b4 b5 b6).2
    simp only [entsL, List.flatMap_cons, List.length_append, List.length_cons, hE] at h2 ⊢
    omega
end Go.Proofs.YtafmjckpbcijoaaGreatDoor

/-
  The check sum: the program's and the specification's, over one plain function of lists.
-/
namespace Go.Proofs.YtafmjckpbcijoaaGreatDoor
open Go.RowKit
set_option linter.unusedVariables false

def stepN (r : Nat) : Nat := if r % 2 = 1 then (r / 2) ^^^ 3988292384 else r / 2
def stepsN : Nat → Nat → Nat
  | 0, r => r
  | n + 1, r => stepN (stepsN n r)
/-- the register behind the first k bytes -/
def crcSt (l : List Int) : Nat → Nat
  | 0 => 4294967295
  | k + 1 => stepsN 8 (crcSt l k ^^^ (l[k]?.getD 0).toNat)

theorem stepN_lt (q : Nat) (h : q < 4294967296) : stepN q < 4294967296 := by
  unfold stepN
  split
  · exact Nat.xor_lt_two_pow (n := 32) (by omega) (by decide)
  · omega
theorem stepsN_lt (n q : Nat) (h : q < 4294967296) : stepsN n q < 4294967296 := by
  induction n with
  | zero => exact h
  | succ n ih => exact stepN_lt _ ih
theorem xor_lt (a b : Nat) (ha : a < 4294967296) (hb : b < 4294967296) : a ^^^ b < 4294967296 := Nat.xor_lt_two_pow (n := 32) ha hb
theorem crcSt_lt (l : List Int) (h8 : ∀ x ∈ l, 0 ≤ x ∧ x ≤ 255) (k : Nat) : crcSt l k < 4294967296 := by
  induction k with
  | zero => exact (by decide : (4294967295 : Nat) < 4294967296)
  | succ k ih =>
    have := byte_at h8 k
    exact stepsN_lt _ _ (xor_lt _ _ ih (by omega))

theorem bit0 (q : Nat) (hq : q < 4294967296) : bits .and .u32 (q : Int) 1 = ((q % 2 : Nat) : Int) := by
  have := u32_and_nat q 1 hq (by decide)
  rw [Nat.and_one_is_mod] at this
  exact this
theorem i1 (q : Nat) (hq : q < 4294967296) (h : (bits .and .u32 (q : Int) 1 == 1) = true) : bits .xor .u32 ((q : Int) / 2) 3988292384 = ((stepN q : Nat) : Int) := by
  rw [bit0 q hq] at h
  have h' : q % 2 = 1 := by simp at h; omega
  have := u32_xor_nat (q / 2) 3988292384 (by omega) (by decide)
  rw [stepN, if_pos h']
  rw [← this]
  congr 1
theorem i0 (q : Nat) (hq : q < 4294967296) (h : (bits .and .u32 (q : Int) 1 == 1) = false) : (q : Int) / 2 = ((stepN q : Nat) : Int) := by
  rw [bit0 q hq] at h
  have h' : ¬ q % 2 = 1 := by simp at h; omega
  rw [stepN, if_neg h']
  rfl
theorem x0 (r : Nat) (c : Int) (hr : r < 4294967296) (h0 : 0 ≤ c) (h1 : c ≤ 255) : bits .xor .u32 (r : Int) c = ((r ^^^ c.toNat : Nat) : Int) := by
  have e : c = (c.toNat : Int) := by omega
  have := u32_xor_nat r c.toNat hr (by omega)
  rw [← e] at this
  exact this

theorem xor_max (r : Nat) (hr : r < 4294967296) : bits .xor .u32 (r : Int) 4294967295 = ((r ^^^ 4294967295 : Nat) : Int) := u32_xor_nat r 4294967295 hr (by decide)
theorem max_xor (r : Nat) (hr : r < 4294967296) : bits .xor .u32 IntKind.u32.max (r : Int) = ((r ^^^ 4294967295 : Nat) : Int) := by
  rw [Nat.xor_comm]
  exact u32_xor_nat 4294967295 r (by decide) hr

/-! the specification's step: its register is the program's, with the rest of the byte taken out again -/
theorem low_eq (S d r : Nat) (hr : r = S ^^^ d) (hr' : r < 4294967296) (hd : d < 4294967296) :
    bits .and .u32 (bits .xor .u32 (r : Int) (bits .and .u32 (d : Int) 1)) 1 = ((S % 2 : Nat) : Int) := by
  rw [bit0 d hd, u32_xor_nat r (d % 2) hr' (by omega), bit0 _ (xor_lt _ _ hr' (by omega))]
  congr 1
  subst hr
  have m2 : ∀ a b : Nat, (a ^^^ b) % 2 = (a % 2) ^^^ (b % 2) := fun a b => Nat.xor_mod_two_pow (n := 1)
  rw [m2, m2, Nat.mod_mod, Nat.xor_assoc, Nat.xor_self, Nat.xor_zero]
theorem half_xor (S d : Nat) : (S ^^^ d) / 2 = (S / 2) ^^^ (d / 2) := by
  have := Nat.shiftRight_xor_distrib (a := S) (b := d) (i := 1)
  simpa [Nat.shiftRight_eq_div_pow] using this
theorem half_pow (c j : Nat) : c / 2 ^ j / 2 = c / 2 ^ (j + 1) := by rw [Nat.div_div_eq_div_mul, Nat.pow_succ]
theorem byte_shift (c : Int) (j : Nat) (h0 : 0 ≤ c) (h1 : c ≤ 255) : c / 2 ^ j % 4294967296 = ((c.toNat / 2 ^ j : Nat) : Int) := by
  obtain ⟨n, rfl⟩ := Int.eq_ofNat_of_zero_le h0
  have h : n / 2 ^ j ≤ n := Nat.div_le_self _ _
  have e : ((n : Int) / 2 ^ j) = ((n / 2 ^ j : Nat) : Int) := by simp
  rw [e]
  simp only [Int.toNat_natCast]
  generalize n / 2 ^ j = d at h
  omega
theorem s1 (S c : Nat) (j : Nat) (lk : Int) (h0 : 0 ≤ lk) (h1 : lk ≤ 255) (hc : c = lk.toNat) (hS : S < 4294967296)
    (h : (bits .and .u32 (bits .xor .u32 ((S ^^^ c / 2 ^ j : Nat) : Int) (bits .and .u32 (lk / 2 ^ j % 4294967296) 1)) 1 == 1) = true) :
    bits .xor .u32 (((S ^^^ c / 2 ^ j : Nat) : Int) / 2) 3988292384 = ((stepN S ^^^ c / 2 ^ (j + 1) : Nat) : Int) := by
  have hd : c / 2 ^ j ≤ c := Nat.div_le_self _ _
  have hlt := xor_lt S (c / 2 ^ j) hS (by omega)
  rw [byte_shift lk j h0 h1, ← hc, low_eq S (c / 2 ^ j) _ rfl hlt (by omega)] at h
  have h' : S % 2 = 1 := by simp at h; omega
  rw [stepN, if_pos h', ← half_pow]
  have := u32_xor_nat ((S ^^^ c / 2 ^ j) / 2) 3988292384 (by omega) (by decide)
  rw [half_xor] at this
  have e : ((S ^^^ c / 2 ^ j : Nat) : Int) / 2 = (((S / 2) ^^^ (c / 2 ^ j / 2) : Nat) : Int) := by rw [← half_xor]; rfl
  rw [e]
  refine this.trans ?_
  congr 1
  rw [Nat.xor_assoc, Nat.xor_comm (c / 2 ^ j / 2), ← Nat.xor_assoc]
theorem s0 (S c : Nat) (j : Nat) (lk : Int) (h0 : 0 ≤ lk) (h1 : lk ≤ 255) (hc : c = lk.toNat) (hS : S < 4294967296)
    (h : (bits .and .u32 (bits .xor .u32 ((S ^^^ c / 2 ^ j : Nat) : Int) (bits .and .u32 (lk / 2 ^ j % 4294967296) 1)) 1 == 1) = false) :
    ((S ^^^ c / 2 ^ j : Nat) : Int) / 2 = ((stepN S ^^^ c / 2 ^ (j + 1) : Nat) : Int) := by
  have hd : c / 2 ^ j ≤ c := Nat.div_le_self _ _
  have hlt := xor_lt S (c / 2 ^ j) hS (by omega)
  rw [byte_shift lk j h0 h1, ← hc, low_eq S (c / 2 ^ j) _ rfl hlt (by omega)] at h
  have h' : ¬ S % 2 = 1 := by simp at h; omega
  rw [stepN, if_neg h', ← half_pow, ← half_xor]
  rfl
end Go.Proofs.YtafmjckpbcijoaaGreatDoor

/-
  The walks of both Crc32 and of the law FnExactCrc32.
-/
namespace Go.Proofs.YtafmjckpbcijoaaGreatDoor
open Go.RowKit
set_option linter.unusedVariables false

/-- the check sum -/
def crcOf (l : List Int) : Nat := crcSt l l.length ^^^ 4294967295

set_option maxHeartbeats 1000000 in
theorem implCrc_any (v : Value) (l : List Int) (w : World) (hv : Bs w v l) :
    Calls Tryz.prog 75 #[v] w fun e w' => e = .returned (.int .u32 (crcOf l : Nat)) ∧ w' = w := by
  obtain ⟨hl, h8, a, cap, rfl, hc⟩ := hv
  unfold maxLen at hl
  go_enter Tryz.func75, Tryz.ntmps75
  go_wp2
  go_loop [3, 9] (fun s i => ∃ k : Nat, k ≤ l.length ∧ i = .int .i64 k ∧ s = .int .u32 (crcSt l k : Nat)) (fun _ i => l.length - (intOf i).toNat)
  case atStart => exact ⟨0, Nat.zero_le _, rfl, rfl⟩
  case round =>
    obtain ⟨k, hk, rfl, rfl⟩ := hrel
    have hr := crcSt_lt l h8 k
    by_cases hlt : k < l.length
    · obtain ⟨b, off, rfl, hcell⟩ := hc k hlt
      have hck := hcell k hlt
      have h8k := byte_at h8 k
      have hx := x0 (crcSt l k) _ hr h8k.1 h8k.2
      have hS : Hid (crcSt l (k + 1) = stepsN 8 (crcSt l k ^^^ (l[k]?.getD 0).toNat)) := rfl
      have hs0 := xor_lt (crcSt l k) (l[k]?.getD 0).toNat hr (by omega)
      generalize hg : crcSt l k ^^^ (l[k]?.getD 0).toNat = s0 at hx hS hs0
      have eg : l[k]?.getD 0 = l[k] := by simp [hlt]
      rw [eg] at hx h8k hck
      clear hcell hc hg eg
      go_wp2
      go_loop [3, 17] (fun s i => ∃ j : Nat, j ≤ 8 ∧ i = .int .i64 j ∧ s = .int .u32 (stepsN j s0 : Nat)) (fun _ i => 8 - (intOf i).toNat)
      case atStart => exact ⟨0, by omega, rfl, by simp [stepsN]⟩
      case round =>
        obtain ⟨j, hj, rfl, rfl⟩ := hrel
        have hq := stepsN_lt j s0 hs0
        by_cases hlt' : j < 8
        · have H1 := i1 (stepsN j s0) hq
          have H0 := i0 (stepsN j s0) hq
          have HS : Hid (stepsN (j + 1) s0 = stepN (stepsN j s0)) := rfl
          generalize stepsN j s0 = q at HS hq H1 H0
          have K1 : Hid ((bits .and .u32 (q : Int) 1 == 1) = true → bits .xor .u32 ((q : Int) / 2) 3988292384 = ((stepN q : Nat) : Int)) := H1
          have K0 : Hid ((bits .and .u32 (q : Int) 1 == 1) = false → (q : Int) / 2 = ((stepN q : Nat) : Int)) := H0
          clear H1 H0
          go_wp2
          · go_round
            case rel => exact ⟨j + 1, by omega, by go_num, by rw [HS.out, ← K1.out (by assumption)]⟩
            case measure => simp [intOf]; omega
          · go_round
            case rel => exact ⟨j + 1, by omega, by go_num, by rw [HS.out, ← K0.out (by assumption)]⟩
            case measure => simp [intOf]; omega
        · have e8 : j = 8 := by omega
          subst e8
          go_wp2
          go_round
          case rel => exact ⟨k + 1, by omega, by go_num, by rw [hS.out]⟩
          case measure => simp [intOf]; omega
    · have e : k = l.length := by omega
      subst e
      have hm := max_xor _ hr
      go_wp2
      go_ret
      exact ⟨by simp [crcOf], rfl⟩

set_option maxHeartbeats 1000000 in
theorem specCrc_any (v : Value) (l : List Int) (w : World) (hv : Bs w v l) :
    Calls Tryz.prog 59 #[v] w fun e w' => e = .returned (.int .u32 (crcOf l : Nat)) ∧ w' = w := by
  obtain ⟨hl, h8, a, cap, rfl, hc⟩ := hv
  unfold maxLen at hl
  go_enter Tryz.func59, Tryz.ntmps59
  go_wp2
  go_loop [3, 4] (fun s i => ∃ k : Nat, k ≤ l.length ∧ i = .int .i64 k ∧ s = .int .u32 (crcSt l k : Nat)) (fun _ i => l.length - (intOf i).toNat)
  case atStart => exact ⟨0, Nat.zero_le _, rfl, rfl⟩
  case round =>
    obtain ⟨k, hk, rfl, rfl⟩ := hrel
    have hr := crcSt_lt l h8 k
    by_cases hlt : k < l.length
    · obtain ⟨b, off, rfl, hcell⟩ := hc k hlt
      have hck := hcell k hlt
      have h8k := byte_at h8 k
      have hS : Hid (crcSt l (k + 1) = stepsN 8 (crcSt l k ^^^ (l[k]?.getD 0).toNat)) := rfl
      have eg : l[k]?.getD 0 = l[k] := by simp [hlt]
      rw [eg] at h8k hck hS
      generalize hlk : l[k] = lk at h8k hck hS
      obtain ⟨b0, b1⟩ := h8k
      clear hcell hc eg
      go_wp2
      go_loop [3, 5] (fun s i => ∃ j : Nat, j ≤ 8 ∧ i = .int .i64 j ∧ s = .int .u32 ((stepsN j (crcSt l k ^^^ lk.toNat) ^^^ lk.toNat / 2 ^ j : Nat))) (fun _ i => 8 - (intOf i).toNat)
      case atStart => exact ⟨0, by omega, rfl, by simp [stepsN, Nat.xor_assoc]⟩
      case round =>
        obtain ⟨j, hj, rfl, rfl⟩ := hrel
        have hq := stepsN_lt j (crcSt l k ^^^ lk.toNat) (xor_lt _ _ hr (by omega))
        by_cases hlt' : j < 8
        · have HS : Hid (stepsN (j + 1) (crcSt l k ^^^ lk.toNat) = stepN (stepsN j (crcSt l k ^^^ lk.toNat))) := rfl
          generalize stepsN j (crcSt l k ^^^ lk.toNat) = S at HS hq
          have K1 : Hid _ := s1 S lk.toNat j lk b0 b1 rfl hq
          have K0 : Hid _ := s0 S lk.toNat j lk b0 b1 rfl hq
          have hXlt := xor_lt S (lk.toNat / 2 ^ j) hq (by have := Nat.div_le_self lk.toNat (2 ^ j); omega)
          generalize S ^^^ lk.toNat / 2 ^ j = X at K1 K0 hXlt
          go_wp2
          · go_round
            case rel => exact ⟨j + 1, by omega, by go_num, by rw [HS.out, ← K1.out (by assumption)]⟩
            case measure => simp [intOf]; omega
          · go_round
            case rel => exact ⟨j + 1, by omega, by go_num, by rw [HS.out, ← K0.out (by assumption)]⟩
            case measure => simp [intOf]; omega
        · have e8 : j = 8 := by omega
          subst e8
          have hz : lk.toNat / 2 ^ 8 = 0 := by omega
          rw [hz, Nat.xor_zero]
          go_wp2
          go_round
          case rel => exact ⟨k + 1, by omega, by go_num, by rw [hS.out]⟩
          case measure => simp [intOf]; omega
    · have e : k = l.length := by omega
      subst e
      have hm := xor_max _ hr
      go_wp2
      go_ret
      exact ⟨by simp [crcOf], rfl⟩
end Go.Proofs.YtafmjckpbcijoaaGreatDoor

/-
  impl.sealFrame.
-/
namespace Go.Proofs.YtafmjckpbcijoaaGreatDoor
open Go.RowKit
set_option linter.unusedVariables false

/-- a frame round a body -/
def frameL (l : List Int) : List Int := wordL l.length ++ wordL (crcOf l) ++ l

theorem crcOf_lt (l : List Int) (h8 : ∀ x ∈ l, 0 ≤ x ∧ x ≤ 255) : crcOf l < 4294967296 := xor_lt _ _ (crcSt_lt l h8 _) (by decide)

theorem Own.made (w : World) (n : Nat) (hn : n ≤ maxLen) : Own (w.alloc (.cells (madeCells #[.int .u8 0] n) 5)) w.heap.size (.slice (some ⟨w.heap.size, 0, none⟩) 0 n) [] :=
  ⟨by simp, by simpa using World.ownsRow_made (base := w.heap.size) (e := 5) (size := 1) w (madeCells #[.int .u8 0] n) n (Nat.le_refl _) hn (by rw [size_madeCells, Nat.mul_one])⟩

set_option maxHeartbeats 1000000 in
set_option maxRecDepth 100000 in
theorem sealFrame_any (v : Value) (l : List Int) (w : World) (hv : Bs w v l) (hpos : 0 < l.length) (hl : l.length ≤ 100000) :
    Calls Tryz.prog 55 #[v] w fun e w' => ∃ v', e = .returned v' ∧ Own w' w.heap.size v' (frameL l) ∧ Below w.heap.size w w' := by
  have hV : Hid (Bs w v l) := hv
  have hcrc := crcOf_lt l hv.2.1
  obtain ⟨i0, hi, hz0, hz1, hz2⟩ := info_parts infoU8
  have hmk : ∀ u : World, (Instr.makeSlice 22 (.int .i64 0) (.int .i64 (8 + (l.length : Int)))).run Tryz.prog u =
      .ok (.slice (some ⟨u.heap.size, 0, none⟩) 0 (8 + l.length)) (u.alloc (.cells (madeCells #[.int .u8 0] (8 + l.length)) 5)) := fun u => by
    have h := run_make (P := Tryz.prog) u 22 5 i0 (.int .u8 0) Tryz.underlying22 hi hz0 .i64 .i64 0 (8 + (l.length : Int)) (by omega) (by omega) (by rw [hz2]; omega) (by omega)
    have e : (8 + (l.length : Int)).toNat = 8 + l.length := by omega
    rw [e] at h
    simpa [hz1, Value.cells] using h
  obtain ⟨hml, h8, a, cap, rfl, hc⟩ := hv
  clear hc
  have hO := Own.made w (8 + l.length) (by unfold maxLen; omega)
  have hB : Below w.heap.size w (w.alloc (.cells (madeCells #[.int .u8 0] (8 + l.length)) 5)) := (Below.refl _ _).alloc (Nat.le_refl _) _
  have hsz : w.heap.size ≤ (w.alloc (.cells (madeCells #[.int .u8 0] (8 + l.length)) 5)).heap.size := hB.size
  have hw4 : ∀ x, (wordL x).length = 4 := fun x => rfl
  go_enter Tryz.func55, Tryz.ntmps55
  go_wp2_with (first
    | (go_at_call 75; refine (implCrc_any _ l _ (hV.out.below hB)).mono ?_; rintro e w' ⟨rfl, rfl⟩)
    | (go_at_call 74; refine (putWord_any _ [] l.length _ w.heap.size hO hsz (by simp) (by omega)).mono ?_; rintro e w1 ⟨v1, rfl, ho1, hg1⟩; replace hB := hB.trans (hg1.below hO hsz); replace hsz := hB.size; clear hO)
    | (go_at_call 74; refine (putWord_any _ _ (crcOf l) _ w.heap.size ho1 hsz (by simp [hw4]) hcrc).mono ?_; rintro e w2 ⟨v2, rfl, ho2, hg2⟩; replace hB := hB.trans (hg2.below ho1 hsz); replace hsz := hB.size)
    | (at_builtin; refine wpl_append rfl (.tmp 17) (.tmp 18) rfl ho2 rfl (hV.out.below hB) rfl hpos (by simp [hw4]; omega) hsz ?_; intro v3 w3 ho3 hg3; replace hB := hB.trans (hg3.below ho2 hsz)))
  go_ret
  exact ⟨_, rfl, by simpa [frameL] using ho3, hB⟩
end Go.Proofs.YtafmjckpbcijoaaGreatDoor

/-
  impl.entriesRise, spec.l1rising.
-/
namespace Go.Proofs.YtafmjckpbcijoaaGreatDoor
open Go.RowKit
set_option linter.unusedVariables false

set_option maxHeartbeats 8000000 in
set_option maxRecDepth 100000 in
theorem entriesRise_any (ev : Value) (lt tm : Int) (l : List Ent) (w : World) (hv : Es w ev l) (hll : l.length ≤ 1048576) :
    Calls Tryz.prog 125 #[ev, .int .i64 lt, .int .i64 tm] w fun r w' => r = .returned (.bool (fitL tm lt l)) ∧ Below w.heap.size w w' := by
  obtain ⟨hl, hf, a, cap, rfl, hc⟩ := hv
  go_enter Tryz.func125, Tryz.ntmps125
  go_wp2
  go_loopw [1, 11] (fun t i wr => ∃ (k : Nat) (x : Int), k ≤ l.length ∧ i = .int .i64 k ∧ t = .int .i64 x ∧ fitL tm lt l = fitL tm x (l.drop k) ∧ Below w.heap.size w wr) (fun _ i _ => l.length - (intOf i).toNat)
  case atStart => exact ⟨0, lt, Nat.zero_le _, rfl, rfl, by simp, Below.refl _ _⟩
  case round =>
    obtain ⟨k, x, hk, rfl, rfl, hfl, hB⟩ := hrel
    have HF : Hid (fitL tm lt l = fitL tm x (l.drop k)) := hfl
    have hz := hB.size
    clear hfl
    by_cases hlt : k < l.length
    · obtain ⟨b, off, rfl, hj⟩ := hc k hlt
      obtain ⟨c0, c1, c2, c3, c4, c5, c6⟩ := (hj k hlt).below hB
      have hfk := hf l[k] (List.getElem_mem hlt)
      have HD : Hid (fitL tm x (l.drop k) = (entB l[k] && inB l[k].t x tm && fitL tm l[k].t (l.drop (k + 1)))) := fitL_drop tm x l k hlt
      clear hc hj
      generalize l[k] = e at *
      go_wp2_with (first
        | (go_at_call 127; refine (entryFits_any e hfk _).mono ?_; rintro r w1 ⟨rfl, hb⟩; obtain ⟨hc1, hf1⟩ := bcell hb; have hz1 : wr.heap.size < w1.heap.size := (by have := hb.size; simp at this; omega))
        | (go_at_call 52; refine (within_any _ _ _ _).mono ?_; rintro r w' ⟨rfl, rfl⟩))
      · go_ret
        exact ⟨ret_bool (by rw [HF.out, HD.out]; go_light; simp_all), hB.trans (((Below.refl _ _).alloc (by omega) _).trans (hb.mono (by simp; omega)))⟩
      · go_roundw
        case rel => exact ⟨k + 1, e.t, by omega, by go_num, rfl, by rw [HF.out, HD.out]; go_light; simp_all, hB.trans (((Below.refl _ _).alloc (by omega) _).trans (hb.mono (by simp; omega)))⟩
        case measure => simp [intOf]; omega
      · go_ret
        exact ⟨ret_bool (by rw [HF.out, HD.out]; go_light; simp_all), hB.trans (((Below.refl _ _).alloc (by omega) _).trans (hb.mono (by simp; omega)))⟩
    · have hd : l.drop k = [] := List.drop_of_length_le (by omega)
      go_wp2
      go_ret
      exact ⟨ret_bool (by rw [HF.out, hd]; rfl), hB⟩

theorem fit_no {e : Ent} {low high : Int} (X : Bool) (h : entB e = false ∨ e.t < low ∨ high < e.t) : (entB e && inB e.t low high && X) = false := by
  rcases h with h | h
  · rw [h]; rfl
  · rw [(inB_not _ _ _).2 h]; simp
theorem fit_yes {e : Ent} {low high : Int} (X : Bool) (h : entB e = true) (h1 : low ≤ e.t) (h2 : e.t ≤ high) : (entB e && inB e.t low high && X) = X := by
  rw [h, (inB_iff _ _ _).2 ⟨h1, h2⟩]; rfl
theorem prev_step (low : Int) (l : List Ent) (k : Nat) (h : k < l.length) : (if k + 1 = 0 then low else (l[k + 1 - 1]?.map Ent.t).getD 0) = l[k].t := by simp [h]

set_option maxHeartbeats 8000000 in
set_option maxRecDepth 100000 in
theorem l1rising_any (ev : Value) (low high : Int) (l : List Ent) (w : World) (hv : Es w ev l) (hll : l.length ≤ 1048576) :
    Calls Tryz.prog 26 #[ev, .int .i64 low, .int .i64 high] w fun r w' => r = .returned (.bool (fitL high low l)) ∧ Below w.heap.size w w' := by
  obtain ⟨hl, hf, a, cap, rfl, hc⟩ := hv
  go_enter Tryz.func26, Tryz.ntmps26
  go_wp2
  go_loopw [7] (fun i wr => ∃ k : Nat, k ≤ l.length ∧ i = .int .i64 k ∧ fitL high low l = fitL high (if k = 0 then low else (l[k - 1]?.map Ent.t).getD 0) (l.drop k) ∧ Below w.heap.size w wr) (fun i _ => l.length - (intOf i).toNat)
  case atStart => exact ⟨0, Nat.zero_le _, rfl, by simp, Below.refl _ _⟩
  case round =>
    obtain ⟨k, hk, rfl, hfl, hB⟩ := hrel
    have HF : Hid (fitL high low l = fitL high (if k = 0 then low else (l[k - 1]?.map Ent.t).getD 0) (l.drop k)) := hfl
    have hz := hB.size
    clear hfl
    by_cases hlt : k < l.length
    · obtain ⟨b, off, rfl, hj⟩ := hc k hlt
      have hfk := hf l[k] (List.getElem_mem hlt)
      have HD : ∀ x, Hid (fitL high x (l.drop k) = (entB l[k] && inB l[k].t x high && fitL high l[k].t (l.drop (k + 1)))) := fun x => fitL_drop high x l k hlt
      have HP : Hid ((if k + 1 = 0 then low else (l[k + 1 - 1]?.map Ent.t).getD 0) = l[k].t) := prev_step low l k hlt
      by_cases h0 : k = 0
      · subst h0
        obtain ⟨c0, c1, c2, c3, c4, c5, c6⟩ := (hj 0 hlt).below hB
        have hlow : (if (0 : Nat) = 0 then low else (l[0 - 1]?.map Ent.t).getD 0) = low := rfl
        rw [hlow] at HF
        clear hc hj hlow
        simp only [Nat.zero_mul, Nat.add_zero] at c0 c1 c2 c3 c4 c5 c6
        generalize l[0] = e at *
        go_wp2_with (go_at_call 51; refine (entryOk_any e hfk _).mono ?_; rintro r w1 ⟨rfl, hb⟩; obtain ⟨hc1, hf1⟩ := bcell hb; have hbl := cell_lt c0)
        · go_ret
          exact ⟨ret_bool (by rw [HF.out, (HD _).out, fit_no]; go_light; cases hE : entB e <;> simp_all <;> omega), hB.trans (hb.mono hz)⟩
        · go_ret
          exact ⟨ret_bool (by rw [HF.out, (HD _).out, fit_no]; go_light; cases hE : entB e <;> simp_all <;> omega), hB.trans (hb.mono hz)⟩
        · go_quiet (fail)
          go_wp2
          go_roundw
          case rel => exact ⟨0 + 1, by omega, by go_num, by rw [HF.out, (HD _).out, HP.out, fit_yes] <;> (go_light; cases hE : entB e <;> simp_all <;> omega), hB.trans ((hb.mono hz).trans ⟨rfl, rfl, rfl, Nat.le_refl _, fun _ _ => rfl⟩)⟩
          case measure => simp [intOf]; omega
        · go_ret
          exact ⟨ret_bool (by rw [HF.out, (HD _).out, fit_no]; go_light; cases hE : entB e <;> simp_all <;> omega), hB.trans (hb.mono hz)⟩
      · obtain ⟨j, rfl⟩ : ∃ j, k = j + 1 := ⟨k - 1, by omega⟩
        have hp : j < l.length := by omega
        have hprev : (if j + 1 = 0 then low else (l[j + 1 - 1]?.map Ent.t).getD 0) = l[j].t := prev_step low l j hp
        rw [hprev] at HF
        obtain ⟨c0, c1, c2, c3, c4, c5, c6⟩ := (hj (j + 1) hlt).below hB
        obtain ⟨p0, _⟩ := (hj j hp).below hB
        have hbl := cell_lt c0
        clear hc hj hprev h0
        generalize l[j] = pe at *
        generalize l[j + 1] = e at *
        go_wp2_with (go_at_call 51; refine (entryOk_any e hfk _).mono ?_; rintro r w1 ⟨rfl, hb⟩; obtain ⟨hc1, hf1⟩ := bcell hb)
        · go_ret
          exact ⟨ret_bool (by rw [HF.out, (HD _).out, fit_no]; go_light; cases hE : entB e <;> simp_all <;> omega), hB.trans (hb.mono hz)⟩
        · go_quiet (fail)
          go_wp2
          · go_ret
            exact ⟨ret_bool (by rw [HF.out, (HD _).out, fit_no]; go_light; cases hE : entB e <;> simp_all <;> omega), hB.trans ((hb.mono hz).trans ⟨rfl, rfl, rfl, Nat.le_refl _, fun _ _ => rfl⟩)⟩
          · go_roundw
            case rel => exact ⟨j + 1 + 1, by omega, by go_num, by rw [HF.out, (HD _).out, HP.out, fit_yes] <;> (go_light; cases hE : entB e <;> simp_all <;> omega), hB.trans ((hb.mono hz).trans ⟨rfl, rfl, rfl, Nat.le_refl _, fun _ _ => rfl⟩)⟩
            case measure => simp [intOf]; omega
        · go_ret
          exact ⟨ret_bool (by rw [HF.out, (HD _).out, fit_no]; go_light; cases hE : entB e <;> simp_all <;> omega), hB.trans (hb.mono hz)⟩
    · have hd : l.drop k = [] := List.drop_of_length_le (by omega)
      go_wp2
      go_ret
      exact ⟨ret_bool (by rw [HF.out, hd]; rfl), hB⟩
end Go.Proofs.YtafmjckpbcijoaaGreatDoor
