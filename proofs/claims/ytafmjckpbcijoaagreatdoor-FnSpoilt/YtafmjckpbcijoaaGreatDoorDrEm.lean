/-
  spec.DrawEncodeMsg.
-/
import Derived.Test.YtafmjckpbcijoaaGreatDoorDrBm
import Derived.Test.YtafmjckpbcijoaaGreatDoorDrMg
import Derived.Test.YtafmjckpbcijoaaGreatDoorDrEn
namespace Go.Proofs.YtafmjckpbcijoaaGreatDoor
open Go.RowKit
set_option linter.unusedVariables false
set_option linter.unusedSimpArgs false

theorem mgT_ok (l : List Int) (k : Nat) : 1 ≤ (mgT l k).1 ∧ (mgT l k).1 ≤ 1073741824 ∧ (mgT l k).2 ≤ k + 7 := by
  have h1 := pickV_lt l (k + 1 + 1 + 1 + 1 + 1 + 1) 2 (by decide)
  have h2 := pickV_lt l (k + 1 + 1) 9 (by decide)
  unfold mgT
  split <;> (dsimp only; omega)
theorem mgB_len (l : List Int) (k : Nat) (ki tm li lt : Int) : (mgB l k ki tm li lt).2.1.length ≤ 32 := by
  unfold mgB
  split
  · dsimp only
    rw [List.length_map, entsD_len]
    have := (mgN0_ok l (k + 1)).1
    unfold mgN
    omega
  · simp
theorem mgC_k (l : List Int) (k : Nat) (ki : Int) : (mgC l k ki).2 ≤ k + 1 := by
  unfold mgC
  split <;> (dsimp only; omega)
theorem mgD_k (l : List Int) (k : Nat) (ki ok li : Int) : (mgD l k ki ok li).2.2 ≤ k + 2 := by
  unfold mgD
  split
  · dsimp only
    split <;> omega
  · dsimp only; omega
theorem msgD_ok (l : List Int) (k : Nat) : 1 ≤ (msgD l k).tm ∧ (msgD l k).tm ≤ 1073741824 ∧ 0 ≤ (msgD l k).lt ∧ (msgD l k).lt ≤ 1073741824 ∧ (msgD l k).es.length ≤ 32 ∧ (msgD l k).k ≤ k + 700 := by
  have hT := mgT_ok l k
  have hA := mgA_ok l (mgT l k).2 (mgK l k) (mgT l k).1 hT.1 hT.2.1
  unfold msgD
  dsimp only
  refine ⟨hT.1, hT.2.1, hA.2.2.1, hA.2.2.2.1, mgB_len _ _ _ _ _ _, ?_⟩
  refine Nat.le_trans (mgD_k _ _ _ _ _) ?_
  have h1 := mgC_k l (mgB l (mgA l (mgT l k).2 (mgK l k) (mgT l k).1).2.2 (mgK l k) (mgT l k).1 (mgA l (mgT l k).2 (mgK l k) (mgT l k).1).1 (mgA l (mgT l k).2 (mgK l k) (mgT l k).1).2.1).2.2 (mgK l k)
  have h2 := mgB_k l (mgA l (mgT l k).2 (mgK l k) (mgT l k).1).2.2 (mgK l k) (mgT l k).1 (mgA l (mgT l k).2 (mgK l k) (mgT l k).1).1 (mgA l (mgT l k).2 (mgK l k) (mgT l k).1).2.1
  omega
theorem one_keep {w0 w w' : World} {g k : Nat} {v u : Value} {l : List Int} {L : List Ent} {B b : Nat} {C : Array Value} (hO : OwnE w B u L) (h : Dr w0 w g v l k [(b, C, 27)]) (hoth : ∀ b, b < w.heap.size → b ≠ g → u.ownBlock ≠ some b → w'.heap[b]? = w.heap[b]?) : ∀ x ∈ [(b, C, 27)], w'.heap[x.1]? = w.heap[x.1]? := fun x hx => by
  rw [List.mem_singleton.1 hx]
  exact hoth b (h.lt 0 rfl) (h.ne 0 rfl) (ownsRow.neBlk hO.2 (h.blk 0 rfl) (by decide))
def drM (l : List Int) : MsgE := ⟨(msgD l 0).ki, (msgD l 0).fr, (msgD l 0).td, (msgD l 0).tm, (msgD l 0).li, (msgD l 0).lt, (msgD l 0).cm, (msgD l 0).ok, (msgD l 0).hi, (msgD l 0).es⟩
def encM (l : List Int) : MsgE := if pickV l (msgD l 0).k 8 = 0 then (badM l ((msgD l 0).k + 1) (drM l)).1 else drM l
set_option maxHeartbeats 8000000 in
set_option maxRecDepth 100000 in
theorem drawEncodeMsg_any (a : Option Addr) (cap : Nat) (l : List Int) (w : World) (hv : Bs w (.slice a l.length cap) l) (hL : l.length ≤ 1048576) :
    Calls Tryz.prog 6 #[.slice a l.length cap] w fun r w' => ∃ ea ec, r = .returned (.agg #[.int .i64 (encM l).ki, .int .i64 (encM l).fr, .int .i64 (encM l).td, .int .i64 (encM l).tm, .int .i64 (encM l).li, .int .i64 (encM l).lt, .int .i64 (encM l).cm, .int .i64 (encM l).ok, .int .i64 (encM l).hi, .slice ea (encM l).es.length ec]) ∧ OwnE w' w.heap.size (.slice ea (encM l).es.length ec) (encM l).es ∧ Below w.heap.size w w' := by
  have HS0 : Hid (Src ((w.alloc (.cells #[.int .i64 0, .int .i64 0, .int .i64 0, .int .i64 0, .int .i64 0, .int .i64 0, .int .i64 0, .int .i64 0, .int .i64 0, .slice none 0 0] 27)).alloc (.cells #[.slice a l.length cap, .int .i64 0] 54)) (w.heap.size + 1) (.slice a l.length cap) l 0) := by
    have hx := Src.start (w.alloc (.cells #[.int .i64 0, .int .i64 0, .int .i64 0, .int .i64 0, .int .i64 0, .int .i64 0, .int .i64 0, .int .i64 0, .int .i64 0, .slice none 0 0] 27)) (.slice a l.length cap) l (hv.below ((Below.refl _ _).alloc (Nat.le_refl _) _)) 54
    rw [show (w.alloc (.cells #[.int .i64 0, .int .i64 0, .int .i64 0, .int .i64 0, .int .i64 0, .int .i64 0, .int .i64 0, .int .i64 0, .int .i64 0, .slice none 0 0] 27)).heap.size = w.heap.size + 1 by simp] at hx
    exact hx
  have hsz : (((w.alloc (.cells #[.int .i64 0, .int .i64 0, .int .i64 0, .int .i64 0, .int .i64 0, .int .i64 0, .int .i64 0, .int .i64 0, .int .i64 0, .slice none 0 0] 27)).alloc (.cells #[.slice a l.length cap, .int .i64 0] 54))).heap.size = w.heap.size + 1 + 1 := by simp
  have Hsz : Hid ((((w.alloc (.cells #[.int .i64 0, .int .i64 0, .int .i64 0, .int .i64 0, .int .i64 0, .int .i64 0, .int .i64 0, .int .i64 0, .int .i64 0, .slice none 0 0] 27)).alloc (.cells #[.slice a l.length cap, .int .i64 0] 54))).heap.size = w.heap.size + 1 + 1) := hsz
  clear hsz
  have hE : encM l = if pickV l (msgD l 0).k 8 = 0 then (badM l ((msgD l 0).k + 1) (drM l)).1 else drM l := rfl
  have hok := msgD_ok l 0
  have HDr : Hid (∀ u : World, Src u (w.heap.size + 1) (.slice a l.length cap) l 0 → Calls Tryz.prog 22 #[.pointer (some ⟨(w.heap.size + 1), 0, none⟩)] u fun r w' => ∃ ea ec, r = .returned (.agg #[.int .i64 (drM l).ki, .int .i64 (drM l).fr, .int .i64 (drM l).td, .int .i64 (drM l).tm, .int .i64 (drM l).li, .int .i64 (drM l).lt, .int .i64 (drM l).cm, .int .i64 (drM l).ok, .int .i64 (drM l).hi, .slice ea (drM l).es.length ec]) ∧ OwnE w' u.heap.size (.slice ea (drM l).es.length ec) (drM l).es ∧ Src w' (w.heap.size + 1) (.slice a l.length cap) l (msgD l 0).k ∧ u.grownBy w' (some (w.heap.size + 1))) := fun u hu => l1drawMsg_any (w.heap.size + 1) u (.slice a l.length cap) l 0 hL (by omega) hu
  have hb1 : 1 ≤ (drM l).tm ∧ (drM l).tm ≤ 1073741824 := ⟨hok.1, hok.2.1⟩
  have hb2 : 0 ≤ (drM l).lt ∧ (drM l).lt ≤ 1073741824 := ⟨hok.2.2.1, hok.2.2.2.1⟩
  have hb3 : (drM l).es.length ≤ 32 := hok.2.2.2.2.1
  have hkb : (msgD l 0).k ≤ 1000 := by have := hok.2.2.2.2.2; omega
  clear hok
  generalize (msgD l 0).k = K at *
  generalize drM l = m at *
  obtain ⟨n, hn⟩ : ∃ n, n = m.es.length := ⟨_, rfl⟩
  rw [← hn] at hb3 HDr
  have Hn : Hid (n = m.es.length) := hn
  clear hn hv
  have HBd : Hid (∀ (u : World) (ea : Option Addr) (ec : Nat), Dr ((w.alloc (.cells #[.int .i64 0, .int .i64 0, .int .i64 0, .int .i64 0, .int .i64 0, .int .i64 0, .int .i64 0, .int .i64 0, .int .i64 0, .slice none 0 0] 27)).alloc (.cells #[.slice a l.length cap, .int .i64 0] 54)) u (w.heap.size + 1) (.slice a l.length cap) l (K + 1) [] → OwnE u (w.heap.size + 1 + 1) (.slice ea n ec) m.es → Calls Tryz.prog 24 #[.pointer (some ⟨(w.heap.size + 1), 0, none⟩), .agg #[.int .i64 m.ki, .int .i64 m.fr, .int .i64 m.td, .int .i64 m.tm, .int .i64 m.li, .int .i64 m.lt, .int .i64 m.cm, .int .i64 m.ok, .int .i64 m.hi, .slice ea n ec]] u fun r w' => ∃ ea' ec', r = .returned (.agg #[.int .i64 (badM l (K + 1) m).1.ki, .int .i64 (badM l (K + 1) m).1.fr, .int .i64 (badM l (K + 1) m).1.td, .int .i64 (badM l (K + 1) m).1.tm, .int .i64 (badM l (K + 1) m).1.li, .int .i64 (badM l (K + 1) m).1.lt, .int .i64 (badM l (K + 1) m).1.cm, .int .i64 (badM l (K + 1) m).1.ok, .int .i64 (badM l (K + 1) m).1.hi, .slice ea' (badM l (K + 1) m).1.es.length ec']) ∧ OwnE w' (w.heap.size + 1 + 1) (.slice ea' (badM l (K + 1) m).1.es.length ec') (badM l (K + 1) m).1.es ∧ Dr ((w.alloc (.cells #[.int .i64 0, .int .i64 0, .int .i64 0, .int .i64 0, .int .i64 0, .int .i64 0, .int .i64 0, .int .i64 0, .int .i64 0, .slice none 0 0] 27)).alloc (.cells #[.slice a l.length cap, .int .i64 0] 54)) w' (w.heap.size + 1) (.slice a l.length cap) l (badM l (K + 1) m).2 [] ∧ ∀ b, b < u.heap.size → b ≠ (w.heap.size + 1) → (Value.slice ea n ec).ownBlock ≠ some b → w'.heap[b]? = u.heap[b]?) := fun u ea ec hd ho => by
    have hx := l1badMsg_any (w.heap.size + 1) ((w.alloc (.cells #[.int .i64 0, .int .i64 0, .int .i64 0, .int .i64 0, .int .i64 0, .int .i64 0, .int .i64 0, .int .i64 0, .int .i64 0, .slice none 0 0] 27)).alloc (.cells #[.slice a l.length cap, .int .i64 0] 54)) u (.slice a l.length cap) l (K + 1) m ea ec n hL (by omega) Hn.out (by omega) ⟨by omega, by omega⟩ ⟨by omega, by omega⟩ hd (by rw [Hsz.out]; exact ho)
    rw [Hsz.out] at hx
    exact hx
  generalize badM l (K + 1) m = BB at *
  obtain ⟨y, KB⟩ := BB
  dsimp only at HBd hE
  have b8 := pickV_lt l K 8 (by decide)
  obtain ⟨p, hp⟩ : ∃ p, p = pickV l K 8 := ⟨_, rfl⟩
  rw [← hp] at b8 hE
  have Hp : Hid (p = pickV l K 8) := hp
  clear hp
  have HE : Hid (encM l = if p = 0 then y else m) := hE
  generalize encM l = X at *
  clear hE
  obtain ⟨nX, hnX⟩ : ∃ n, n = X.es.length := ⟨_, rfl⟩
  rw [← hnX]
  have HnX : Hid (nX = X.es.length) := hnX
  clear hnX
  go_enter Tryz.func6, Tryz.ntmps6
  go_upto_if 9 with (first
    | (go_at_call 22; refine (HDr.out _ HS0.out).mono ?_; rintro r w3 ⟨ea, ec, rfl, ho3, hs3, hg3⟩; have HD3 : Hid (Dr ((w.alloc (.cells #[.int .i64 0, .int .i64 0, .int .i64 0, .int .i64 0, .int .i64 0, .int .i64 0, .int .i64 0, .int .i64 0, .int .i64 0, .slice none 0 0] 27)).alloc (.cells #[.slice a l.length cap, .int .i64 0] 54)) (w3.alloc (.cells #[.int .i64 m.ki, .int .i64 m.fr, .int .i64 m.td, .int .i64 m.tm, .int .i64 m.li, .int .i64 m.lt, .int .i64 m.cm, .int .i64 m.ok, .int .i64 m.hi, .slice ea n ec] 27)) (w.heap.size + 1) (.slice a l.length cap) l K [(w3.heap.size, #[.int .i64 m.ki, .int .i64 m.fr, .int .i64 m.td, .int .i64 m.tm, .int .i64 m.li, .int .i64 m.lt, .int .i64 m.cm, .int .i64 m.ok, .int .i64 m.hi, .slice ea n ec], 27)]) := ((Dr.start HS0.out).call hs3 hg3).new #[.int .i64 m.ki, .int .i64 m.fr, .int .i64 m.td, .int .i64 m.tm, .int .i64 m.li, .int .i64 m.lt, .int .i64 m.cm, .int .i64 m.ok, .int .i64 m.hi, .slice ea n ec] 27 (noU8_of rfl); have HO3 : Hid (OwnE (w3.alloc (.cells #[.int .i64 m.ki, .int .i64 m.fr, .int .i64 m.td, .int .i64 m.tm, .int .i64 m.li, .int .i64 m.lt, .int .i64 m.cm, .int .i64 m.ok, .int .i64 m.hi, .slice ea n ec] 27)) (w.heap.size + 1 + 1) (.slice ea n ec) m.es) := (ho3.le (by rw [Hsz.out]; exact Nat.le_refl _)).below ((Below.refl _ _).alloc (Nat.le_refl _) _); have hz3 := hg3.size; (rw [Hsz.out] at hz3); clear ho3 hs3 hg3)
    | (go_at_call 23; refine (HD3.out.pickG 8 hL (by omega) (by decide) (by decide)).mono ?_; rintro r w4 ⟨rfl, hd4, hg4⟩; rw [← Hp.out]; have HD4 : Hid (Dr ((w.alloc (.cells #[.int .i64 0, .int .i64 0, .int .i64 0, .int .i64 0, .int .i64 0, .int .i64 0, .int .i64 0, .int .i64 0, .int .i64 0, .slice none 0 0] 27)).alloc (.cells #[.slice a l.length cap, .int .i64 0] 54)) w4 (w.heap.size + 1) (.slice a l.length cap) l (K + 1) [(w3.heap.size, #[.int .i64 m.ki, .int .i64 m.fr, .int .i64 m.td, .int .i64 m.tm, .int .i64 m.li, .int .i64 m.lt, .int .i64 m.cm, .int .i64 m.ok, .int .i64 m.hi, .slice ea n ec], 27)]) := hd4; have HO4 : Hid (OwnE w4 (w.heap.size + 1 + 1) (.slice ea n ec) m.es) := HO3.out.grown hg4 (by omega); clear hd4 hg4))
  go_cut [9] (fun _ wx => ∃ K' xa xc, Dr ((w.alloc (.cells #[.int .i64 0, .int .i64 0, .int .i64 0, .int .i64 0, .int .i64 0, .int .i64 0, .int .i64 0, .int .i64 0, .int .i64 0, .slice none 0 0] 27)).alloc (.cells #[.slice a l.length cap, .int .i64 0] 54)) wx (w.heap.size + 1) (.slice a l.length cap) l K' [(w3.heap.size, #[.int .i64 X.ki, .int .i64 X.fr, .int .i64 X.td, .int .i64 X.tm, .int .i64 X.li, .int .i64 X.lt, .int .i64 X.cm, .int .i64 X.ok, .int .i64 X.hi, .slice xa nX xc], 27)] ∧ OwnE wx (w.heap.size + 1 + 1) (.slice xa nX xc) X.es)
  case first =>
    by_cases c0 : p = 0
    · subst c0
      rw [if_pos rfl] at HE
      have hX := HE.out
      subst hX
      rw [← HnX.out] at HBd
      go_wp2_with (first
        | (have hBA := HD4; refine gate_ld 27 (.tmp 4) rfl ?_; clear hBA; refine wpl_load_blk rfl 27 (.tmp 4) rfl (w3.heap.size) rfl (HD4.out.blk 0 rfl) Tryz.underlying27 rfl infoMsgB rfl ?_)
        | (go_at_call 24; refine (HBd.out _ ea ec HD4.out.nilF HO4.out).mono ?_; rintro r w5 ⟨xa, xc, rfl, ho5, hd5, hoth⟩; have HD5 : Hid (Dr ((w.alloc (.cells #[.int .i64 0, .int .i64 0, .int .i64 0, .int .i64 0, .int .i64 0, .int .i64 0, .int .i64 0, .int .i64 0, .int .i64 0, .slice none 0 0] 27)).alloc (.cells #[.slice a l.length cap, .int .i64 0] 54)) w5 (w.heap.size + 1) (.slice a l.length cap) l KB [(w3.heap.size, #[.int .i64 m.ki, .int .i64 m.fr, .int .i64 m.td, .int .i64 m.tm, .int .i64 m.li, .int .i64 m.lt, .int .i64 m.cm, .int .i64 m.ok, .int .i64 m.hi, .slice ea n ec], 27)]) := HD4.out.reF hd5 (one_keep HO4.out HD4.out hoth); have HO5 : Hid (OwnE w5 (w.heap.size + 1 + 1) (.slice xa nX xc) X.es) := ho5; clear ho5 hd5 hoth)
        | (have hBA := HD5; refine gate_st 27 (.tmp 4) _ rfl ?_; clear hBA; refine wpl_store_blk rfl 27 (.tmp 4) _ rfl (w3.heap.size) rfl rfl (HD5.out.blk 0 rfl) infoMsgB rfl rfl (by simp [Value.oneCell']) ?_))
      go_meet
      exact ⟨KB, xa, xc, HD5.out.row 0 rfl #[.int .i64 X.ki, .int .i64 X.fr, .int .i64 X.td, .int .i64 X.tm, .int .i64 X.li, .int .i64 X.lt, .int .i64 X.cm, .int .i64 X.ok, .int .i64 X.hi, .slice xa nX xc] (noU8_of rfl), ownE_blkM HO5.out (HD5.out.blk 0 rfl) (by decide) (setRow_keepM _ _ #[.int .i64 X.ki, .int .i64 X.fr, .int .i64 X.td, .int .i64 X.tm, .int .i64 X.li, .int .i64 X.lt, .int .i64 X.cm, .int .i64 X.ok, .int .i64 X.hi, .slice xa nX xc])⟩
    · rw [if_neg c0] at HE
      have hX := HE.out
      subst hX
      have hnn : nX = n := HnX.out.trans Hn.out.symm
      subst hnn
      have c1 : ((p : Int) == 0) = false := by rw [beq_eq_false_iff_ne]; omega
      go_wp2_with fail
      go_meet
      exact ⟨_, ea, ec, HD4.out, HO4.out⟩
  case rest =>
    obtain ⟨K', xa, xc, hd, ho⟩ := hcut
    have HDc : Hid (Dr ((w.alloc (.cells #[.int .i64 0, .int .i64 0, .int .i64 0, .int .i64 0, .int .i64 0, .int .i64 0, .int .i64 0, .int .i64 0, .int .i64 0, .slice none 0 0] 27)).alloc (.cells #[.slice a l.length cap, .int .i64 0] 54)) wc (w.heap.size + 1) (.slice a l.length cap) l K' [(w3.heap.size, #[.int .i64 X.ki, .int .i64 X.fr, .int .i64 X.td, .int .i64 X.tm, .int .i64 X.li, .int .i64 X.lt, .int .i64 X.cm, .int .i64 X.ok, .int .i64 X.hi, .slice xa nX xc], 27)]) := hd
    have HOc : Hid (OwnE wc (w.heap.size + 1 + 1) (.slice xa nX xc) X.es) := ho
    have hB1 : Blk wc w.heap.size #[.int .i64 0, .int .i64 0, .int .i64 0, .int .i64 0, .int .i64 0, .int .i64 0, .int .i64 0, .int .i64 0, .int .i64 0, .slice none 0 0] 27 := ((Blk.new w #[.int .i64 0, .int .i64 0, .int .i64 0, .int .i64 0, .int .i64 0, .int .i64 0, .int .i64 0, .int .i64 0, .int .i64 0, .slice none 0 0] 27).alloc _).grown hd.grown (by omega)
    have HB1 : Hid (Blk wc w.heap.size #[.int .i64 0, .int .i64 0, .int .i64 0, .int .i64 0, .int .i64 0, .int .i64 0, .int .i64 0, .int .i64 0, .int .i64 0, .slice none 0 0] 27) := hB1
    clear hd hB1 ho
    go_wp2_with (first
      | (have hBA := HDc; refine gate_ld 27 (.tmp 4) rfl ?_; clear hBA; refine wpl_load_blk rfl 27 (.tmp 4) rfl (w3.heap.size) rfl (HDc.out.blk 0 rfl) Tryz.underlying27 rfl infoMsgB rfl ?_)
      | (have hBA := HB1; refine gate_st 27 (.tmp 2) _ rfl ?_; clear hBA; refine wpl_store_blk rfl 27 (.tmp 2) _ rfl (w.heap.size) rfl rfl HB1.out infoMsgB rfl rfl (by simp [Value.oneCell']) ?_))
    exact bodyPost_ret (results_blk Tryz.results6 rfl (HB1.out.row _) Tryz.underlying27 rfl infoMsgB rfl) rfl ⟨xa, xc, rfl, (ownE_blkM HOc.out HB1.out (by decide) (setRow_keepM _ _ #[.int .i64 X.ki, .int .i64 X.fr, .int .i64 X.td, .int .i64 X.tm, .int .i64 X.li, .int .i64 X.lt, .int .i64 X.cm, .int .i64 X.ok, .int .i64 X.hi, .slice xa nX xc])).le (by omega), below_row (grown_belowE HDc.out.grown) (Nat.le_refl _) _⟩
end Go.Proofs.YtafmjckpbcijoaaGreatDoor
