/-
  Frames: what is encoded is decoded, what is decoded is encoded (pure).
-/
import Derived.Test.YtafmjckpbcijoaaGreatDoorGround3
import Derived.Test.YtafmjckpbcijoaaGreatDoorGround4
import Derived.Test.YtafmjckpbcijoaaGreatDoorImplDecMsg
import Derived.Test.YtafmjckpbcijoaaGreatDoorImplDecCall
import Derived.Test.YtafmjckpbcijoaaGreatDoorImplDecReply
namespace Go.Proofs.YtafmjckpbcijoaaGreatDoor
open Go.RowKit
set_option linter.unusedVariables false
set_option linter.unusedSimpArgs false

theorem cmdL_cm (cl sq op : Nat) (k v o : ByteArray) : cmdL cl sq op k v o = cmL cl sq op k v o := by
  simp [cmdL, cmL, numsL, textL, txL, List.append_assoc]
theorem entsL_es (l : List Ent) : entsL l = esL l := by
  induction l with
  | nil => rfl
  | cons e l ih =>
    have : entsL (e :: l) = entL e ++ entsL l := by simp [entsL]
    rw [this, ih, esL, entL, entN, cmdL_cm, enL]
theorem msgL_mg (ki fr td tm li lt cm ok hi : Nat) (l : List Ent) (q : RSt) : msgL ki fr td tm li lt cm ok hi l = (ki : Int) :: mgL ⟨fr, td, tm, li, lt, cm, ok, hi, l, q⟩ := by
  unfold msgL mgL
  rw [entsL_es]
  simp [numsL, List.append_assoc]
theorem repL_rp (cl sq st cd : Nat) (v : ByteArray) (ld : Nat) : repL cl sq st cd v ld = 8 :: rpL cl sq st cd v ld := by
  unfold repL rpL
  simp [numsL, textL, txL, List.append_assoc]
theorem entB_lays {e : Ent} (h : entB e = true) : e.lays := by
  unfold entB at h
  rw [Bool.and_eq_true] at h
  have h1 := (inB_iff _ _ _).1 h.1
  have h2 := cmdF_ok (by simpa using h.2 : cmdF e.cl e.sq e.op e.k.size e.v.size e.o.size = 0)
  unfold Ent.lays
  refine ⟨⟨?_, ?_⟩, ⟨?_, ?_⟩, ⟨?_, ?_⟩, ⟨?_, ?_⟩, ?_, ?_, ?_⟩ <;> omega
theorem frame_open {b : List Int} {x : Int} {r : List Int} (hb : b = x :: r) (h0 : sumC (frameL b) = 0) (lo hi : Int) : openC (frameL b) lo hi = if inB x lo hi = false then 4 else 0 := by
  have h8 := (frame_8 b (by rw [hb]; simp)).1
  unfold openC
  rw [if_neg (by omega), h8, hb]
  rfl
theorem decC_4 {l : List Int} {lo hi : Int} (h : openC l lo hi = 4) (left : RSt) (f : Int) : decC l lo hi left f = (4, 0) := by
  unfold decC
  rw [if_pos (by omega), h]
theorem decC_0 {l : List Int} {lo hi : Int} (h : openC l lo hi = 0) {left : RSt} (hl : left = some []) {f : Int} (hf : f = 0) : decC l lo hi left f = (0, 0) := by
  unfold decC
  rw [if_neg (by omega), if_neg (by simp [hl]), if_neg (by simp [hf])]

/-- a message's frame, decoded -/
theorem msg_round {ki fr td tm li lt cm ok hi : Int} {l : List Ent} (hF : msgF ki fr td tm li lt cm ok hi l = 0) (h8 : ∀ x ∈ encMsg ki fr td tm li lt cm ok hi l, 0 ≤ x ∧ x ≤ 255) :
    msgC (encMsg ki fr td tm li lt cm ok hi l) = (0, 0) ∧ callC (encMsg ki fr td tm li lt cm ok hi l) = (4, 0) ∧ repC (encMsg ki fr td tm li lt cm ok hi l) = (4, 0) ∧
    (encMsg ki fr td tm li lt cm ok hi l)[8]?.getD 0 = ki ∧ rdMsg (some ((encMsg ki fr td tm li lt cm ok hi l).drop 9)) = ⟨fr.toNat, td.toNat, tm.toNat, li.toNat, lt.toNat, cm.toNat, ok.toNat, hi.toNat, l, some []⟩ := by
  have hs := encMsg_good hF h8
  obtain ⟨⟨a1, a2⟩, ⟨a3, a4⟩, ⟨a5, a6⟩, ⟨a7, a8⟩, ⟨a9, a10⟩, ⟨a11, a12⟩, ⟨a13, a14⟩, ⟨a15, a16⟩, ⟨a17, a18⟩, hl32, hall⟩ := msgF_ok hF
  have e : encMsg ki fr td tm li lt cm ok hi l = frameL (msgL ki.toNat fr.toNat td.toNat tm.toNat li.toNat lt.toNat cm.toNat ok.toNat hi.toNat l) := by unfold encMsg; rw [if_pos hF]
  rw [e] at hs ⊢
  have hb := msgL_mg ki.toNat fr.toNat td.toNat tm.toNat li.toNat lt.toNat cm.toNat ok.toNat hi.toNat l none
  have hx := frame_8 (msgL ki.toNat fr.toNat td.toNat tm.toNat li.toNat lt.toNat cm.toNat ok.toNat hi.toNat l) (by rw [hb]; simp)
  have hk : ((ki.toNat : Nat) : Int) = ki := Int.toNat_of_nonneg (by omega)
  have hR : rdMsg (some ((frameL (msgL ki.toNat fr.toNat td.toNat tm.toNat li.toNat lt.toNat cm.toNat ok.toNat hi.toNat l)).drop 9)) = ⟨fr.toNat, td.toNat, tm.toNat, li.toNat, lt.toNat, cm.toNat, ok.toNat, hi.toNat, l, some []⟩ := by
    rw [hx.2, hb, List.drop_one, List.tail_cons]
    have := rdMsg_lay fr.toNat td.toNat tm.toNat li.toNat lt.toNat cm.toNat ok.toNat hi.toNat l [] (by omega) (by omega) (by omega) (by omega) (by omega) (by omega) (by omega) (by omega) hl32 (fun e he => entB_lays (hall e he)) none
    rwa [List.append_nil] at this
  have h8' : (frameL (msgL ki.toNat fr.toNat td.toNat tm.toNat li.toNat lt.toNat cm.toNat ok.toNat hi.toNat l))[8]?.getD 0 = ki := by
    rw [hx.1, hb]
    exact hk
  have o := frame_open hb hs
  refine ⟨?_, ?_, ?_, h8', hR⟩
  · unfold msgC
    rw [hR, h8']
    dsimp only
    refine decC_0 ?_ rfl ?_
    · rw [o, hk, if_neg (by rw [(inB_iff _ _ _).2 ⟨a1, a2⟩]; simp)]
    · rw [Int.toNat_of_nonneg (by omega), Int.toNat_of_nonneg (by omega), Int.toNat_of_nonneg (by omega), Int.toNat_of_nonneg (by omega), Int.toNat_of_nonneg (by omega), Int.toNat_of_nonneg (by omega), Int.toNat_of_nonneg (by omega), Int.toNat_of_nonneg (by omega)]
      exact hF
  · unfold callC
    exact decC_4 (by rw [o, hk, if_pos (by simp [inB]; omega)]) _ _
  · unfold repC
    exact decC_4 (by rw [o, hk, if_pos (by simp [inB]; omega)]) _ _
theorem call_round {cl sq op : Int} {k v o : ByteArray} (hF : cmdF cl sq op k.size v.size o.size = 0) (hop : op ≠ 0) (h8 : ∀ x ∈ encCallL cl sq op k v o, 0 ≤ x ∧ x ≤ 255) :
    callC (encCallL cl sq op k v o) = (0, 0) ∧ msgC (encCallL cl sq op k v o) = (4, 0) ∧ repC (encCallL cl sq op k v o) = (4, 0) ∧ rdCmd (some ((encCallL cl sq op k v o).drop 9)) = ⟨cl.toNat, sq.toNat, op.toNat, k, v, o, some []⟩ := by
  have hs := encCall_good hF hop h8
  obtain ⟨a1, a2, a3, a4, a5, a6, a7, a8, a9⟩ := cmdF_ok hF
  have hc : callF cl sq op k.size v.size o.size = 0 := by
    unfold callF
    rw [if_neg (fun h => hop h.2)]
    exact hF
  have e : encCallL cl sq op k v o = frameL (7 :: cmdL cl.toNat sq.toNat op.toNat k v o) := by unfold encCallL; rw [if_pos hc]
  rw [e] at hs ⊢
  have hx := frame_8 (7 :: cmdL cl.toNat sq.toNat op.toNat k v o) (by simp)
  have hR : rdCmd (some ((frameL (7 :: cmdL cl.toNat sq.toNat op.toNat k v o)).drop 9)) = ⟨cl.toNat, sq.toNat, op.toNat, k, v, o, some []⟩ := by
    rw [hx.2, List.drop_one, List.tail_cons, cmdL_cm]
    have := rdCmd_lay cl.toNat sq.toNat op.toNat k v o [] (by omega) (by omega) (by omega) (by omega) (by omega) (by omega)
    rwa [List.append_nil] at this
  have o' := frame_open (rfl : (7 :: cmdL cl.toNat sq.toNat op.toNat k v o) = 7 :: cmdL cl.toNat sq.toNat op.toNat k v o) hs
  refine ⟨?_, ?_, ?_, hR⟩
  · unfold callC
    rw [hR]
    dsimp only
    refine decC_0 ?_ rfl ?_
    · rw [o']; rfl
    · rw [Int.toNat_of_nonneg (by omega), Int.toNat_of_nonneg (by omega), Int.toNat_of_nonneg (by omega)]
      exact hc
  · unfold msgC
    exact decC_4 (by rw [o']; rfl) _ _
  · unfold repC
    exact decC_4 (by rw [o']; rfl) _ _
theorem reply_round {cl sq st cd ld : Int} {v : ByteArray} (hF : repF cl sq st cd v.size ld = 0) (h8 : ∀ x ∈ encReply cl sq st cd ld v, 0 ≤ x ∧ x ≤ 255) :
    repC (encReply cl sq st cd ld v) = (0, 0) ∧ msgC (encReply cl sq st cd ld v) = (4, 0) ∧ callC (encReply cl sq st cd ld v) = (4, 0) ∧ rdReply (some ((encReply cl sq st cd ld v).drop 9)) = ⟨cl.toNat, sq.toNat, st.toNat, cd.toNat, v, ld.toNat, some []⟩ := by
  have hs := encReply_good hF h8
  obtain ⟨a1, a2, a3, a4, a5, a6, a7, a8, a9, a10, a11⟩ := repF_ok hF
  have e : encReply cl sq st cd ld v = frameL (repL cl.toNat sq.toNat st.toNat cd.toNat v ld.toNat) := by unfold encReply; rw [if_pos hF]
  rw [e] at hs ⊢
  have hb := repL_rp cl.toNat sq.toNat st.toNat cd.toNat v ld.toNat
  have hx := frame_8 (repL cl.toNat sq.toNat st.toNat cd.toNat v ld.toNat) (by rw [hb]; simp)
  have hR : rdReply (some ((frameL (repL cl.toNat sq.toNat st.toNat cd.toNat v ld.toNat)).drop 9)) = ⟨cl.toNat, sq.toNat, st.toNat, cd.toNat, v, ld.toNat, some []⟩ := by
    rw [hx.2, hb, List.drop_one, List.tail_cons]
    have := rdReply_lay cl.toNat sq.toNat st.toNat cd.toNat v ld.toNat [] (by omega) (by omega) (by omega) (by omega) (by omega) (by omega)
    rwa [List.append_nil] at this
  have o' := frame_open hb hs
  refine ⟨?_, ?_, ?_, hR⟩
  · unfold repC
    rw [hR]
    dsimp only
    refine decC_0 ?_ rfl ?_
    · rw [o']; rfl
    · rw [Int.toNat_of_nonneg (by omega), Int.toNat_of_nonneg (by omega), Int.toNat_of_nonneg (by omega), Int.toNat_of_nonneg (by omega), Int.toNat_of_nonneg (by omega)]
      exact hF
  · unfold msgC
    exact decC_4 (by rw [o']; rfl) _ _
  · unfold callC
    exact decC_4 (by rw [o']; rfl) _ _

/-- a good frame is the frame of its body -/
theorem frame_of {L : List Int} (h8 : ∀ x ∈ L, 0 ≤ x ∧ x ≤ 255) (h0 : sumC L = 0) : L = frameL ((L[8]?.getD 0) :: L.drop 9) := by
  have hL := sumC_len h0
  have hw0 : wordN L 0 = (L.length : Int) - 8 := by
    unfold sumC at h0
    rw [if_neg (by omega)] at h0
    by_cases c : wordN L 0 = (L.length : Int) - 8
    · exact c
    · rw [if_pos c] at h0; cases h0
  have hw4 : wordN L 4 = (crcOf (L.drop 8) : Nat) := by
    unfold sumC at h0
    rw [if_neg (by omega), if_neg (fun h => h hw0)] at h0
    by_cases c : wordN L 4 = (crcOf (L.drop 8) : Nat)
    · exact c
    · rw [if_pos c] at h0; cases h0
  have hd : L.drop 8 = (L[8]?.getD 0) :: L.drop 9 := by
    rw [List.drop_eq_getElem_cons (show 8 < L.length by omega), List.getElem?_eq_getElem (show 8 < L.length by omega)]
    rfl
  have b := fun i => byte_at h8 i
  have b0 := b 0
  have b1 := b 1
  have b2 := b 2
  have b3 := b 3
  have b4 := b 4
  have b5 := b 5
  have b6 := b 6
  have b7 := b 7
  have e : L = [L[0]?.getD 0, L[1]?.getD 0, L[2]?.getD 0, L[3]?.getD 0, L[4]?.getD 0, L[5]?.getD 0, L[6]?.getD 0, L[7]?.getD 0] ++ L.drop 8 := by
    conv => lhs; rw [← List.take_append_drop 8 L]
    congr 1
    apply List.ext_getElem?
    intro i
    rw [List.getElem?_take]
    by_cases hi : i < 8
    · rw [if_pos hi]
      have : i = 0 ∨ i = 1 ∨ i = 2 ∨ i = 3 ∨ i = 4 ∨ i = 5 ∨ i = 6 ∨ i = 7 := by omega
      rcases this with rfl | rfl | rfl | rfl | rfl | rfl | rfl | rfl <;> (rw [List.getElem?_eq_getElem (by omega)]; rfl)
    · rw [if_neg hi, List.getElem?_eq_none (by simp; omega)]
  rw [← hd]
  have hn : (L.drop 8).length = L.length - 8 := List.length_drop
  conv => lhs; rw [e]
  unfold frameL wordL
  rw [hn]
  unfold wordN at hw0 hw4
  simp only [Nat.zero_add, Nat.reduceAdd] at hw0 hw4
  generalize crcOf (L.drop 8) = c at *
  have q0 : L[0]?.getD 0 = (((L.length - 8) % 256 : Nat) : Int) := by omega
  have q1 : L[1]?.getD 0 = (((L.length - 8) / 256 % 256 : Nat) : Int) := by omega
  have q2 : L[2]?.getD 0 = (((L.length - 8) / 65536 % 256 : Nat) : Int) := by omega
  have q3 : L[3]?.getD 0 = (((L.length - 8) / 16777216 % 256 : Nat) : Int) := by omega
  have q4 : L[4]?.getD 0 = ((c % 256 : Nat) : Int) := by omega
  have q5 : L[5]?.getD 0 = ((c / 256 % 256 : Nat) : Int) := by omega
  have q6 : L[6]?.getD 0 = ((c / 65536 % 256 : Nat) : Int) := by omega
  have q7 : L[7]?.getD 0 = ((c / 16777216 % 256 : Nat) : Int) := by omega
  rw [q0, q1, q2, q3, q4, q5, q6, q7]
  rfl
theorem decC_open {l : List Int} {lo hi : Int} {left : RSt} {f : Int} (h : (decC l lo hi left f).1 = 0) : sumC l = 0 ∧ inB (l[8]?.getD 0) lo hi = true ∧ left = some [] ∧ f = 0 := by
  obtain ⟨h1, h2, h3⟩ := decC_zero h
  unfold openC at h1
  by_cases c : sumC l = 0
  · rw [if_neg (fun h => h c)] at h1
    refine ⟨c, ?_, h2, h3⟩
    cases hi' : inB (l[8]?.getD 0) lo hi with
    | true => rfl
    | false => rw [hi', if_pos rfl] at h1; cases h1
  · rw [if_pos c] at h1
    exact absurd h1 c
theorem msg_back {L : List Int} (h8 : ∀ x ∈ L, 0 ≤ x ∧ x ≤ 255) (h : (msgC L).1 = 0) :
    encMsg (L[8]?.getD 0) (rdMsg (some (L.drop 9))).fr (rdMsg (some (L.drop 9))).tq (rdMsg (some (L.drop 9))).tm (rdMsg (some (L.drop 9))).li (rdMsg (some (L.drop 9))).lt (rdMsg (some (L.drop 9))).cm (rdMsg (some (L.drop 9))).ok (rdMsg (some (L.drop 9))).hi (rdMsg (some (L.drop 9))).es = L := by
  obtain ⟨h0, hin, hl, hf⟩ := decC_open h
  have hk := (inB_iff _ _ _).1 hin
  have hr := rdMsg_read (fun x hx => h8 x (List.mem_of_mem_drop hx)) hl
  rw [List.append_nil] at hr
  have he := frame_of h8 h0
  unfold encMsg
  rw [if_pos hf]
  simp only [Int.toNat_natCast]
  rw [msgL_mg _ _ _ _ _ _ _ _ _ _ (rdMsg (some (L.drop 9))).left, Int.toNat_of_nonneg (by omega)]
  have e2 : mgL ⟨(rdMsg (some (L.drop 9))).fr, (rdMsg (some (L.drop 9))).tq, (rdMsg (some (L.drop 9))).tm, (rdMsg (some (L.drop 9))).li, (rdMsg (some (L.drop 9))).lt, (rdMsg (some (L.drop 9))).cm, (rdMsg (some (L.drop 9))).ok, (rdMsg (some (L.drop 9))).hi, (rdMsg (some (L.drop 9))).es, (rdMsg (some (L.drop 9))).left⟩ = mgL (rdMsg (some (L.drop 9))) := rfl
  rw [e2, ← hr]
  exact he.symm
theorem call_back {L : List Int} (h8 : ∀ x ∈ L, 0 ≤ x ∧ x ≤ 255) (h : (callC L).1 = 0) :
    encCallL (rdCmd (some (L.drop 9))).cl (rdCmd (some (L.drop 9))).sq (rdCmd (some (L.drop 9))).op (rdCmd (some (L.drop 9))).k (rdCmd (some (L.drop 9))).v (rdCmd (some (L.drop 9))).o = L := by
  obtain ⟨h0, hin, hl, hf⟩ := decC_open h
  have hk := (inB_iff _ _ _).1 hin
  have hr := rdCmd_read (fun x hx => h8 x (List.mem_of_mem_drop hx)) hl
  have he := frame_of h8 h0
  rw [show L[8]?.getD 0 = 7 by omega] at he
  unfold encCallL
  rw [if_pos hf]
  simp only [Int.toNat_natCast]
  rw [cmdL_cm]
  rw [List.append_nil] at hr
  rw [← hr]
  exact he.symm
theorem reply_back {L : List Int} (h8 : ∀ x ∈ L, 0 ≤ x ∧ x ≤ 255) (h : (repC L).1 = 0) :
    encReply (rdReply (some (L.drop 9))).cl (rdReply (some (L.drop 9))).sq (rdReply (some (L.drop 9))).st (rdReply (some (L.drop 9))).cd (rdReply (some (L.drop 9))).ld (rdReply (some (L.drop 9))).v = L := by
  obtain ⟨h0, hin, hl, hf⟩ := decC_open h
  have hk := (inB_iff _ _ _).1 hin
  have hr := rdReply_read (fun x hx => h8 x (List.mem_of_mem_drop hx)) hl
  have he := frame_of h8 h0
  rw [show L[8]?.getD 0 = 8 by omega] at he
  unfold encReply
  rw [if_pos hf]
  simp only [Int.toNat_natCast]
  rw [repL_rp]
  rw [List.append_nil] at hr
  rw [← hr]
  exact he.symm
end Go.Proofs.YtafmjckpbcijoaaGreatDoor
