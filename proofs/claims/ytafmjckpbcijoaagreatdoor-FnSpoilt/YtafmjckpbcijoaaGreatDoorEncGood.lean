/-
  What is drawn is not too long; what is encoded is a good frame (pure).
-/
import Derived.Test.YtafmjckpbcijoaaGreatDoorDrEm
import Derived.Test.YtafmjckpbcijoaaGreatDoorEncMsg
import Derived.Test.YtafmjckpbcijoaaGreatDoorEncCall
import Derived.Test.YtafmjckpbcijoaaGreatDoorEncReply
import Derived.Test.YtafmjckpbcijoaaGreatDoorSumFrame
namespace Go.Proofs.YtafmjckpbcijoaaGreatDoor
open Go.RowKit
set_option linter.unusedVariables false
set_option linter.unusedSimpArgs false

theorem encC_ok (l : List Int) : (encC l).ky.size ≤ 100 ∧ (encC l).vl.size ≤ 100 ∧ (encC l).ol.size ≤ 100 := by
  have hf := cmd_facts l 0
  have h1 : ∀ k, pickV l k 2 < 2 := fun k => pickV_lt l k 2 (by decide)
  unfold encC
  split
  · unfold badC
    have a1 := h1 (cmdK l 0 + 1 + 1)
    have a2 := h1 (cmdK l 0 + 1 + 1 + 1 + 1)
    have a3 := h1 (cmdK l 0 + 1 + 1 + 1 + 1 + 1)
    have a4 := h1 (cmdK l 0 + 1 + 1 + 1 + 1 + 1 + 1)
    unfold drC
    repeat' split
    all_goals (try dsimp only)
    all_goals (try simp only [longV_size])
    all_goals first | omega | (refine ⟨?_, ?_, ?_⟩ <;> first | omega | decide)
  · unfold drC
    dsimp only
    omega
theorem encY_ok (l : List Int) : (encY l).vl.size ≤ 100 := by
  have hf := rep_facts l 0
  have h1 : ∀ k, pickV l k 2 < 2 := fun k => pickV_lt l k 2 (by decide)
  unfold encY
  split
  · unfold badY
    have a1 := h1 (repK l 0 + 1 + 1 + 1)
    unfold drY
    repeat' split
    all_goals (try dsimp only)
    all_goals (try simp only [longV_size])
    all_goals omega
  · unfold drY
    dsimp only
    omega
theorem ite_both {α : Type} {P : α → Prop} {c : Prop} [Decidable c] {a b : α} (ha : P a) (hb : P b) : P (if c then a else b) := by
  by_cases h : c
  · rw [if_pos h]; exact ha
  · rw [if_neg h]; exact hb
theorem badN_len (l : List Int) (V : Int) (k : Nat) (m : MsgE) (hm : m.es.length ≤ 32) : (badN l V k m).1.es.length ≤ 100 := by
  have a1 := pickV_lt l (k + 1) 4 (by decide)
  unfold badN
  repeat' refine ite_both (P := fun z : MsgE × Nat => z.1.es.length ≤ 100) ?_ ?_
  all_goals (try dsimp only)
  all_goals (try simp only [List.length_set, entsD_len])
  all_goals omega
theorem encM_ok (l : List Int) : (encM l).es.length ≤ 100 := by
  have hd : (drM l).es.length ≤ 32 := (msgD_ok l 0).2.2.2.2.1
  unfold encM
  refine ite_both (P := fun z : MsgE => z.es.length ≤ 100) (badN_len _ _ _ _ hd) ?_
  omega
theorem good_frame {b : List Int} (h8 : ∀ x ∈ frameL b, 0 ≤ x ∧ x ≤ 255) (h1 : 0 < b.length) (h2 : b.length ≤ 16376) : sumC (frameL b) = 0 :=
  sum_frame b (fun x hx => h8 x (List.mem_append_right _ hx)) h1 h2
theorem encMsg_good {ki fr td tm li lt cm ok hi : Int} {l : List Ent} (hF : msgF ki fr td tm li lt cm ok hi l = 0) (h8 : ∀ x ∈ encMsg ki fr td tm li lt cm ok hi l, 0 ≤ x ∧ x ≤ 255) : sumC (encMsg ki fr td tm li lt cm ok hi l) = 0 := by
  unfold encMsg at h8 ⊢
  rw [if_pos hF] at h8 ⊢
  obtain ⟨⟨a1, a2⟩, ⟨a3, a4⟩, ⟨a5, a6⟩, ⟨a7, a8⟩, ⟨a9, a10⟩, ⟨a11, a12⟩, ⟨a13, a14⟩, ⟨a15, a16⟩, ⟨a17, a18⟩, hl32, hall⟩ := msgF_ok hF
  obtain ⟨hp, hlen⟩ := msgL_len ki.toNat fr.toNat td.toNat tm.toNat li.toNat lt.toNat cm.toNat ok.toNat hi.toNat l (by simp; omega) hl32 hall
  exact good_frame h8 hp (by omega)
def encCallL (cl sq op : Int) (k v o : ByteArray) : List Int := if callF cl sq op k.size v.size o.size = 0 then frameL (7 :: cmdL cl.toNat sq.toNat op.toNat k v o) else []
theorem encCall_good {cl sq op : Int} {k v o : ByteArray} (hF : cmdF cl sq op k.size v.size o.size = 0) (hop : op ≠ 0) (h8 : ∀ x ∈ encCallL cl sq op k v o, 0 ≤ x ∧ x ≤ 255) : sumC (encCallL cl sq op k v o) = 0 := by
  have hc : callF cl sq op k.size v.size o.size = 0 := by
    unfold callF
    rw [if_neg (fun h => hop h.2)]
    exact hF
  unfold encCallL at h8 ⊢
  rw [if_pos hc] at h8 ⊢
  obtain ⟨a1, a2, a3, a4, a5, a6, a7, a8, a9⟩ := cmdF_ok hF
  have hlen := cmdL_len cl.toNat sq.toNat op.toNat k v o (by omega) (by omega) (by omega) (by omega) (by omega) (by omega)
  exact good_frame h8 (by simp) (by simp; omega)
theorem encReply_good {cl sq st cd ld : Int} {v : ByteArray} (hF : repF cl sq st cd v.size ld = 0) (h8 : ∀ x ∈ encReply cl sq st cd ld v, 0 ≤ x ∧ x ≤ 255) : sumC (encReply cl sq st cd ld v) = 0 := by
  unfold encReply at h8 ⊢
  rw [if_pos hF] at h8 ⊢
  obtain ⟨a1, a2, a3, a4, a5, a6, a7, a8, a9, a10, a11⟩ := repF_ok hF
  obtain ⟨hp, hlen⟩ := repL_len cl.toNat sq.toNat st.toNat cd.toNat ld.toNat v (by omega) (by omega) (by omega) (by omega) (by omega) (by omega)
  exact good_frame h8 hp (by omega)
theorem encReply_bad {cl sq st cd ld : Int} {v : ByteArray} (hF : ¬ repF cl sq st cd v.size ld = 0) : encReply cl sq st cd ld v = [] := by
  unfold encReply
  rw [if_neg hF]
end Go.Proofs.YtafmjckpbcijoaaGreatDoor
