/-
  impl.putNumber, impl.putNumbers, impl.putText, impl.putWord.
-/
import Derived.Test.YtfcmffdljfljkaaNumPlain
import Derived.Test.YtfcmffdljfljkaaGround
namespace Go.Proofs.Ytfcmffdljfljkaa
open Go.RowKit
set_option linter.unusedVariables false

set_option maxHeartbeats 1000000 in
set_option maxRecDepth 100000 in
theorem putNumber_any (v : Value) (l : List Int) (n : Nat) (w : World) (B : Nat) (hv : Own w B v l) (hB : B ≤ w.heap.size) (hl : l.length ≤ 1000000000) (hn : n < 9223372036854775808) :
    Calls Try.prog 168 #[v, .int .i64 n] w fun e w' => ∃ v', e = .returned v' ∧ Own w' B v' (l ++ numL n) ∧ Grew w v w' v' := by
  go_enter Try.func168, Try.ntmps168
  go_wp2
  go_loopw [0, 1] (fun o i wr => ∃ (m : Nat) (l' : List Int), i = .int .i64 m ∧ m ≤ n ∧ Own wr B o (l ++ l') ∧ l' ++ numL m = numL n ∧ Grew w v wr o) (fun _ i _ => (intOf i).toNat)
  case atStart => exact ⟨n, [], rfl, Nat.le_refl _, by simpa using hv, by simp, Grew.refl _ _⟩
  case round =>
    obtain ⟨m, l', rfl, hmn, ho, hnum, hb⟩ := hrel
    have HN : Hid (l' ++ numL m = numL n) := hnum
    have hsz := hb.g.size
    have hlen : l'.length + (numL m).length ≤ 9 := by
      have h1 := congrArg List.length hnum
      have h2 := numL_len9 n hn
      simp at h1; omega
    have hpos := numL_pos m
    clear hnum
    by_cases hlt : m < 128
    · have HS : Hid (numL m = [(m : Int)]) := numL_small hlt
      go_wp2_with (at_builtin; refine wpl_append rfl (.tmp 15) (.tmp 18) rfl (ho.below ((Below.refl _ _).alloc (Nat.le_refl _) _)) rfl (Bs.one _ (m : Int) (by omega)) rfl (by simp) (by simp; omega) (by simp; omega) ?_; intro v' w' ho' hb')
      go_ret
      refine ⟨_, rfl, ?_, (hb.alloc _).trans hb'⟩
      rw [← HN.out, HS.out, ← List.append_assoc]
      exact ho'
    · have HS : Hid (numL m = ((m % 128 + 128 : Nat) : Int) :: numL (m / 128)) := numL_big hlt
      have hor := or_128 m
      go_wp2_with (at_builtin; refine wpl_append rfl (.tmp 7) (.tmp 11) rfl (ho.below ((Below.refl _ _).alloc (Nat.le_refl _) _)) rfl (Bs.one _ ((m % 128 + 128 : Nat) : Int) (by omega)) rfl (by simp) (by simp; omega) (by simp; omega) ?_; intro v' w' ho' hb')
      go_roundw
      case rel => exact ⟨m / 128, l' ++ [((m % 128 + 128 : Nat) : Int)], by go_num, by omega, by rw [← List.append_assoc]; exact ho', by rw [← HN.out, HS.out]; simp, (hb.alloc _).trans hb'⟩
      case measure => simp [intOf]; omega

/-- a slice of ints holds the numbers ns -/
def Ints (w : World) (v : Value) (ns : List Nat) : Prop :=
  ∃ b cap, v = .slice (some ⟨b, 0, none⟩) ns.length cap ∧ ∀ j, j < ns.length → w.cell? ⟨b, j, none⟩ = some (.int .i64 (ns[j]?.getD 0 : Nat))

def numsL (ns : List Nat) : List Int := ns.flatMap numL
theorem numsL_snoc (ns : List Nat) (k : Nat) (h : k < ns.length) : numsL (ns.take (k + 1)) = numsL (ns.take k) ++ numL (ns[k]?.getD 0) := by
  rw [List.take_succ_eq_append_getElem h, numsL, numsL, List.flatMap_append]
  simp [h]
theorem numsL_len (ns : List Nat) (h : ∀ n ∈ ns, n < 9223372036854775808) : (numsL ns).length ≤ 9 * ns.length := by
  induction ns with
  | nil => simp [numsL]
  | cons n r ih =>
    have h1 := numL_len9 n (h n (by simp))
    have h2 := ih (fun m hm => h m (by simp [hm]))
    simp only [numsL, List.flatMap_cons, List.length_append, List.length_cons] at h2 ⊢
    omega

set_option maxHeartbeats 1000000 in
set_option maxRecDepth 100000 in
theorem putNumbers_any (v : Value) (l : List Int) (ns : List Nat) (b cap : Nat) (w : World) (B : Nat) (hv : Own w B v l) (hB : B ≤ w.heap.size) (hl : l.length ≤ 900000000) (hns : ∀ n ∈ ns, n < 9223372036854775808) (hnl : ns.length ≤ 100)
    (hc : ∀ j, j < ns.length → w.cell? ⟨b, j, none⟩ = some (.int .i64 (ns[j]?.getD 0 : Nat))) (hfar : v.ownBlock ≠ some b) :
    Calls Try.prog 162 #[v, .slice (some ⟨b, 0, none⟩) ns.length cap] w fun e w' => ∃ v', e = .returned v' ∧ Own w' B v' (l ++ numsL ns) ∧ Grew w v w' v' := by
  go_enter Try.func162, Try.ntmps162
  go_wp2
  go_loopw [0, 9] (fun o i wr => ∃ k : Nat, k ≤ ns.length ∧ i = .int .i64 k ∧ Own wr B o (l ++ numsL (ns.take k)) ∧ Grew w v wr o) (fun _ i _ => ns.length - (intOf i).toNat)
  case atStart => exact ⟨0, Nat.zero_le _, rfl, by simpa [numsL] using hv, Grew.refl _ _⟩
  case round =>
    obtain ⟨k, hk, rfl, ho, hb⟩ := hrel
    have hsz := hb.g.size
    by_cases hlt : k < ns.length
    · have hlen := numsL_len (ns.take k) (fun n hn => hns n (List.mem_of_mem_take hn))
      rw [List.length_take] at hlen
      have hck : wr.cell? ⟨b, k, none⟩ = some (.int .i64 (ns[k]?.getD 0 : Nat)) := by rw [hb.cell (cell_lt (hc k hlt)) hfar]; exact hc k hlt
      have hn : ns[k]?.getD 0 < 9223372036854775808 := by simp [hlt]; exact hns _ (List.getElem_mem hlt)
      have HS : Hid (numsL (ns.take (k + 1)) = numsL (ns.take k) ++ numL (ns[k]?.getD 0)) := numsL_snoc ns k hlt
      generalize ns[k]?.getD 0 = n at hck hn HS
      clear hc
      go_wp2_with (go_at_call 168; refine (putNumber_any _ _ n _ B ho (by omega) (by simp; omega) hn).mono ?_; rintro e w' ⟨v', rfl, ho', hb'⟩)
      go_roundw
      case rel => exact ⟨k + 1, by omega, by go_num, by rw [HS.out, ← List.append_assoc]; exact ho', hb.trans hb'⟩
      case measure => simp [intOf]; omega
    · have e : k = ns.length := by omega
      subst e
      rw [List.take_length] at ho
      go_wp2
      go_ret
      exact ⟨_, rfl, ho, hb⟩

def textL (s : ByteArray) : List Int := numL s.size ++ strL s

set_option maxHeartbeats 1000000 in
set_option maxRecDepth 100000 in
theorem putText_any (v : Value) (l : List Int) (s : ByteArray) (w : World) (B : Nat) (hv : Own w B v l) (hB : B ≤ w.heap.size) (hl : l.length ≤ 1000000) (hs : s.size ≤ 1048576) :
    Calls Try.prog 171 #[v, .string s] w fun e w' => ∃ v', e = .returned v' ∧ Own w' B v' (l ++ textL s) ∧ Grew w v w' v' := by
  have h9 := numL_len9 s.size (by omega)
  have hpos := numL_pos s.size
  go_enter Try.func171, Try.ntmps171
  go_wp2_with (first
    | (go_at_call 168; refine (putNumber_any _ _ s.size _ B hv (by omega) (by omega) (by omega)).mono ?_; rintro e w1 ⟨v1, rfl, ho1, hb1⟩; have hsz := hb1.g.size)
    | (at_builtin; refine wpl_append_str rfl (.tmp 8) (.tmp 9) rfl ho1 (by simp; omega) rfl rfl (by simp; omega) (by omega) ?_; intro v2 w2 ho2 hb2))
  go_ret
  exact ⟨_, rfl, by rw [textL, ← List.append_assoc]; exact ho2, hb1.trans hb2⟩

/-- a word of four bytes, the lowest first -/
def wordL (x : Nat) : List Int := [((x % 256 : Nat) : Int), ((x / 256 % 256 : Nat) : Int), ((x / 65536 % 256 : Nat) : Int), ((x / 16777216 % 256 : Nat) : Int)]
theorem Bs.four (w : World) (x : Nat) (a b c d : Int) (ha : a = ((x % 256 : Nat) : Int)) (hb : b = ((x / 256 % 256 : Nat) : Int)) (hc : c = ((x / 65536 % 256 : Nat) : Int)) (hd : d = ((x / 16777216 % 256 : Nat) : Int)) :
    Bs (w.alloc (.cells #[.int .u8 a, .int .u8 b, .int .u8 c, .int .u8 d] 5)) (.slice (some ⟨w.heap.size, 0, none⟩) 4 4) (wordL x) := by
  subst ha hb hc hd
  have := (Own.lit w (wordL x) #[.int .u8 ((x % 256 : Nat) : Int), .int .u8 ((x / 256 % 256 : Nat) : Int), .int .u8 ((x / 65536 % 256 : Nat) : Int), .int .u8 ((x / 16777216 % 256 : Nat) : Int)] rfl (by simp only [wordL]; intro y hy; simp only [List.mem_cons, List.not_mem_nil, or_false] at hy; omega) (by simp [wordL, maxLen])).bs (by simp [wordL, maxLen])
  simpa [wordL] using this

set_option maxHeartbeats 1000000 in
set_option maxRecDepth 100000 in
theorem putWord_any (v : Value) (l : List Int) (x : Nat) (w : World) (B : Nat) (hv : Own w B v l) (hB : B ≤ w.heap.size) (hl : l.length ≤ 1000000) (hx : x < 4294967296) :
    Calls Try.prog 114 #[v, .int .u32 x] w fun e w' => ∃ v', e = .returned v' ∧ Own w' B v' (l ++ wordL x) ∧ Grew w v w' v' := by
  go_enter Try.func114, Try.ntmps114
  go_wp2_with (at_builtin; refine wpl_append rfl (.tmp 5) (.tmp 17) rfl (hv.below ((Below.refl _ _).alloc (Nat.le_refl _) _)) rfl (Bs.four _ x _ _ _ _ (by omega) (by omega) (by omega) (by omega)) rfl (by simp [wordL]) (by simp [wordL]; omega) (by simp; omega) ?_; intro v' w' ho' hb')
  go_ret
  exact ⟨_, rfl, ho', ((Grew.refl _ _).alloc _).trans hb'⟩

theorem textL_len (s : ByteArray) (h : s.size < 9223372036854775808) : (textL s).length ≤ 9 + s.size := by
  have := numL_len9 s.size h
  simp [textL, strL_len]; omega

theorem textL_pos (s : ByteArray) : 0 < (textL s).length := by
  have := numL_pos s.size
  simp [textL]; omega

theorem Grew.held {w w' : World} {v v' : Value} (h : Grew w v w' v') {b o : Nat} {x : Value} (hc : w.cell? ⟨b, o, none⟩ = some x) (hne : v.ownBlock ≠ some b) : w'.cell? ⟨b, o, none⟩ = some x := (h.cell (cell_lt hc) hne).trans hc
end Go.Proofs.Ytfcmffdljfljkaa
