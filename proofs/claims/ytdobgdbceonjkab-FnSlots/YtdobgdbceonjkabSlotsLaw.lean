/-
  The draws of TimeoutOf and SlotDraw; laws.far; FnSlots.
-/
import Derived.Test.YtdobgdbceonjkabSrc
import Derived.Test.YtdobgdbceonjkabTimeout
import Derived.Test.YtdobgdbceonjkabSlotDraw
import Derived.Deep.DeepCutAuto
namespace Go.Proofs.Ytdobgdbceonjkab
open Go.RowKit
set_option linter.unusedVariables false

theorem results_tmp4 {fn : Func} {t u v x : Tmp} (h : fn.results = #[.tmp t, .tmp u, .tmp v, .tmp x]) (tmps : Array Value) (P : Program) (w : World) :
    (results fn tmps).run P w = .ok (.tuple #[tmps.getD t undef, tmps.getD u undef, tmps.getD v undef, tmps.getD x undef]) w := by
  simp [results, h]

/-- the source of a draw that began in the world w0 -/
def Drw (w0 w : World) (g : Nat) (v : Value) (l : List Int) (K : Nat) : Prop :=
  (∃ k, k ≤ K ∧ Src w g v l k) ∧ Below w0.heap.size w0 w ∧ w0.heap.size ≤ g

theorem Drw.start (w : World) (v : Value) (l : List Int) (h : Bs w v l) (T : Nat) : Drw w (w.alloc (.cells #[v, .int .i64 0] T)) w.heap.size v l 0 :=
  ⟨⟨0, Nat.le_refl _, Src.start w v l h _⟩, (Below.refl _ _).alloc (Nat.le_refl _) _, Nat.le_refl _⟩

theorem pick_e (w0 w : World) (g : Nat) (v : Value) (l : List Int) (K : Nat) (n : Int) (hL : l.length ≤ 1048576) (hK : K ≤ 900000000) (hn : 0 < n) (hN : n ≤ 1000000) (h : Drw w0 w g v l K) :
    Calls Try.prog 39 #[.pointer (some ⟨g, 0, none⟩), .int .i64 n] w fun e w' => ∃ x : Int, e = .returned (.int .i64 x) ∧ 0 ≤ x ∧ x < n ∧ Drw w0 w' g v l (K + 4) := by
  obtain ⟨m, rfl⟩ := Int.eq_ofNat_of_zero_le (Int.le_of_lt hn)
  obtain ⟨⟨k, hk, hs⟩, hb, hg⟩ := h
  refine (l1pick_any g w v l k m hL (by omega) (by omega) (by omega) hs).mono ?_
  rintro e w1 ⟨rfl, hs1, hg1⟩
  have h4 := pickK_le m
  have hlt := pickV_lt l k m (by omega)
  exact ⟨_, rfl, by omega, by omega, ⟨_, by omega, hs1⟩, hb.grown hg1 hb.size (fun j hj => by injection hj with hj; omega), hg⟩

set_option maxHeartbeats 2000000 in
set_option maxRecDepth 100000 in
theorem drawTimeoutOf_any (v : Value) (l : List Int) (w : World) (hL : l.length ≤ 1048576) (h : Bs w v l) :
    Calls Try.prog 17 #[v] w fun e w' => ∃ a d : Int, e = .returned (.tuple #[.int .i64 a, .int .i64 d]) ∧ (0 ≤ a ∧ a ≤ 2000 ∧ -100000 ≤ d ∧ d ≤ 100000) ∧ Below w.heap.size w w' := by
  have HD : Hid (Drw w (w.alloc (.cells #[v, .int .i64 0] 60)) w.heap.size v l 0) := Drw.start w v l h _
  obtain ⟨_, _, a0, cap0, rfl, _⟩ := h
  go_enter Try.func17, Try.ntmps17
  go_wp2_with (go_at_call 39; refine (pick_e w _ _ _ l _ _ hL (by decide) (by decide) (by decide) HD.out).mono ?_; rintro e w1 ⟨x, rfl, x0, x1, hd⟩; replace HD : Hid _ := hd; clear hd)
  all_goals go_ret2
  all_goals exact ⟨_, _, rfl, by omega, HD.out.2.1⟩

set_option maxHeartbeats 2000000 in
set_option maxRecDepth 100000 in
theorem drawSlotDraw_any (v : Value) (l : List Int) (w : World) (hL : l.length ≤ 1048576) (h : Bs w v l) :
    Calls Try.prog 19 #[v] w fun e w' => ∃ a s i r : Int, e = .returned (.tuple #[.int .i64 a, .int .i64 s, .int .i64 i, .int .i64 r]) ∧ (0 ≤ a ∧ a ≤ 2000 ∧ 0 ≤ s ∧ s ≤ 20 ∧ -2 ≤ r ∧ r ≤ 1099511627800) ∧ Below w.heap.size w w' := by
  have HD : Hid (Drw w (w.alloc (.cells #[v, .int .i64 0] 60)) w.heap.size v l 0) := Drw.start w v l h _
  obtain ⟨_, _, a0, cap0, rfl, _⟩ := h
  go_enter Try.func19, Try.ntmps19
  go_wp2_with (go_at_call 39; refine (pick_e w _ _ _ l _ _ hL (by decide) (by decide) (by decide) HD.out).mono ?_; rintro e w1 ⟨x, rfl, x0, x1, hd⟩; replace HD : Hid _ := hd; clear hd)
  all_goals (try simp only [Exit.inBlock, Exit.then])
  all_goals refine bodyPost_ret (results_tmp4 rfl _ _ _) rfl ?_
  all_goals exact ⟨_, _, _, _, rfl, by omega, HD.out.2.1⟩

def farB (a b : Int) : Bool := decide (8 ≤ a - b) || decide (8 ≤ b - a)
theorem far_any (a b : Int) (ha : 0 ≤ a) (ha' : a ≤ 2199023255552) (hb : 0 ≤ b) (hb' : b ≤ 2199023255552) (w : World) :
    Calls Try.prog 21 #[.int .i64 a, .int .i64 b] w fun e w' => e = .returned (.bool (farB a b)) ∧ w' = w := by
  by_cases h1 : 8 ≤ a - b
  · have hf : farB a b = true := by simp [farB, h1]
    rw [hf]
    go_enter Try.func21, Try.ntmps21
    go_wp2
    go_ret
    exact ⟨rfl, rfl⟩
  · have hf : farB a b = decide (8 ≤ b - a) := by simp [farB, h1]
    rw [hf]
    go_enter Try.func21, Try.ntmps21
    go_wp2
    go_ret
    exact ⟨rfl, rfl⟩

theorem toutC_in' {el : Int} (dr : Int) (h1 : 1 ≤ el) (h2 : el ≤ 1000) : toutC el dr = el + modI dr el := toutC_in dr (by rw [inB_iff]; omega)
theorem slotC_in {el sz id rd : Int} (h1 : 1 ≤ el) (h2 : el ≤ 1000) (h3 : sz = 3 ∨ sz = 5 ∨ sz = 7) (h4 : 1 ≤ id) (h5 : id ≤ sz) (h6 : 0 ≤ rd) (h7 : rd ≤ 1099511627776) :
    slotC el sz id rd = modI ((id - 1) * el.tdiv sz - rd) el := by
  unfold slotC
  rw [if_pos]
  simp only [slotB, Bool.and_eq_true, inB_iff, sizeB_iff]
  omega

/-- where a slotted timer ends -/
def slotEnd (el sz i r : Int) : Int := r + toutC el (slotC el sz i r)

theorem slotEnd_is {el sz i r : Int} (h1 : 8 * sz ≤ el) (h2 : el ≤ 1000) (h3 : sz = 3 ∨ sz = 5 ∨ sz = 7) (h4 : 1 ≤ i) (h5 : i ≤ sz) (h6 : 0 ≤ r) (h7 : r ≤ 1099511627776) :
    r + el ≤ slotEnd el sz i r ∧ slotEnd el sz i r ≤ r + 2000 ∧ ∃ m : Int, slotEnd el sz i r = (i - 1) * el.tdiv sz + el * m := by
  have he : 1 ≤ el := by omega
  unfold slotEnd
  rw [slotC_in he h2 h3 h4 h5 h6 h7, toutC_in' _ he h2]
  have hm : modI (modI ((i - 1) * el.tdiv sz - r) el) el = modI ((i - 1) * el.tdiv sz - r) el := by
    unfold modI; exact Int.emod_emod_of_dvd _ (Int.dvd_refl _)
  rw [hm]
  have g0 := modI_ge ((i - 1) * el.tdiv sz - r) el (by omega)
  have g1 := modI_lt ((i - 1) * el.tdiv sz - r) el (by omega)
  refine ⟨by omega, by omega, 1 - ((i - 1) * el.tdiv sz - r) / el, ?_⟩
  unfold modI
  have hd := Int.emod_add_mul_ediv ((i - 1) * el.tdiv sz - r) el
  rw [Int.mul_sub]
  omega

theorem slots_far {el sz i j r q : Int} (h1 : 8 * sz ≤ el) (h2 : el ≤ 1000) (h3 : sz = 3 ∨ sz = 5 ∨ sz = 7) (hi : 1 ≤ i) (hi' : i ≤ sz) (hj : 1 ≤ j) (hj' : j ≤ sz) (hr : 0 ≤ r) (hr' : r ≤ 1099511627776) (hq : 0 ≤ q) (hq' : q ≤ 1099511627776) (hne : i ≠ j) :
    farB (slotEnd el sz i r) (slotEnd el sz j q) = true := by
  obtain ⟨_, _, m, hm⟩ := slotEnd_is h1 h2 h3 hi hi' hr hr'
  obtain ⟨_, _, n, hn⟩ := slotEnd_is h1 h2 h3 hj hj' hq hq'
  have hk : 8 ≤ el.tdiv sz ∧ sz * el.tdiv sz ≤ el := by
    have e := Int.tmod_add_mul_tdiv el sz
    have t0 := Int.tmod_nonneg sz (a := el) (by omega)
    have t1 := Int.tmod_lt_of_pos el (b := sz) (by omega)
    refine ⟨?_, by omega⟩
    rcases Int.lt_or_le (el.tdiv sz) 8 with h | h
    · have : sz * el.tdiv sz ≤ sz * 7 := Int.mul_le_mul_of_nonneg_left (by omega) (by omega)
      omega
    · exact h
  obtain ⟨k8, hks⟩ := hk
  generalize el.tdiv sz = k at hm hn k8 hks
  generalize slotEnd el sz i r = a at hm ⊢
  generalize slotEnd el sz j q = b at hn ⊢
  have hd : a - b = (i - j) * k + el * (m - n) := by
    rw [hm, hn, Int.sub_mul, Int.sub_mul, Int.mul_sub, Int.sub_mul]; omega
  have hp : (k ≤ (i - j) * k ∧ (i - j) * k ≤ (sz - 1) * k) ∨ ((i - j) * k ≤ -k ∧ -((sz - 1) * k) ≤ (i - j) * k) := by
    rcases Int.lt_or_gt_of_ne hne with h | h
    · right
      have a1 : (i - j) * k ≤ (-1) * k := Int.mul_le_mul_of_nonneg_right (by omega) (by omega)
      have a2 : (-(sz - 1)) * k ≤ (i - j) * k := Int.mul_le_mul_of_nonneg_right (by omega) (by omega)
      rw [Int.neg_mul] at a2
      omega
    · left
      have a1 : 1 * k ≤ (i - j) * k := Int.mul_le_mul_of_nonneg_right (by omega) (by omega)
      have a2 : (i - j) * k ≤ (sz - 1) * k := Int.mul_le_mul_of_nonneg_right (by omega) (by omega)
      omega
  have hs : (sz - 1) * k = sz * k - k := by rw [Int.sub_mul]; omega
  have hdm : m - n = 0 ∨ (1 ≤ m - n) ∨ (m - n ≤ -1) := by omega
  have hz : farB a b = true := by
    unfold farB
    simp only [Bool.or_eq_true, decide_eq_true_eq]
    rcases hdm with h | h | h
    · rw [h] at hd; simp only [Int.mul_zero] at hd; omega
    · have : el * 1 ≤ el * (m - n) := Int.mul_le_mul_of_nonneg_left h (by omega)
      omega
    · have : el * (m - n) ≤ el * (-1) := Int.mul_le_mul_of_nonneg_left h (by omega)
      omega
  exact hz

end Go.Proofs.Ytdobgdbceonjkab
