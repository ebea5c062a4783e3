/-
  impl.readLine.
-/
import Derived.Test.YtanpindbhdeomaaGreatDoorPsIr
import Derived.Test.YtanpindbhdeomaaGreatDoorPsId
import Derived.Test.YtanpindbhdeomaaGreatDoorPsIs
import Derived.Test.YtanpindbhdeomaaGreatDoorSkWdI
namespace Go.Proofs.YtanpindbhdeomaaGreatDoor
open Go.RowKit
set_option linter.unusedVariables false
set_option linter.unusedSimpArgs false

/-- a script in its block -/
def scA (u : Sup) (vd vs : Value) : Array Value := #[.int .i64 u.s, .int .i64 u.c, .int .i64 u.el, .int .i64 u.b, .int .i64 u.r, .int .i64 u.d, vd, vs]
/-- what a line leaves -/
def LnP (k : Nat) (x : Scr) (l : List UInt8) (b B : Nat) (vs : Value) (w : World) (e : Ending) (w' : World) : Prop :=
  ∃ (U : Sup) (ad : Option Addr) (nd cd : Nat) (av : Option Addr) (nv cv : Nat), e = .returned (.int .i64 (lineQ k x l).1) ∧ Blk w' b (scA U (.slice ad nd cd) (.slice av nv cv)) 27 ∧
    ((lineQ k x l).1 = 0 → U = (lineQ k x l).2.u ∧ OwnG inC 1 3 w' B (.slice ad nd cd) (lineQ k x l).2.ds ∧ OwnG stC 10 48 w' B (.slice av nv cv) (lineQ k x l).2.ss ∧ (lineQ k x l).2.ss.length ≤ 4096) ∧ Gr2 w b vs w' (.slice av nv cv)
theorem lineQ_bad {k : Nat} {x : Scr} {l : List UInt8} (h : (spl 32 l).all wordB = false) : (lineQ k x l).1 = 3 := by
  unfold lineQ setL drawL stepN
  rw [if_pos h, if_pos h, if_pos h]
  split
  · rfl
  · split <;> rfl
section
variable {k : Nat} {x : Scr} {l : List UInt8} {b B : Nat} {ad : Option Addr} {nd cd : Nat} {av : Option Addr} {cv : Nat} {w z : World}
theorem LnP.one (hb : Blk w b (scA x.u (.slice ad nd cd) (.slice av x.ss.length cv)) 27) (hd : OwnG inC 1 3 w B (.slice ad nd cd) x.ds) (hs : OwnG stC 10 48 w B (.slice av x.ss.length cv) x.ss) (hsl : x.ss.length ≤ 4096)
    (hz : Below w.heap.size w z) (hok : (spl 32 l).all wordB = true) (hl : l.length ≤ 65536) (he : EnvP w) (v : Value) (hv : OwnG txC 1 9 z w.heap.size v ((spl 32 l).map sOf)) :
    Calls Tryz.prog 23 #[.pointer (some ⟨b, 0, none⟩), v] z fun e w' => ∃ c, e = .returned (.int .i64 c) ∧ LnP 1 x l b B (.slice av x.ss.length cv) w (.returned (.int .i64 c)) w' := by
  obtain ⟨h1, h2, h3⟩ := words_ok hl hok
  refine (readSetup_any b x.u ad nd cd av x.ss.length cv v (spl 32 l) z w.heap.size (hb.below hz hb.lt) hv h1 h2 h3 (he.below hz)).mono ?_
  rintro e w' ⟨U, rfl, hB, hU, hG⟩
  have hG2 := Gr2.head hz (hG.wide (.slice av x.ss.length cv))
  have hG0 : Gr2 w b (.slice none 0 0) w' (.slice none 0 0) := Gr2.head hz hG
  have hL : setL l = setM (spl 32 l) := by unfold setL; rw [if_neg (by rw [hok]; decide)]
  have hk : ∀ {α : Type} {cs : α → List Value} {m : Nat} {T : TypeId} {v : Value} {l : List α}, T ≠ 27 → OwnG cs m T w B v l → OwnG cs m T w' B v l := fun hT ho => ho.block fun j hj => hG0.block j (ho.lts j hj).2 (fun e => own_neBlk ho hb hT (by rw [hj, e])) (by simp [Value.ownBlock])
  refine ⟨_, rfl, U, ad, nd, cd, av, x.ss.length, cv, ?_, hB, ?_, hG2⟩
  · unfold lineQ
    rw [if_pos rfl, hL]
    split
    · rename_i h; rw [h]
    · rfl
  · unfold lineQ
    rw [if_pos rfl, hL]
    intro h
    split at h
    · rename_i h0
      rw [if_pos h0]
      exact ⟨hU h0, hk (by decide) hd, hk (by decide) hs, hsl⟩
    · rename_i h0
      exact absurd h h0
theorem LnP.two (hB : B ≤ w.heap.size) (hb : Blk w b (scA x.u (.slice ad nd cd) (.slice av x.ss.length cv)) 27) (hs : OwnG stC 10 48 w B (.slice av x.ss.length cv) x.ss) (hsl : x.ss.length ≤ 4096)
    (hz : Below w.heap.size w z) (hok : (spl 32 l).all wordB = true) (hl : l.length ≤ 65536) (he : EnvP w) (v : Value) (hv : OwnG txC 1 9 z w.heap.size v ((spl 32 l).map sOf)) :
    Calls Tryz.prog 24 #[.pointer (some ⟨b, 0, none⟩), v] z fun e w' => ∃ c, e = .returned (.int .i64 c) ∧ LnP 2 x l b B (.slice av x.ss.length cv) w (.returned (.int .i64 c)) w' := by
  obtain ⟨h1, h2, h3⟩ := words_ok hl hok
  refine (readDraws_any b x.u ad nd cd av x.ss.length cv v (spl 32 l) z w.heap.size (hb.below hz hb.lt) hv h1 h2 h3 (he.below hz)).mono ?_
  rintro e w' ⟨ad', nd', cd', rfl, hBk, hU, hG⟩
  have hG2 := Gr2.head hz (hG.wide (.slice av x.ss.length cv))
  have hG0 : Gr2 w b (.slice none 0 0) w' (.slice none 0 0) := Gr2.head hz hG
  have hL : drawL l = drawM (spl 32 l) := by unfold drawL; rw [if_neg (by rw [hok]; decide)]
  have hk : ∀ {α : Type} {cs : α → List Value} {m : Nat} {T : TypeId} {v : Value} {l : List α}, T ≠ 27 → OwnG cs m T w B v l → OwnG cs m T w' B v l := fun hT ho => ho.block fun j hj => hG0.block j (ho.lts j hj).2 (fun e => own_neBlk ho hb hT (by rw [hj, e])) (by simp [Value.ownBlock])
  refine ⟨_, rfl, x.u, ad', nd', cd', av, x.ss.length, cv, ?_, hBk, ?_, hG2⟩
  · unfold lineQ
    rw [if_neg (by decide), if_pos rfl, hL]
    split
    · rename_i h; rw [h]
    · rfl
  · unfold lineQ
    rw [if_neg (by decide), if_pos rfl, hL]
    intro h
    split at h
    · rename_i h0
      rw [if_pos h0]
      exact ⟨rfl, (hU h0).le (Nat.le_trans hB hz.size), hk (by decide) hs, hsl⟩
    · rename_i h0
      exact absurd h h0
theorem LnP.more (hk1 : k ≠ 1) (hk2 : k ≠ 2) (hB : B ≤ w.heap.size) (hb : Blk w b (scA x.u (.slice ad nd cd) (.slice av x.ss.length cv)) 27) (hd : OwnG inC 1 3 w B (.slice ad nd cd) x.ds) (hs : OwnG stC 10 48 w B (.slice av x.ss.length cv) x.ss) (hsl : x.ss.length ≤ 4096)
    (hz : Below w.heap.size w z) (hok : (spl 32 l).all wordB = true) (hl : l.length ≤ 65536) (he : EnvP w) (v : Value) (hv : OwnG txC 1 9 z w.heap.size v ((spl 32 l).map sOf)) :
    Calls Tryz.prog 25 #[.pointer (some ⟨b, 0, none⟩), v] z fun e w' => ∃ c, e = .returned (.int .i64 c) ∧ LnP k x l b B (.slice av x.ss.length cv) w (.returned (.int .i64 c)) w' := by
  obtain ⟨h1, h2, h3⟩ := words_ok hl hok
  refine (readStep_any b x.u ad nd cd x.ss av cv v (spl 32 l) z w.heap.size B (hb.below hz hb.lt) hv (hs.below hz) (Nat.le_trans hB hz.size) hsl h1 h2 h3 (he.below hz)).mono ?_
  rintro e w' ⟨a', n', c', rfl, hBk, hO, hG⟩
  have hG2 := Gr2.head hz hG
  have hL : stepN x.u x.ss.length l = stepQ x.u.s x.u.c x.ss.length (spl 32 l) := by unfold stepN; rw [if_neg (by rw [hok]; decide)]
  rw [← hL] at hO ⊢
  refine ⟨_, rfl, x.u, ad, nd, cd, a', n', c', ?_, hBk, ?_, hG2⟩
  · unfold lineQ
    rw [if_neg hk1, if_neg hk2]
    split
    · rename_i h; rw [h]
    · rfl
  · unfold lineQ
    rw [if_neg hk1, if_neg hk2]
    intro h
    split at h
    · rename_i h0
      rw [if_pos h0]
      rw [if_pos h0] at hO
      refine ⟨rfl, hd.block fun j hj => hG2.block j (hd.lts j hj).2 (fun e => own_neBlk hd hb (by decide) (by rw [hj, e])) (fun e' => own_ne hs hd (by decide) j e'.symm hj), hO, ?_⟩
      have := stepN_room h0
      rw [List.length_append]
      simp
      omega
    · rename_i h0
      exact absurd h h0
end
set_option maxHeartbeats 800000 in
set_option maxRecDepth 100000 in
theorem readLine_any (k : Nat) (hk1 : 1 ≤ k) (hk9 : k ≤ 70000) (x : Scr) (ad : Option Addr) (nd cd : Nat) (av : Option Addr) (cv : Nat) (l : List UInt8) (hl : l.length ≤ 65536) (b : Nat) (w : World) (B : Nat) (hB : B ≤ w.heap.size) (hb : Blk w b (scA x.u (.slice ad nd cd) (.slice av x.ss.length cv)) 27) (hd : OwnG inC 1 3 w B (.slice ad nd cd) x.ds) (hs : OwnG stC 10 48 w B (.slice av x.ss.length cv) x.ss) (hsl : x.ss.length ≤ 4096) (he : EnvP w) :
    Calls Tryz.prog 12 #[.pointer (some ⟨b, 0, none⟩), .int .i64 (k : Int), .string (sOf l)] w fun e w' => LnP k x l b B (.slice av x.ss.length cv) w e w' := by
  have HSp : Hid (Calls Tryz.prog 11 #[.string (sOf l), .string ⟨#[32]⟩] w fun e w' => ∃ v, e = .returned v ∧ OwnG txC 1 9 w' w.heap.size v ((spl 32 l).map sOf) ∧ Below w.heap.size w w') := splitI_any 32 l ⟨#[32]⟩ rfl hl w he
  have hll : (spl 32 l).length ≤ 65537 := by have := splA_len 32 l []; unfold spl; omega
  have hl1 : 1 ≤ (spl 32 l).length := by have := spl_ne 32 l []; unfold spl; cases h : splA 32 [] l with | nil => exact absurd h this | cons a r => simp
  have HWl : Hid (∀ y ∈ spl 32 l, y.length ≤ 65536) := fun y hy => by have := splA_mem_len 32 l [] y hy; simp at this; omega
  have HBad : Hid ((spl 32 l).all wordB = false → ∀ w', Below w.heap.size w w' → LnP k x l b B (.slice av x.ss.length cv) w (.returned (.int .i64 3)) w') := fun h w' hw => by
    have h3 := lineQ_bad (k := k) (x := x) h
    refine ⟨x.u, ad, nd, cd, av, x.ss.length, cv, by rw [h3], hb.below hw hb.lt, fun h0 => ?_, Gr2.below _ _ hw⟩
    rw [h3] at h0
    exact absurd h0 (by decide)
  have H1 : Hid ((spl 32 l).all wordB = true → k = 1 → ∀ z v, Below w.heap.size w z → OwnG txC 1 9 z w.heap.size v ((spl 32 l).map sOf) → Calls Tryz.prog 23 #[.pointer (some ⟨b, 0, none⟩), v] z fun e w' => ∃ c, e = .returned (.int .i64 c) ∧ LnP k x l b B (.slice av x.ss.length cv) w (.returned (.int .i64 c)) w') := fun hok e z v hz hv => by subst e; exact LnP.one hb hd hs hsl hz hok hl he v hv
  have H2 : Hid ((spl 32 l).all wordB = true → k = 2 → ∀ z v, Below w.heap.size w z → OwnG txC 1 9 z w.heap.size v ((spl 32 l).map sOf) → Calls Tryz.prog 24 #[.pointer (some ⟨b, 0, none⟩), v] z fun e w' => ∃ c, e = .returned (.int .i64 c) ∧ LnP k x l b B (.slice av x.ss.length cv) w (.returned (.int .i64 c)) w') := fun hok e z v hz hv => by subst e; exact LnP.two hB hb hs hsl hz hok hl he v hv
  have H3 : Hid ((spl 32 l).all wordB = true → k ≠ 1 → k ≠ 2 → ∀ z v, Below w.heap.size w z → OwnG txC 1 9 z w.heap.size v ((spl 32 l).map sOf) → Calls Tryz.prog 25 #[.pointer (some ⟨b, 0, none⟩), v] z fun e w' => ∃ c, e = .returned (.int .i64 c) ∧ LnP k x l b B (.slice av x.ss.length cv) w (.returned (.int .i64 c)) w') := fun hok e1 e2 z v hz hv => LnP.more e1 e2 hB hb hd hs hsl hz hok hl he v hv
  clear hb hd hs hsl he hB hl
  generalize hP : LnP k x l b B (.slice av x.ss.length cv) w = P at *
  clear hP
  generalize spl 32 l = ws at *
  generalize sOf l = LS at *
  obtain ⟨n, hn⟩ : ∃ n, n = ws.length := ⟨_, rfl⟩
  have HNn : Hid (n = ws.length) := hn
  have hn7 : n ≤ 65537 := by omega
  clear hn
  go_enter Tryz.func12, Tryz.ntmps12
  go_wp2_with (go_at_call 11; refine HSp.out.mono ?_; rintro e w5 ⟨v5, rfl, hO5, hb5⟩; have HO5 : Hid (OwnG txC 1 9 w5 w.heap.size v5 (ws.map sOf)) := hO5; obtain ⟨p, cq, e5, hcq, hpl, hpB, hcw⟩ := row_words hO5 hl1 (by omega); rw [← HNn.out] at e5; subst e5; have HCW : Hid (∀ j (h : j < ws.length), w5.cell? ⟨p, j, none⟩ = some (.string (sOf ws[j]))) := hcw; have HB5 : Hid (Below w.heap.size w w5) := hb5; clear hO5 hb5 hcw hcq hpB)
  clear hll hl1 HSp
  go_loopw [9, 14] (fun _ i wr => ∃ j : Nat, j ≤ n ∧ i = .int .i64 j ∧ (ws.take j).all wordB = true ∧ wr = w5) (fun _ i _ => n - (intOf i).toNat)
  case atStart => exact ⟨0, Nat.zero_le _, rfl, rfl, rfl⟩
  case round =>
    obtain ⟨j, hj, rfl, hA, hwr⟩ := hrel
    have hwr2 := hwr.symm
    subst hwr2
    have HA : Hid ((ws.take j).all wordB = true) := hA
    clear hA
    by_cases hlt : j < n
    · have hji : (j : Int) < (n : Int) := by omega
      have HK : Hid (j < n) := hlt
      have hjw : j < ws.length := by rw [← HNn.out]; exact hlt
      have hcx := HCW.out j hjw
      have hxl := HWl.out _ (List.getElem_mem hjw)
      have HAn : Hid (wordB ws[j] = true → (ws.take (j + 1)).all wordB = true) := fun h => all_takeP hjw wordB HA.out h
      have HAf : Hid (wordB ws[j] = false → ws.all wordB = false) := fun h => all_noP hjw wordB h
      have HIw : Hid (∀ z, Calls Tryz.prog 22 #[.string (sOf ws[j])] z fun e w' => e = .returned (.bool (wordB ws[j])) ∧ w' = z) := fun z => by
        have h9 := isWord_any (sOf ws[j]) (by rw [sOf_size]; omega) z
        rw [list_sOf] at h9
        exact h9
      clear hxl
      generalize sOf ws[j] = XS at *
      generalize wordB ws[j] = ok at *
      cases ok
      · have HPx : Hid (P (.returned (.int .i64 3)) w5) := HBad.out (HAf.out rfl) w5 HB5.out
        clear HBad HAf HAn H1 H2 H3
        go_wp2_with (go_at_call 22; refine (HIw.out _).mono ?_; rintro e w' ⟨rfl, hww⟩; have hww2 := hww.symm; subst hww2)
        try go_ret
        exact HPx.out
      · have HA2 : Hid ((ws.take (j + 1)).all wordB = true) := HAn.out rfl
        clear HAn HAf
        go_wp2_with (go_at_call 22; refine (HIw.out _).mono ?_; rintro e w' ⟨rfl, hww⟩; have hww2 := hww.symm; subst hww2)
        go_roundw
        case rel => exact ⟨j + 1, by have := HK.out; omega, by go_num, HA2.out, by simp⟩
        case measure => have := HK.out; simp [intOf]; omega
    · obtain rfl : j = n := by omega
      have hA2 := HA.out
      rw [HNn.out, List.take_length] at hA2
      by_cases e1 : k = 1
      · have HF := H1.out hA2 e1 w5 _ HB5.out HO5.out
        have HF2 : Hid (Calls Tryz.prog 23 _ w5 _) := HF
        subst e1
        clear HF H1 H2 H3 hA2 HA
        go_wp2_with (go_at_call 23; refine HF2.out.mono ?_; rintro e w8 ⟨c8, rfl, h8⟩; have HP8 : Hid (P (.returned (.int .i64 c8)) w8) := h8; clear h8)
        try go_ret
        exact HP8.out
      by_cases e2 : k = 2
      · have HF := H2.out hA2 e2 w5 _ HB5.out HO5.out
        have HF2 : Hid (Calls Tryz.prog 24 _ w5 _) := HF
        subst e2
        clear HF H1 H2 H3 hA2 HA e1
        go_wp2_with (go_at_call 24; refine HF2.out.mono ?_; rintro e w8 ⟨c8, rfl, h8⟩; have HP8 : Hid (P (.returned (.int .i64 c8)) w8) := h8; clear h8)
        try go_ret
        exact HP8.out
      · have HF := H3.out hA2 e1 e2 w5 _ HB5.out HO5.out
        have HF2 : Hid (Calls Tryz.prog 25 _ w5 _) := HF
        have i1 : ((k : Int) == 1) = false := by rw [beq_eq_false_iff_ne]; omega
        have i2 : ((k : Int) == 2) = false := by rw [beq_eq_false_iff_ne]; omega
        clear HF H1 H2 H3 hA2 HA e1 e2
        go_wp2_with (go_at_call 25; refine HF2.out.mono ?_; rintro e w8 ⟨c8, rfl, h8⟩; have HP8 : Hid (P (.returned (.int .i64 c8)) w8) := h8; clear h8)
        try go_ret
        exact HP8.out
end Go.Proofs.YtanpindbhdeomaaGreatDoor
