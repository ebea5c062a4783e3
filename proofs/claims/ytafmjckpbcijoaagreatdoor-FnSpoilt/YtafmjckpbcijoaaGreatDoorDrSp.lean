/-
  spec.DrawSpoil: the range of its third answer.
-/
import Derived.Test.YtafmjckpbcijoaaGreatDoorDrEm
import Derived.Test.YtafmjckpbcijoaaGreatDoorSpecEncMsg
import Derived.Deep.RegionWith
namespace Go.Proofs.YtafmjckpbcijoaaGreatDoor
open Go.RowKit
set_option linter.unusedVariables false
set_option linter.unusedSimpArgs false

theorem grown_below1 {w w' : World} {o1 : Obj} (h : World.grownBy (w.alloc o1) w' (some w.heap.size)) : Below w.heap.size w w' := by
  have hb : Below w.heap.size w (w.alloc o1) := (Below.refl _ _).alloc (Nat.le_refl _) _
  exact ⟨h.os.trans hb.os, h.tape.trans hb.tape, h.output.trans hb.output, Nat.le_trans hb.size h.size, fun k hk => (h.block k (by simp; omega) (by intro e; injection e with e; omega)).trans (hb.block k hk)⟩

set_option maxHeartbeats 8000000 in
set_option maxRecDepth 100000 in
theorem drawSpoil_any (a : Option Addr) (cap : Nat) (l : List Int) (w : World) (hv : Bs w (.slice a l.length cap) l) (hL : l.length ≤ 1048576) :
    Calls Tryz.prog 5 #[.slice a l.length cap] w fun r w' => ∃ (sv : Value) (i x : Int), r = .returned (.tuple #[sv, .int .i64 i, .int .i64 x]) ∧ -100 ≤ x ∧ x < 500 ∧ Below w.heap.size w w' := by
  have HS0 : Hid (Src (w.alloc (.cells #[.slice a l.length cap, .int .i64 0] 54)) w.heap.size (.slice a l.length cap) l 0) := Src.start w (.slice a l.length cap) l hv 54
  have hok := msgD_ok l 0
  have HDr : Hid (∀ u : World, Src u w.heap.size (.slice a l.length cap) l 0 → Calls Tryz.prog 22 #[.pointer (some ⟨w.heap.size, 0, none⟩)] u fun r w' => ∃ ea ec, r = .returned (.agg #[.int .i64 (drM l).ki, .int .i64 (drM l).fr, .int .i64 (drM l).td, .int .i64 (drM l).tm, .int .i64 (drM l).li, .int .i64 (drM l).lt, .int .i64 (drM l).cm, .int .i64 (drM l).ok, .int .i64 (drM l).hi, .slice ea (drM l).es.length ec]) ∧ OwnE w' u.heap.size (.slice ea (drM l).es.length ec) (drM l).es ∧ Src w' w.heap.size (.slice a l.length cap) l (msgD l 0).k ∧ u.grownBy w' (some w.heap.size)) := fun u hu => l1drawMsg_any w.heap.size u (.slice a l.length cap) l 0 hL (by omega) hu
  have hb3 : (drM l).es.length ≤ 32 := hok.2.2.2.2.1
  have hkb : (msgD l 0).k ≤ 1000 := by have := hok.2.2.2.2.2; omega
  clear hok
  generalize (msgD l 0).k = K at *
  generalize drM l = m at *
  obtain ⟨n, hn⟩ : ∃ n, n = m.es.length := ⟨_, rfl⟩
  rw [← hn] at hb3 HDr
  have Hn : Hid (n = m.es.length) := hn
  clear hn hv
  have HEn : Hid (∀ (u : World) (ea : Option Addr) (ec : Nat), OwnE u (w.heap.size + 1) (.slice ea n ec) m.es → Calls Tryz.prog 21 #[.agg #[.int .i64 m.ki, .int .i64 m.fr, .int .i64 m.td, .int .i64 m.tm, .int .i64 m.li, .int .i64 m.lt, .int .i64 m.cm, .int .i64 m.ok, .int .i64 m.hi, .slice ea n ec]] u fun r w' => ∃ v', r = .returned v' ∧ Below u.heap.size u w') := fun u ea ec ho => by
    have he := ho.es (by rw [← Hn.out]; unfold maxLen; omega)
    exact (specEncodeMsg_any _ _ _ _ _ _ _ _ _ _ m.es u he (by rw [← Hn.out]; omega)).mono fun r w' ⟨v', h1, _, h2⟩ => ⟨v', h1, h2⟩
  have b6 := pickV_lt l (K + 1 + pickK 400) 600 (by decide)
  have b4 := pickV_lt l (K + 1) 400 (by decide)
  have pk4 : pickK 400 ≤ 8 := by decide
  have b8 := pickV_lt l K 8 (by decide)
  obtain ⟨p, hp⟩ : ∃ p, p = pickV l K 8 := ⟨_, rfl⟩
  obtain ⟨q, hq⟩ : ∃ q, q = pickV l (K + 1) 400 := ⟨_, rfl⟩
  obtain ⟨r, hr⟩ : ∃ r, r = pickV l (K + 1 + pickK 400) 600 := ⟨_, rfl⟩
  rw [← hp] at b8
  rw [← hq] at b4
  rw [← hr] at b6
  have Hp : Hid (p = pickV l K 8) := hp
  have Hq : Hid (q = pickV l (K + 1) 400) := hq
  have Hr : Hid (r = pickV l (K + 1 + pickK 400) 600) := hr
  clear hp hq hr
  generalize hPK : pickK 400 = P4 at *
  go_enter Tryz.func5, Tryz.ntmps5
  go_upto_if 12 with (first
    | (go_at_call 22; refine (HDr.out _ HS0.out).mono ?_; rintro r' w3 ⟨ea, ec, rfl, ho3, hs3, hg3⟩; have HD3 : Hid (Dr (w.alloc (.cells #[.slice a l.length cap, .int .i64 0] 54)) w3 w.heap.size (.slice a l.length cap) l K []) := (Dr.start HS0.out).call hs3 hg3; have HO3 : Hid (OwnE w3 (w.heap.size + 1) (.slice ea n ec) m.es) := ho3.le (by simp); clear ho3 hs3 hg3)
    | (go_at_call 21; refine (HEn.out _ ea ec HO3.out).mono ?_; rintro r' w4 ⟨v4, rfl, hb4⟩; have HD4 : Hid (Dr (w.alloc (.cells #[.slice a l.length cap, .int .i64 0] 54)) w4 w.heap.size (.slice a l.length cap) l K []) := HD3.out.below hb4; clear hb4)
    | (go_at_call 23; refine (HD4.out.pick1 8 hL (by omega) (by decide) (by decide)).mono ?_; rintro r' w5 ⟨rfl, hd5⟩; rw [← Hp.out]; have HD5 : Hid (Dr (w.alloc (.cells #[.slice a l.length cap, .int .i64 0] 54)) w5 w.heap.size (.slice a l.length cap) l (K + 1) []) := hd5; clear hd5))
  have hw1 : IntKind.i64.wrap ((q : Int) - 100) = (q : Int) - 100 := by rw [IntKind.wrap_i64]; omega
  have hw2 : IntKind.i64.wrap ((r : Int) - 100) = (r : Int) - 100 := by rw [IntKind.wrap_i64]; omega
  by_cases c0 : p = 0
  · subst c0
    go_wp2_with (first
      | (go_at_call 23; refine (HD5.out.pick 400 hL (by omega) (by decide) (by decide)).mono ?_; rintro r' w6 ⟨rfl, hd6⟩; rw [← Hq.out]; rw [hPK] at hd6; have HD6 : Hid (Dr (w.alloc (.cells #[.slice a l.length cap, .int .i64 0] 54)) w6 w.heap.size (.slice a l.length cap) l (K + 1 + P4) []) := hd6; clear hd6 HD5)
      | (go_at_call 23; refine (HD6.out.pick 600 hL (by omega) (by decide) (by decide)).mono ?_; rintro r' w7 ⟨rfl, hd7⟩; rw [← Hr.out]; have HB7 : Hid (Below w.heap.size w w7) := grown_below1 hd7.grown; clear hd7))
    refine bodyPost_ret (v := .tuple #[.slice none 0 0, .int .i64 ((q : Int) - 100), .int .i64 ((r : Int) - 100)]) (by simp [results, Tryz.results5, go_sem]) rfl ⟨_, _, _, rfl, by omega, by omega, HB7.out⟩
  · have c1 : ((p : Int) == 0) = false := by rw [beq_eq_false_iff_ne]; omega
    clear c0
    go_wp2_with (first
      | (go_at_call 23; refine (HD5.out.pick 400 hL (by omega) (by decide) (by decide)).mono ?_; rintro r' w6 ⟨rfl, hd6⟩; rw [← Hq.out]; rw [hPK] at hd6; have HD6 : Hid (Dr (w.alloc (.cells #[.slice a l.length cap, .int .i64 0] 54)) w6 w.heap.size (.slice a l.length cap) l (K + 1 + P4) []) := hd6; clear hd6 HD5)
      | (go_at_call 23; refine (HD6.out.pick 600 hL (by omega) (by decide) (by decide)).mono ?_; rintro r' w7 ⟨rfl, hd7⟩; rw [← Hr.out]; have HB7 : Hid (Below w.heap.size w w7) := grown_below1 hd7.grown; clear hd7))
    refine bodyPost_ret (v := .tuple #[v4, .int .i64 ((q : Int) - 100), .int .i64 ((r : Int) - 100)]) (by simp [results, Tryz.results5, go_sem]) rfl ⟨_, _, _, rfl, by omega, by omega, HB7.out⟩
end Go.Proofs.YtafmjckpbcijoaaGreatDoor
