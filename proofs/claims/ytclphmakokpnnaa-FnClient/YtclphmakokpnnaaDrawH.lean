/-
  spec.DrawCalls: the walk.
-/
import Derived.Test.YtclphmakokpnnaaDrawF
namespace Go.Proofs.Ytclphmakokpnnaa
open Go.RowKit
set_option linter.unusedVariables false
set_option linter.unusedSimpArgs false

set_option maxHeartbeats 16000000 in
set_option maxRecDepth 100000 in
theorem drawCalls_ex (l : List Int) (hL : l.length ≤ 1048576) : ∃ (c0 : Cli) (k2 n : Nat), c0.ok ∧ k2 ≤ 100 ∧ n ≤ 100 ∧ ∀ (w : World) (v : Value), Bs w v l →
    Calls Try.prog 13 #[v] w fun r w' => ∃ ev, r = .returned (.tuple #[.agg #[.int .i64 c0.id, .int .i64 c0.sv, .int .i64 c0.rt, .int .i64 c0.sq, .int .i64 c0.bs, .int .i64 c0.tg, .int .i64 c0.wt, .int .i64 c0.ccl, .int .i64 c0.csq, .int .i64 c0.cop, .string c0.ck, .string c0.cv, .string c0.co], ev]) ∧ OwnV w' w.heap.size ev (evsOf l k2 c0 n) ∧ Below w.heap.size w w' := by
  obtain ⟨c0, k1, hk0, hk1, hc0, HC⟩ := l6drawClient_ex l 0 hL (by omega)
  have pn := pickV_lt l k1 (6 + min l.length 400 / 6) (by omega)
  obtain ⟨m, hm⟩ : ∃ m, m = pickV l k1 (6 + min l.length 400 / 6) := ⟨_, rfl⟩
  have hmb : m < 80 := by omega
  refine ⟨c0, k1 + 1, 6 + m, hc0, by omega, by omega, fun w v hv => ?_⟩
  obtain ⟨k2, hk2⟩ : ∃ k2, k2 = k1 + 1 := ⟨_, rfl⟩
  rw [← hk2]
  have HV : Hid (Bs w v l) := hv
  obtain ⟨hlm, _, a, cap, rfl, _⟩ := hv
  obtain ⟨v, hvv⟩ : ∃ v, v = Value.slice a l.length cap := ⟨_, rfl⟩
  rw [← hvv] at HV
  have HC' : Hid (∀ (g : Nat) (w : World) (v : Value), Src w g v l 0 → Calls Try.prog 32 #[.pointer (some ⟨g, 0, none⟩)] w fun r w' => r = .returned (.agg #[.int .i64 c0.id, .int .i64 c0.sv, .int .i64 c0.rt, .int .i64 c0.sq, .int .i64 c0.bs, .int .i64 c0.tg, .int .i64 c0.wt, .int .i64 c0.ccl, .int .i64 c0.csq, .int .i64 c0.cop, .string c0.ck, .string c0.cv, .string c0.co]) ∧ Src w' g v l k1 ∧ w.grownBy w' (some g)) := HC
  clear HC
  have HS0 : Hid (Src ((w.alloc (.cells #[.int .i64 0, .int .i64 0, .int .i64 0, .int .i64 0, .int .i64 0, .int .i64 0, .int .i64 0, .int .i64 0, .int .i64 0, .int .i64 0, .string ⟨#[]⟩, .string ⟨#[]⟩, .string ⟨#[]⟩] 35)).alloc (.cells #[.slice a l.length cap, .int .i64 0] 65)) (w.heap.size + 1) v l 0) := by
    have h := Src.start (w.alloc (.cells #[.int .i64 0, .int .i64 0, .int .i64 0, .int .i64 0, .int .i64 0, .int .i64 0, .int .i64 0, .int .i64 0, .int .i64 0, .int .i64 0, .string ⟨#[]⟩, .string ⟨#[]⟩, .string ⟨#[]⟩] 35)) v l (HV.out.below ((Below.refl _ _).alloc (Nat.le_refl _) _)) 65
    rw [show (w.alloc (.cells #[.int .i64 0, .int .i64 0, .int .i64 0, .int .i64 0, .int .i64 0, .int .i64 0, .int .i64 0, .int .i64 0, .int .i64 0, .int .i64 0, .string ⟨#[]⟩, .string ⟨#[]⟩, .string ⟨#[]⟩] 35)).heap.size = w.heap.size + 1 by simp] at h
    subst hvv
    exact h
  have g0 : True := trivial
  have g1 : True := trivial
  go_enter Try.func13, Try.ntmps13
  go_wp2_with (first
    | (go_at_call 32; refine Calls.mono (HC'.out _ _ _ HS0.out) ?_; rintro r w1 ⟨rfl, hs, hg⟩; have z1 := hg.size; (try simp at z1); have HS : Hid (Src w1 (w.heap.size + 1) v l k1) := hs; have BR : Hid (Blk w1 w.heap.size #[.int .i64 0, .int .i64 0, .int .i64 0, .int .i64 0, .int .i64 0, .int .i64 0, .int .i64 0, .int .i64 0, .int .i64 0, .int .i64 0, .string ⟨#[]⟩, .string ⟨#[]⟩, .string ⟨#[]⟩] 35) := ((Blk.new w _ _).alloc _).grown hg (by omega); have HB : Hid (Below w.heap.size w w1) := (((Below.refl _ _).alloc (Nat.le_refl _) _).alloc (by simp) _).grown hg (by simp <;> omega) (fun k e => by injection e with e; omega); clear hs hg)
    | (have hBA := BR; refine gate_st 35 (.tmp 5) _ rfl ?_; clear hBA; refine wpl_store_last rfl 35 (.tmp 5) _ rfl (w1.heap.size) rfl rfl rfl sizeCliD rfl rfl (by simp [Value.oneCell']) ?_)
    | (have hBA := BR; refine gate_ld 35 (.tmp 5) rfl ?_; clear hBA; refine wpl_load_blk rfl 35 (.tmp 5) rfl (w1.heap.size) rfl (Blk.new _ _ _) Try.underlying35 rfl sizeCliD rfl ?_)
    | (have hBA := BR; refine gate_st 35 (.tmp 6) _ rfl ?_; clear hBA; refine wpl_store_last rfl 35 (.tmp 6) _ rfl (w1.heap.size + 1) rfl (by simp) rfl sizeCliD rfl rfl (by simp [Value.oneCell']) ?_)
    | (go_at_call 34; refine Calls.mono (l1size_any a l.length cap hlm _) ?_; rintro r w2 ⟨rfl, hw⟩; obtain rfl := hw.symm; clear hw)
    | (go_at_call 33; refine Calls.mono (show Calls Try.prog 33 #[.pointer (some ⟨(w.heap.size + 1), 0, none⟩), .int .i64 (6 + ((min l.length 400 : Nat) : Int) / 6)] _ _ from by rw [show (6 + ((min l.length 400 : Nat) : Int) / 6) = ((6 + min l.length 400 / 6 : Nat) : Int) by omega]; exact l1pick_any (w.heap.size + 1) _ v l k1 (6 + min l.length 400 / 6) hL (by omega) (by omega) (by omega) (((HS.out.alloc _).alloc _).alloc _)) ?_; rintro r w2 ⟨rfl, hs, hg⟩; rw [← hm]; rw [show pickK (6 + min l.length 400 / 6) = 1 from by unfold pickK; rw [if_pos (by omega)]] at hs; have z2 := hg.size; simp at z2; have HD : Hid (DInv w (w.heap.size + 1) w1.heap.size v l c0 c0 k2 (.slice (some ⟨w1.heap.size + 2, 0, none⟩) 0 0) [] w2) := (DInv.grown (k := k1) ⟨by have h := OwnV.made ((w1.alloc (.cells #[.int .i64 c0.id, .int .i64 c0.sv, .int .i64 c0.rt, .int .i64 c0.sq, .int .i64 c0.bs, .int .i64 c0.tg, .int .i64 c0.wt, .int .i64 c0.ccl, .int .i64 c0.csq, .int .i64 c0.cop, .string c0.ck, .string c0.cv, .string c0.co] 35)).alloc (.cells #[.int .i64 c0.id, .int .i64 c0.sv, .int .i64 c0.rt, .int .i64 c0.sq, .int .i64 c0.bs, .int .i64 c0.tg, .int .i64 c0.wt, .int .i64 c0.ccl, .int .i64 c0.csq, .int .i64 c0.cop, .string c0.ck, .string c0.cv, .string c0.co] 35)) (w1.heap.size + 2) (by simp); simpa using h, (((Blk.new w1 _ _).alloc _).alloc _), (show Blk _ (w1.heap.size + 1) _ _ from (Blk.new' (w1.alloc (.cells #[.int .i64 c0.id, .int .i64 c0.sv, .int .i64 c0.rt, .int .i64 c0.sq, .int .i64 c0.bs, .int .i64 c0.tg, .int .i64 c0.wt, .int .i64 c0.ccl, .int .i64 c0.csq, .int .i64 c0.cop, .string c0.ck, .string c0.cv, .string c0.co] 35)) _ _ (by simp)).alloc _), ((BR.out.alloc _).alloc _).alloc _, ((HS.out.alloc _).alloc _).alloc _, ((HB.out.alloc (by omega) _).alloc (by simp <;> omega) _).alloc (by simp <;> omega) _, by omega, by omega, by simp, HV.out⟩ hg (hk2 ▸ hs)); clear hs hg HS BR HB))
  go_loopw [7, 9] (fun ev i wr => ∃ j : Nat, j ≤ 6 + m ∧ i = .int .i64 j ∧ DInv w (w.heap.size + 1) w1.heap.size v l c0 (stOf l k2 c0 j).2 (stOf l k2 c0 j).1 ev (evsOf l k2 c0 j) wr) (fun _ i _ => (6 + m) - (intOf i).toNat)
  case atStart => exact ⟨0, Nat.zero_le _, rfl, HD.out⟩
  case round =>
    obtain ⟨j, hj, rfl, hD⟩ := hrel
    obtain ⟨ev, hev0⟩ : ∃ ev, ev = (fun (x : Value) (_ : DInv w (w.heap.size + 1) w1.heap.size v l c0 (stOf l k2 c0 j).2 (stOf l k2 c0 j).1 x (evsOf l k2 c0 j) wr) => x) _ hD := ⟨_, rfl⟩
    simp only at hev0
    subst hev0
    have hst := st_ok l k2 c0 hc0 j
    clear HD HS0
    have HD : Hid (DInv w (w.heap.size + 1) w1.heap.size v l c0 (stOf l k2 c0 j).2 (stOf l k2 c0 j).1 ev (evsOf l k2 c0 j) wr) := hD
    clear hD
    by_cases hlt : j < 6 + m
    · have hstep := step_ok _ _ hst.1 (evOf_ok l (stOf l k2 c0 j).1 (stOf l k2 c0 j).2)
      have hnx : stOf l k2 c0 (j + 1) = (evK l (stOf l k2 c0 j).1, nextC (stOf l k2 c0 j).2 (evOf l (stOf l k2 c0 j).1 (stOf l k2 c0 j).2)) := rfl
      have hes : evsOf l k2 c0 (j + 1) = evsOf l k2 c0 j ++ [evOf l (stOf l k2 c0 j).1 (stOf l k2 c0 j).2] := evsOf_succ l k2 c0 j
      have hel := evsOf_len l k2 c0 j
      generalize stOf l k2 c0 j = s at HD hst hstep hnx hes
      obtain ⟨cd, sd, dn, hsw, hso⟩ := hstep
      have hrg := hso.range
      have hsz := hst.1.2
      have hev := evOf_ok l s.1 s.2
      obtain ⟨_, hz1, hz2, hz3, hz4, _, _⟩ := hev
      clear hso
      have HK := HD.out.src
      have b0 := pickV_lt l s.1 3 (by omega)
      have b1 := cmdK_le l (s.1 + 1)
      have b2 := repK_le l (cmdK l (s.1 + 1))
      have b3 := pickV_lt l (repK l (cmdK l (s.1 + 1))) 4 (by omega)
      have b4 := pickV_lt l ((repK l (cmdK l (s.1 + 1))) + 1) 2 (by omega)
      have hgq : (w.heap.size + 1) < w1.heap.size := HD.out.gq
      have hlq : w1.heap.size + 2 ≤ wr.heap.size := HD.out.lt
      clear HK
      have f0 : True := trivial
      have f1 : True := trivial
      have f2 : True := trivial
      have f3 : True := trivial
      have f4 : True := trivial
      have f5 : True := trivial
      have f6 : True := trivial
      have f7 : True := trivial
      have f8 : True := trivial
      have f9 : True := trivial
      have f10 : True := trivial
      have f11 : True := trivial
      by_cases hp : pickV l (repK l (cmdK l (s.1 + 1))) 4 = 0
      · have he : evOf l s.1 s.2 = ⟨1 + (pickV l s.1 3 : Nat), cmdCl l (s.1 + 1), cmdSq l (s.1 + 1), cmdOp l (s.1 + 1), cmdKy l (s.1 + 1), cmdVl l (s.1 + 1), cmdOl l (s.1 + 1), s.2.id, max 1 (s.2.sq - 1 + 2 * (pickV l ((repK l (cmdK l (s.1 + 1))) + 1) 2 : Nat)), repSt l (cmdK l (s.1 + 1)), repCd l (cmdK l (s.1 + 1)), repVl l (cmdK l (s.1 + 1)), repLd l (cmdK l (s.1 + 1))⟩ := by unfold evOf; rw [if_pos hp]
        have hkk : evK l s.1 = (repK l (cmdK l (s.1 + 1))) + 1 + 1 := by unfold evK; rw [if_pos hp]
        rw [he] at hsw hnx hes hz1 hz2 hz3 hz4
        obtain ⟨nx, hnxx⟩ : ∃ nx, nx = nextC s.2 ⟨1 + (pickV l s.1 3 : Nat), cmdCl l (s.1 + 1), cmdSq l (s.1 + 1), cmdOp l (s.1 + 1), cmdKy l (s.1 + 1), cmdVl l (s.1 + 1), cmdOl l (s.1 + 1), s.2.id, max 1 (s.2.sq - 1 + 2 * (pickV l ((repK l (cmdK l (s.1 + 1))) + 1) 2 : Nat)), repSt l (cmdK l (s.1 + 1)), repCd l (cmdK l (s.1 + 1)), repVl l (cmdK l (s.1 + 1)), repLd l (cmdK l (s.1 + 1))⟩ := ⟨_, rfl⟩
        rw [← hnxx] at hsw hnx
        have HST : Hid (∀ u : World, Calls Try.prog 14 #[.agg #[.int .i64 s.2.id, .int .i64 s.2.sv, .int .i64 s.2.rt, .int .i64 s.2.sq, .int .i64 s.2.bs, .int .i64 s.2.tg, .int .i64 s.2.wt, .int .i64 s.2.ccl, .int .i64 s.2.csq, .int .i64 s.2.cop, .string s.2.ck, .string s.2.cv, .string s.2.co], .agg #[.int .i64 (1 + (pickV l s.1 3 : Nat)), .int .i64 (cmdCl l (s.1 + 1)), .int .i64 (cmdSq l (s.1 + 1)), .int .i64 (cmdOp l (s.1 + 1)), .string (cmdKy l (s.1 + 1)), .string (cmdVl l (s.1 + 1)), .string (cmdOl l (s.1 + 1)), .int .i64 s.2.id, .int .i64 (max 1 (s.2.sq - 1 + 2 * (pickV l ((repK l (cmdK l (s.1 + 1))) + 1) 2 : Nat))), .int .i64 (repSt l (cmdK l (s.1 + 1))), .int .i64 (repCd l (cmdK l (s.1 + 1))), .string (repVl l (cmdK l (s.1 + 1))), .int .i64 (repLd l (cmdK l (s.1 + 1)))]] u fun x w' => x = .returned (.agg #[.int .i64 cd, .int .i64 sd, .int .i64 dn, .int .i64 nx.id, .int .i64 nx.sv, .int .i64 nx.rt, .int .i64 nx.sq, .int .i64 nx.bs, .int .i64 nx.tg, .int .i64 nx.wt, .int .i64 nx.ccl, .int .i64 nx.csq, .int .i64 nx.cop, .string nx.ck, .string nx.cv, .string nx.co]) ∧ Below u.heap.size u w') := fun u => by
          have h := sStepClient_any s.2.id s.2.sv s.2.rt s.2.sq s.2.bs s.2.tg s.2.wt s.2.ccl s.2.csq s.2.cop s.2.ck s.2.cv s.2.co (1 + (pickV l s.1 3 : Nat)) (cmdCl l (s.1 + 1)) (cmdSq l (s.1 + 1)) (cmdOp l (s.1 + 1)) (cmdKy l (s.1 + 1)) (cmdVl l (s.1 + 1)) (cmdOl l (s.1 + 1)) s.2.id (max 1 (s.2.sq - 1 + 2 * (pickV l ((repK l (cmdK l (s.1 + 1))) + 1) 2 : Nat))) (repSt l (cmdK l (s.1 + 1))) (repCd l (cmdK l (s.1 + 1))) (repVl l (cmdK l (s.1 + 1))) (repLd l (cmdK l (s.1 + 1))) (by unfold maxLen; omega) (by unfold maxLen; omega) (by unfold maxLen; omega) (by unfold maxLen; exact Nat.le_trans hz1 (by omega)) (by unfold maxLen; exact Nat.le_trans hz2 (by omega)) (by unfold maxLen; exact Nat.le_trans hz3 (by omega)) (by unfold maxLen; exact Nat.le_trans hz4 (by omega)) u
          have hsw' : stepV s.2.id s.2.sv s.2.rt s.2.sq s.2.bs s.2.tg s.2.wt s.2.ccl s.2.csq s.2.cop s.2.ck s.2.cv s.2.co (1 + (pickV l s.1 3 : Nat)) (cmdCl l (s.1 + 1)) (cmdSq l (s.1 + 1)) (cmdOp l (s.1 + 1)) (cmdKy l (s.1 + 1)) (cmdVl l (s.1 + 1)) (cmdOl l (s.1 + 1)) s.2.id (max 1 (s.2.sq - 1 + 2 * (pickV l ((repK l (cmdK l (s.1 + 1))) + 1) 2 : Nat))) (repSt l (cmdK l (s.1 + 1))) (repCd l (cmdK l (s.1 + 1))) (repVl l (cmdK l (s.1 + 1))) (repLd l (cmdK l (s.1 + 1))) = ansV cd sd dn nx := hsw
          rw [hsw'] at h
          exact h
        clear hsw hz1 hz2 hz3 hz4 hnxx
        have fp : ((pickV l (repK l (cmdK l (s.1 + 1))) 4 : Nat) : Int) = 0 := by omega
        go_wp2_with (first
          | (go_at_call 33; clear f0; refine Calls.mono (l1pick_any (w.heap.size + 1) _ v l s.1 3 hL (by omega) (by omega) (by omega) HD.out.src) ?_; rintro r w3 ⟨rfl, hs, hg⟩; rw [show pickK 3 = 1 from by decide] at hs; have zw3 := hg.size; (try simp [World.setCell] at zw3); replace HD : Hid (DInv w (w.heap.size + 1) w1.heap.size v l c0 s.2 (s.1 + 1) ev (evsOf l k2 c0 j) w3) := HD.out.grown hg hs; clear hs hg)
          | (go_at_call 35; clear f1; refine Calls.mono (l1drawCmd_any (w.heap.size + 1) _ v l (s.1 + 1) hL (by omega) HD.out.src) ?_; rintro r w4 ⟨rfl, hs, hg⟩; have zw4 := hg.size; (try simp [World.setCell] at zw4); replace HD : Hid (DInv w (w.heap.size + 1) w1.heap.size v l c0 s.2 (cmdK l (s.1 + 1)) ev (evsOf l k2 c0 j) w4) := HD.out.grown hg hs; clear hs hg)
          | (go_at_call 36; clear f2; refine Calls.mono (l1drawReply_any (w.heap.size + 1) _ v l (cmdK l (s.1 + 1)) hL (by omega) HD.out.src) ?_; rintro r w5 ⟨rfl, hs, hg⟩; have zw5 := hg.size; (try simp [World.setCell] at zw5); replace HD : Hid (DInv w (w.heap.size + 1) w1.heap.size v l c0 s.2 (repK l (cmdK l (s.1 + 1))) ev (evsOf l k2 c0 j) w5) := HD.out.grown hg hs; clear hs hg)
          | (have hBA := HD; refine gate_st 45 (.tmp 10) _ rfl ?_; clear hBA; refine wpl_store_last rfl 45 (.tmp 10) _ rfl (w5.heap.size) rfl rfl rfl sizeCevD rfl rfl (by simp [Value.oneCell']) ?_; have cC : ∀ (o : Obj) (i : Nat), (w5.alloc o).cell? ⟨w1.heap.size, i, none⟩ = #[.int .i64 s.2.id, .int .i64 s.2.sv, .int .i64 s.2.rt, .int .i64 s.2.sq, .int .i64 s.2.bs, .int .i64 s.2.tg, .int .i64 s.2.wt, .int .i64 s.2.ccl, .int .i64 s.2.csq, .int .i64 s.2.cop, .string s.2.ck, .string s.2.cv, .string s.2.co][i]? := fun o i => (HD.out.bc.alloc o).cell i)
          | (go_at_call 24; clear f3; refine Calls.mono (l1max_any 1 s.2.sq _) ?_; rintro r w6 ⟨rfl, hw⟩; obtain rfl := hw.symm; clear hw)
          | (go_at_call 33; clear f4; refine Calls.mono (l1pick_any (w.heap.size + 1) _ v l (repK l (cmdK l (s.1 + 1))) 4 hL (by omega) (by omega) (by omega) (DInvE.new HD.out _).inv.src) ?_; rintro r w6 ⟨rfl, hs, hg⟩; rw [show pickK 4 = 1 from by decide] at hs; have zw6 := hg.size; (try simp [World.setCell] at zw6); have HE : Hid (DInvE w (w.heap.size + 1) w1.heap.size w5.heap.size v l c0 s.2 ((repK l (cmdK l (s.1 + 1))) + 1) ev (evsOf l k2 c0 j) #[.int .i64 (1 + (pickV l s.1 3 : Nat)), .int .i64 (cmdCl l (s.1 + 1)), .int .i64 (cmdSq l (s.1 + 1)), .int .i64 (cmdOp l (s.1 + 1)), .string (cmdKy l (s.1 + 1)), .string (cmdVl l (s.1 + 1)), .string (cmdOl l (s.1 + 1)), .int .i64 s.2.id, .int .i64 (max 1 s.2.sq), .int .i64 (repSt l (cmdK l (s.1 + 1))), .int .i64 (repCd l (cmdK l (s.1 + 1))), .string (repVl l (cmdK l (s.1 + 1))), .int .i64 (repLd l (cmdK l (s.1 + 1)))] w6) := (DInvE.new HD.out _).grown hg hs; clear hs hg HD cC))
        refine wp_named ?_
        intro a0 ha0
        have e4 : a0.eval (.tmp 4) = .pointer (some ⟨(w.heap.size + 1), 0, none⟩) := by rw [ha0]; rfl
        have e5 : a0.eval (.tmp 5) = .pointer (some ⟨w1.heap.size, 0, none⟩) := by rw [ha0]; rfl
        have e10 : a0.eval (.tmp 10) = .pointer (some ⟨w5.heap.size, 0, none⟩) := by rw [ha0]; rfl
        have hsz0 : a0.tmps.size = 62 := by rw [ha0]; rfl
        have HA0 : Hid (a0 = _) := ha0
        clear ha0
        refine wp_region_inv (by kernel_rfl) (fun L aF w' => ∃ x : Nat → Value, aF = frame a0 [43, 44, 45, 46, 47, 48, 49, 50, 51] x ∧ (¬ L.getD 3 false = true → DInvE w (w.heap.size + 1) w1.heap.size w5.heap.size v l c0 s.2 ((repK l (cmdK l (s.1 + 1))) + 1) ev (evsOf l k2 c0 j) #[.int .i64 (1 + (pickV l s.1 3 : Nat)), .int .i64 (cmdCl l (s.1 + 1)), .int .i64 (cmdSq l (s.1 + 1)), .int .i64 (cmdOp l (s.1 + 1)), .string (cmdKy l (s.1 + 1)), .string (cmdVl l (s.1 + 1)), .string (cmdOl l (s.1 + 1)), .int .i64 s.2.id, .int .i64 (max 1 s.2.sq), .int .i64 (repSt l (cmdK l (s.1 + 1))), .int .i64 (repCd l (cmdK l (s.1 + 1))), .string (repVl l (cmdK l (s.1 + 1))), .int .i64 (repLd l (cmdK l (s.1 + 1)))] w') ∧ (L.getD 3 false = true → ¬ L.getD 9 false = true → DInvE w (w.heap.size + 1) w1.heap.size w5.heap.size v l c0 s.2 (((repK l (cmdK l (s.1 + 1))) + 1) + 1) ev (evsOf l k2 c0 j) #[.int .i64 (1 + (pickV l s.1 3 : Nat)), .int .i64 (cmdCl l (s.1 + 1)), .int .i64 (cmdSq l (s.1 + 1)), .int .i64 (cmdOp l (s.1 + 1)), .string (cmdKy l (s.1 + 1)), .string (cmdVl l (s.1 + 1)), .string (cmdOl l (s.1 + 1)), .int .i64 s.2.id, .int .i64 (max 1 s.2.sq), .int .i64 (repSt l (cmdK l (s.1 + 1))), .int .i64 (repCd l (cmdK l (s.1 + 1))), .string (repVl l (cmdK l (s.1 + 1))), .int .i64 (repLd l (cmdK l (s.1 + 1)))] w') ∧ (L.getD 9 false = true → L.getD 3 false = true ∧ DInvE w (w.heap.size + 1) w1.heap.size w5.heap.size v l c0 s.2 (((repK l (cmdK l (s.1 + 1))) + 1) + 1) ev (evsOf l k2 c0 j) #[.int .i64 (1 + (pickV l s.1 3 : Nat)), .int .i64 (cmdCl l (s.1 + 1)), .int .i64 (cmdSq l (s.1 + 1)), .int .i64 (cmdOp l (s.1 + 1)), .string (cmdKy l (s.1 + 1)), .string (cmdVl l (s.1 + 1)), .string (cmdOl l (s.1 + 1)), .int .i64 s.2.id, .int .i64 (max 1 (s.2.sq - 1 + 2 * (pickV l ((repK l (cmdK l (s.1 + 1))) + 1) 2 : Nat))), .int .i64 (repSt l (cmdK l (s.1 + 1))), .int .i64 (repCd l (cmdK l (s.1 + 1))), .string (repVl l (cmdK l (s.1 + 1))), .int .i64 (repLd l (cmdK l (s.1 + 1)))] w') ∧ (L.getD 0 false = true → x 43 = .pointer (some ⟨w1.heap.size, 3, none⟩)) ∧ (L.getD 1 false = true → x 44 = .int .i64 s.2.sq) ∧ (L.getD 2 false = true → x 45 = .int .i64 (s.2.sq - 1)) ∧ (L.getD 3 false = true → x 46 = .int .i64 (pickV l ((repK l (cmdK l (s.1 + 1))) + 1) 2 : Nat)) ∧ (L.getD 4 false = true → (x 47 = .int .i64 (2 * (pickV l ((repK l (cmdK l (s.1 + 1))) + 1) 2 : Nat)) ∧ L.getD 3 false = true)) ∧ (L.getD 5 false = true → (x 48 = .int .i64 (s.2.sq - 1 + 2 * (pickV l ((repK l (cmdK l (s.1 + 1))) + 1) 2 : Nat)) ∧ L.getD 3 false = true)) ∧ (L.getD 6 false = true → (x 49 = .int .i64 (max 1 (s.2.sq - 1 + 2 * (pickV l ((repK l (cmdK l (s.1 + 1))) + 1) 2 : Nat))) ∧ L.getD 3 false = true)) ∧ (L.getD 7 false = true → x 50 = .pointer (some ⟨w5.heap.size, 7, none⟩)) ∧ (L.getD 8 false = true → x 51 = .pointer (some ⟨w5.heap.size, 8, none⟩))) ?_ ?_ ?_
        · exact ⟨_, frame_self a0 [43, 44, 45, 46, 47, 48, 49, 50, 51], fun _ => HE.out.drew, fun h => (noBit h).elim, fun h => (noBit h).elim, fun h => (noBit h).elim, fun h => (noBit h).elim, fun h => (noBit h).elim, fun h => (noBit h).elim, fun h => (noBit h).elim, fun h => (noBit h).elim, fun h => (noBit h).elim, fun h => (noBit h).elim, fun h => (noBit h).elim⟩
        · rintro L a w' i hsL hi ⟨x, rfl, hA, hBb, hCc, h0, h1, h2, h3, h4, h5, h6, h7, h8⟩
          have hiL : i < 10 := (ready_mem hsL hi).1
          have hL10 : L.size = 10 := hsL
          have hany : ∃ kk CC, DInvE w (w.heap.size + 1) w1.heap.size w5.heap.size v l c0 s.2 kk ev (evsOf l k2 c0 j) CC w' := by
            by_cases q3 : L.getD 3 false = true
            · by_cases q9 : L.getD 9 false = true
              · exact ⟨_, _, (hCc q9).2⟩
              · exact ⟨_, _, hBb q3 q9⟩
            · exact ⟨_, _, hA q3⟩
          obtain ⟨kk, CC, hI⟩ := hany
          rcases (show i = 0 ∨ i = 1 ∨ i = 2 ∨ i = 3 ∨ i = 4 ∨ i = 5 ∨ i = 6 ∨ i = 7 ∨ i = 8 ∨ i = 9 by omega) with rfl | rfl | rfl | rfl | rfl | rfl | rfl | rfl | rfl | rfl
          · skip
            have ev5 : (frame a0 [43, 44, 45, 46, 47, 48, 49, 50, 51] x).tmps[5]?.getD undef = .pointer (some ⟨w1.heap.size, 0, none⟩) := by have h := (frame_eval a0 [43, 44, 45, 46, 47, 48, 49, 50, 51] x 5 rfl).trans e5; simpa [Act.eval] using h
            refine wpOp_plain rfl rfl (wp_value_go (v := .pointer (some ⟨w1.heap.size, 3, none⟩)) ?_ ?_)
            · obtain ⟨aa, haa⟩ : ∃ aa, aa = frame a0 [43, 44, 45, 46, 47, 48, 49, 50, 51] x := ⟨_, rfl⟩
              rw [← haa] at ev5 ⊢
              clear haa HA0 hA hBb hCc h0 h1 h2 h3 h4 h5 h6 h7 h8 HST HE
              go_simp
            exact ⟨_, frame_put _ _ _ 43 _ rfl, fun h => hA (fun q => h (setBit q (by omega))), fun h h' => hBb (keepBit h (by omega) (by decide)) (fun q => h' (setBit q (by omega))), fun h => ⟨setBit (hCc (keepBit h (by omega) (by decide))).1 (by omega), (hCc (keepBit h (by omega) (by decide))).2⟩, fun h => upd_same _ _ _, fun h => by rw [upd_ne _ _ _ _ (by decide)]; exact (h1 (keepBit h (by omega) (by decide))), fun h => by rw [upd_ne _ _ _ _ (by decide)]; exact (h2 (keepBit h (by omega) (by decide))), fun h => by rw [upd_ne _ _ _ _ (by decide)]; exact (h3 (keepBit h (by omega) (by decide))), fun h => ⟨by rw [upd_ne _ _ _ _ (by decide)]; exact (h4 (keepBit h (by omega) (by decide))).1, setBit (h4 (keepBit h (by omega) (by decide))).2 (by omega)⟩, fun h => ⟨by rw [upd_ne _ _ _ _ (by decide)]; exact (h5 (keepBit h (by omega) (by decide))).1, setBit (h5 (keepBit h (by omega) (by decide))).2 (by omega)⟩, fun h => ⟨by rw [upd_ne _ _ _ _ (by decide)]; exact (h6 (keepBit h (by omega) (by decide))).1, setBit (h6 (keepBit h (by omega) (by decide))).2 (by omega)⟩, fun h => by rw [upd_ne _ _ _ _ (by decide)]; exact (h7 (keepBit h (by omega) (by decide))), fun h => by rw [upd_ne _ _ _ _ (by decide)]; exact (h8 (keepBit h (by omega) (by decide)))⟩
          · skip
            have d0 := h0 (ready_needs hi (by decide))
            have hcl : w'.cell? ⟨w1.heap.size, 3, none⟩ = some (.int .i64 s.2.sq) := hI.inv.bc.cell 3
            have ev43 : (frame a0 [43, 44, 45, 46, 47, 48, 49, 50, 51] x).tmps[43]?.getD undef = .pointer (some ⟨w1.heap.size, 3, none⟩) := by have h := (frame_eval_in a0 [43, 44, 45, 46, 47, 48, 49, 50, 51] x 43 rfl (by omega)).trans d0; simpa [Act.eval] using h
            refine wpOp_plain rfl rfl (wp_value_go (v := .int .i64 s.2.sq) ?_ ?_)
            · obtain ⟨aa, haa⟩ : ∃ aa, aa = frame a0 [43, 44, 45, 46, 47, 48, 49, 50, 51] x := ⟨_, rfl⟩
              rw [← haa] at ev43 ⊢
              clear haa HA0 hA hBb hCc h0 h1 h2 h3 h4 h5 h6 h7 h8 HST HE
              go_simp
            exact ⟨_, frame_put _ _ _ 44 _ rfl, fun h => hA (fun q => h (setBit q (by omega))), fun h h' => hBb (keepBit h (by omega) (by decide)) (fun q => h' (setBit q (by omega))), fun h => ⟨setBit (hCc (keepBit h (by omega) (by decide))).1 (by omega), (hCc (keepBit h (by omega) (by decide))).2⟩, fun h => by rw [upd_ne _ _ _ _ (by decide)]; exact (h0 (keepBit h (by omega) (by decide))), fun h => upd_same _ _ _, fun h => by rw [upd_ne _ _ _ _ (by decide)]; exact (h2 (keepBit h (by omega) (by decide))), fun h => by rw [upd_ne _ _ _ _ (by decide)]; exact (h3 (keepBit h (by omega) (by decide))), fun h => ⟨by rw [upd_ne _ _ _ _ (by decide)]; exact (h4 (keepBit h (by omega) (by decide))).1, setBit (h4 (keepBit h (by omega) (by decide))).2 (by omega)⟩, fun h => ⟨by rw [upd_ne _ _ _ _ (by decide)]; exact (h5 (keepBit h (by omega) (by decide))).1, setBit (h5 (keepBit h (by omega) (by decide))).2 (by omega)⟩, fun h => ⟨by rw [upd_ne _ _ _ _ (by decide)]; exact (h6 (keepBit h (by omega) (by decide))).1, setBit (h6 (keepBit h (by omega) (by decide))).2 (by omega)⟩, fun h => by rw [upd_ne _ _ _ _ (by decide)]; exact (h7 (keepBit h (by omega) (by decide))), fun h => by rw [upd_ne _ _ _ _ (by decide)]; exact (h8 (keepBit h (by omega) (by decide)))⟩
          · skip
            have d1 := h1 (ready_needs hi (by decide))
            have ev44 : (frame a0 [43, 44, 45, 46, 47, 48, 49, 50, 51] x).tmps[44]?.getD undef = .int .i64 s.2.sq := by have h := (frame_eval_in a0 [43, 44, 45, 46, 47, 48, 49, 50, 51] x 44 rfl (by omega)).trans d1; simpa [Act.eval] using h
            refine wpOp_plain rfl rfl (wp_value_go (v := .int .i64 (s.2.sq - 1)) ?_ ?_)
            · obtain ⟨aa, haa⟩ : ∃ aa, aa = frame a0 [43, 44, 45, 46, 47, 48, 49, 50, 51] x := ⟨_, rfl⟩
              rw [← haa] at ev44 ⊢
              clear haa HA0 hA hBb hCc h0 h1 h2 h3 h4 h5 h6 h7 h8 HST HE
              go_simp; exact Go.IntWalk.i64_in _ (by omega)
            exact ⟨_, frame_put _ _ _ 45 _ rfl, fun h => hA (fun q => h (setBit q (by omega))), fun h h' => hBb (keepBit h (by omega) (by decide)) (fun q => h' (setBit q (by omega))), fun h => ⟨setBit (hCc (keepBit h (by omega) (by decide))).1 (by omega), (hCc (keepBit h (by omega) (by decide))).2⟩, fun h => by rw [upd_ne _ _ _ _ (by decide)]; exact (h0 (keepBit h (by omega) (by decide))), fun h => by rw [upd_ne _ _ _ _ (by decide)]; exact (h1 (keepBit h (by omega) (by decide))), fun h => upd_same _ _ _, fun h => by rw [upd_ne _ _ _ _ (by decide)]; exact (h3 (keepBit h (by omega) (by decide))), fun h => ⟨by rw [upd_ne _ _ _ _ (by decide)]; exact (h4 (keepBit h (by omega) (by decide))).1, setBit (h4 (keepBit h (by omega) (by decide))).2 (by omega)⟩, fun h => ⟨by rw [upd_ne _ _ _ _ (by decide)]; exact (h5 (keepBit h (by omega) (by decide))).1, setBit (h5 (keepBit h (by omega) (by decide))).2 (by omega)⟩, fun h => ⟨by rw [upd_ne _ _ _ _ (by decide)]; exact (h6 (keepBit h (by omega) (by decide))).1, setBit (h6 (keepBit h (by omega) (by decide))).2 (by omega)⟩, fun h => by rw [upd_ne _ _ _ _ (by decide)]; exact (h7 (keepBit h (by omega) (by decide))), fun h => by rw [upd_ne _ _ _ _ (by decide)]; exact (h8 (keepBit h (by omega) (by decide)))⟩
          · skip
            have n3 : ¬ L.getD 3 false = true := readyBit hsL hi
            have n9 : ¬ L.getD 9 false = true := fun h => n3 (hCc h).1
            have hI3 := hA n3
            have ev4 := (frame_eval a0 [43, 44, 45, 46, 47, 48, 49, 50, 51] x 4 rfl).trans e4
            refine wpOp_plain rfl rfl (wp_call_go (N := 33) rfl (fun _ _ => by go_simp) #[.pointer (some ⟨(w.heap.size + 1), 0, none⟩), .int .i64 2] (by simp only [List.map_toArray, List.map_cons, List.map_nil, ev4]; rfl) ?_)
            refine Calls.mono (l1pick_any (w.heap.size + 1) _ v l ((repK l (cmdK l (s.1 + 1))) + 1) 2 hL (by omega) (by omega) (by omega) hI3.inv.src) ?_
            rintro r w7 ⟨rfl, hs, hg⟩
            rw [show pickK 2 = 1 from by decide] at hs
            refine ⟨_, rfl, ?_⟩
            exact ⟨_, frame_put _ _ _ 46 _ rfl, fun h => (h (setSelf (by omega))).elim, fun _ _ => hI3.grown hg hs, fun h => (n9 (keepBit h (by omega) (by decide))).elim, fun h => by rw [upd_ne _ _ _ _ (by decide)]; exact (h0 (keepBit h (by omega) (by decide))), fun h => by rw [upd_ne _ _ _ _ (by decide)]; exact (h1 (keepBit h (by omega) (by decide))), fun h => by rw [upd_ne _ _ _ _ (by decide)]; exact (h2 (keepBit h (by omega) (by decide))), fun h => upd_same _ _ _, fun h => ⟨by rw [upd_ne _ _ _ _ (by decide)]; exact (h4 (keepBit h (by omega) (by decide))).1, setSelf (by omega)⟩, fun h => ⟨by rw [upd_ne _ _ _ _ (by decide)]; exact (h5 (keepBit h (by omega) (by decide))).1, setSelf (by omega)⟩, fun h => ⟨by rw [upd_ne _ _ _ _ (by decide)]; exact (h6 (keepBit h (by omega) (by decide))).1, setSelf (by omega)⟩, fun h => by rw [upd_ne _ _ _ _ (by decide)]; exact (h7 (keepBit h (by omega) (by decide))), fun h => by rw [upd_ne _ _ _ _ (by decide)]; exact (h8 (keepBit h (by omega) (by decide)))⟩
          · skip
            have d3 := h3 (ready_needs hi (by decide))
            have ev46 : (frame a0 [43, 44, 45, 46, 47, 48, 49, 50, 51] x).tmps[46]?.getD undef = .int .i64 (pickV l ((repK l (cmdK l (s.1 + 1))) + 1) 2 : Nat) := by have h := (frame_eval_in a0 [43, 44, 45, 46, 47, 48, 49, 50, 51] x 46 rfl (by omega)).trans d3; simpa [Act.eval] using h
            refine wpOp_plain rfl rfl (wp_value_go (v := .int .i64 (2 * (pickV l ((repK l (cmdK l (s.1 + 1))) + 1) 2 : Nat))) ?_ ?_)
            · obtain ⟨aa, haa⟩ : ∃ aa, aa = frame a0 [43, 44, 45, 46, 47, 48, 49, 50, 51] x := ⟨_, rfl⟩
              rw [← haa] at ev46 ⊢
              clear haa HA0 hA hBb hCc h0 h1 h2 h3 h4 h5 h6 h7 h8 HST HE
              go_simp; exact Go.IntWalk.i64_in _ (by omega)
            exact ⟨_, frame_put _ _ _ 47 _ rfl, fun h => hA (fun q => h (setBit q (by omega))), fun h h' => hBb (keepBit h (by omega) (by decide)) (fun q => h' (setBit q (by omega))), fun h => ⟨setBit (hCc (keepBit h (by omega) (by decide))).1 (by omega), (hCc (keepBit h (by omega) (by decide))).2⟩, fun h => by rw [upd_ne _ _ _ _ (by decide)]; exact (h0 (keepBit h (by omega) (by decide))), fun h => by rw [upd_ne _ _ _ _ (by decide)]; exact (h1 (keepBit h (by omega) (by decide))), fun h => by rw [upd_ne _ _ _ _ (by decide)]; exact (h2 (keepBit h (by omega) (by decide))), fun h => by rw [upd_ne _ _ _ _ (by decide)]; exact (h3 (keepBit h (by omega) (by decide))), fun h => ⟨upd_same _ _ _, setBit (ready_needs hi (by decide)) (by omega)⟩, fun h => ⟨by rw [upd_ne _ _ _ _ (by decide)]; exact (h5 (keepBit h (by omega) (by decide))).1, setBit (h5 (keepBit h (by omega) (by decide))).2 (by omega)⟩, fun h => ⟨by rw [upd_ne _ _ _ _ (by decide)]; exact (h6 (keepBit h (by omega) (by decide))).1, setBit (h6 (keepBit h (by omega) (by decide))).2 (by omega)⟩, fun h => by rw [upd_ne _ _ _ _ (by decide)]; exact (h7 (keepBit h (by omega) (by decide))), fun h => by rw [upd_ne _ _ _ _ (by decide)]; exact (h8 (keepBit h (by omega) (by decide)))⟩
          · skip
            have d2 := h2 (ready_needs hi (by decide))
            have d4 := h4 (ready_needs hi (by decide))
            have ev45 : (frame a0 [43, 44, 45, 46, 47, 48, 49, 50, 51] x).tmps[45]?.getD undef = .int .i64 (s.2.sq - 1) := by have h := (frame_eval_in a0 [43, 44, 45, 46, 47, 48, 49, 50, 51] x 45 rfl (by omega)).trans d2; simpa [Act.eval] using h
            have ev47 : (frame a0 [43, 44, 45, 46, 47, 48, 49, 50, 51] x).tmps[47]?.getD undef = .int .i64 (2 * (pickV l ((repK l (cmdK l (s.1 + 1))) + 1) 2 : Nat)) := by have h := (frame_eval_in a0 [43, 44, 45, 46, 47, 48, 49, 50, 51] x 47 rfl (by omega)).trans d4.1; simpa [Act.eval] using h
            refine wpOp_plain rfl rfl (wp_value_go (v := .int .i64 (s.2.sq - 1 + 2 * (pickV l ((repK l (cmdK l (s.1 + 1))) + 1) 2 : Nat))) ?_ ?_)
            · obtain ⟨aa, haa⟩ : ∃ aa, aa = frame a0 [43, 44, 45, 46, 47, 48, 49, 50, 51] x := ⟨_, rfl⟩
              rw [← haa] at ev45 ev47 ⊢
              clear haa HA0 hA hBb hCc h0 h1 h2 h3 h4 h5 h6 h7 h8 HST HE
              go_simp; exact Go.IntWalk.i64_in _ (by omega)
            exact ⟨_, frame_put _ _ _ 48 _ rfl, fun h => hA (fun q => h (setBit q (by omega))), fun h h' => hBb (keepBit h (by omega) (by decide)) (fun q => h' (setBit q (by omega))), fun h => ⟨setBit (hCc (keepBit h (by omega) (by decide))).1 (by omega), (hCc (keepBit h (by omega) (by decide))).2⟩, fun h => by rw [upd_ne _ _ _ _ (by decide)]; exact (h0 (keepBit h (by omega) (by decide))), fun h => by rw [upd_ne _ _ _ _ (by decide)]; exact (h1 (keepBit h (by omega) (by decide))), fun h => by rw [upd_ne _ _ _ _ (by decide)]; exact (h2 (keepBit h (by omega) (by decide))), fun h => by rw [upd_ne _ _ _ _ (by decide)]; exact (h3 (keepBit h (by omega) (by decide))), fun h => ⟨by rw [upd_ne _ _ _ _ (by decide)]; exact (h4 (keepBit h (by omega) (by decide))).1, setBit (h4 (keepBit h (by omega) (by decide))).2 (by omega)⟩, fun h => ⟨upd_same _ _ _, setBit d4.2 (by omega)⟩, fun h => ⟨by rw [upd_ne _ _ _ _ (by decide)]; exact (h6 (keepBit h (by omega) (by decide))).1, setBit (h6 (keepBit h (by omega) (by decide))).2 (by omega)⟩, fun h => by rw [upd_ne _ _ _ _ (by decide)]; exact (h7 (keepBit h (by omega) (by decide))), fun h => by rw [upd_ne _ _ _ _ (by decide)]; exact (h8 (keepBit h (by omega) (by decide)))⟩
          · have d5 := h5 (ready_needs hi (by decide))
            have ev48 := (frame_eval_in a0 [43, 44, 45, 46, 47, 48, 49, 50, 51] x 48 rfl (by omega)).trans d5.1
            refine wpOp_plain rfl rfl (wp_call_go (N := 24) rfl (fun _ _ => by go_simp) #[.int .i64 1, .int .i64 (s.2.sq - 1 + 2 * (pickV l ((repK l (cmdK l (s.1 + 1))) + 1) 2 : Nat))] (by simp only [List.map_toArray, List.map_cons, List.map_nil, ev48]; rfl) ?_)
            refine Calls.mono (l1max_any 1 (s.2.sq - 1 + 2 * (pickV l ((repK l (cmdK l (s.1 + 1))) + 1) 2 : Nat)) _) ?_
            rintro r w7 ⟨rfl, hw⟩
            obtain rfl := hw.symm
            refine ⟨_, rfl, ?_⟩
            exact ⟨_, frame_put _ _ _ 49 _ rfl, fun h => hA (fun q => h (setBit q (by omega))), fun h h' => hBb (keepBit h (by omega) (by decide)) (fun q => h' (setBit q (by omega))), fun h => ⟨setBit (hCc (keepBit h (by omega) (by decide))).1 (by omega), (hCc (keepBit h (by omega) (by decide))).2⟩, fun h => by rw [upd_ne _ _ _ _ (by decide)]; exact (h0 (keepBit h (by omega) (by decide))), fun h => by rw [upd_ne _ _ _ _ (by decide)]; exact (h1 (keepBit h (by omega) (by decide))), fun h => by rw [upd_ne _ _ _ _ (by decide)]; exact (h2 (keepBit h (by omega) (by decide))), fun h => by rw [upd_ne _ _ _ _ (by decide)]; exact (h3 (keepBit h (by omega) (by decide))), fun h => ⟨by rw [upd_ne _ _ _ _ (by decide)]; exact (h4 (keepBit h (by omega) (by decide))).1, setBit (h4 (keepBit h (by omega) (by decide))).2 (by omega)⟩, fun h => ⟨by rw [upd_ne _ _ _ _ (by decide)]; exact (h5 (keepBit h (by omega) (by decide))).1, setBit (h5 (keepBit h (by omega) (by decide))).2 (by omega)⟩, fun h => ⟨upd_same _ _ _, setBit d5.2 (by omega)⟩, fun h => by rw [upd_ne _ _ _ _ (by decide)]; exact (h7 (keepBit h (by omega) (by decide))), fun h => by rw [upd_ne _ _ _ _ (by decide)]; exact (h8 (keepBit h (by omega) (by decide)))⟩
          · skip
            have ev10 : (frame a0 [43, 44, 45, 46, 47, 48, 49, 50, 51] x).tmps[10]?.getD undef = .pointer (some ⟨w5.heap.size, 0, none⟩) := by have h := (frame_eval a0 [43, 44, 45, 46, 47, 48, 49, 50, 51] x 10 rfl).trans e10; simpa [Act.eval] using h
            refine wpOp_plain rfl rfl (wp_value_go (v := .pointer (some ⟨w5.heap.size, 7, none⟩)) ?_ ?_)
            · obtain ⟨aa, haa⟩ : ∃ aa, aa = frame a0 [43, 44, 45, 46, 47, 48, 49, 50, 51] x := ⟨_, rfl⟩
              rw [← haa] at ev10 ⊢
              clear haa HA0 hA hBb hCc h0 h1 h2 h3 h4 h5 h6 h7 h8 HST HE
              go_simp
            exact ⟨_, frame_put _ _ _ 50 _ rfl, fun h => hA (fun q => h (setBit q (by omega))), fun h h' => hBb (keepBit h (by omega) (by decide)) (fun q => h' (setBit q (by omega))), fun h => ⟨setBit (hCc (keepBit h (by omega) (by decide))).1 (by omega), (hCc (keepBit h (by omega) (by decide))).2⟩, fun h => by rw [upd_ne _ _ _ _ (by decide)]; exact (h0 (keepBit h (by omega) (by decide))), fun h => by rw [upd_ne _ _ _ _ (by decide)]; exact (h1 (keepBit h (by omega) (by decide))), fun h => by rw [upd_ne _ _ _ _ (by decide)]; exact (h2 (keepBit h (by omega) (by decide))), fun h => by rw [upd_ne _ _ _ _ (by decide)]; exact (h3 (keepBit h (by omega) (by decide))), fun h => ⟨by rw [upd_ne _ _ _ _ (by decide)]; exact (h4 (keepBit h (by omega) (by decide))).1, setBit (h4 (keepBit h (by omega) (by decide))).2 (by omega)⟩, fun h => ⟨by rw [upd_ne _ _ _ _ (by decide)]; exact (h5 (keepBit h (by omega) (by decide))).1, setBit (h5 (keepBit h (by omega) (by decide))).2 (by omega)⟩, fun h => ⟨by rw [upd_ne _ _ _ _ (by decide)]; exact (h6 (keepBit h (by omega) (by decide))).1, setBit (h6 (keepBit h (by omega) (by decide))).2 (by omega)⟩, fun h => upd_same _ _ _, fun h => by rw [upd_ne _ _ _ _ (by decide)]; exact (h8 (keepBit h (by omega) (by decide)))⟩
          · skip
            have d7 := h7 (ready_needs hi (by decide))
            have ev50 : (frame a0 [43, 44, 45, 46, 47, 48, 49, 50, 51] x).tmps[50]?.getD undef = .pointer (some ⟨w5.heap.size, 7, none⟩) := by have h := (frame_eval_in a0 [43, 44, 45, 46, 47, 48, 49, 50, 51] x 50 rfl (by omega)).trans d7; simpa [Act.eval] using h
            refine wpOp_plain rfl rfl (wp_value_go (v := .pointer (some ⟨w5.heap.size, 8, none⟩)) ?_ ?_)
            · obtain ⟨aa, haa⟩ : ∃ aa, aa = frame a0 [43, 44, 45, 46, 47, 48, 49, 50, 51] x := ⟨_, rfl⟩
              rw [← haa] at ev50 ⊢
              clear haa HA0 hA hBb hCc h0 h1 h2 h3 h4 h5 h6 h7 h8 HST HE
              go_simp
            exact ⟨_, frame_put _ _ _ 51 _ rfl, fun h => hA (fun q => h (setBit q (by omega))), fun h h' => hBb (keepBit h (by omega) (by decide)) (fun q => h' (setBit q (by omega))), fun h => ⟨setBit (hCc (keepBit h (by omega) (by decide))).1 (by omega), (hCc (keepBit h (by omega) (by decide))).2⟩, fun h => by rw [upd_ne _ _ _ _ (by decide)]; exact (h0 (keepBit h (by omega) (by decide))), fun h => by rw [upd_ne _ _ _ _ (by decide)]; exact (h1 (keepBit h (by omega) (by decide))), fun h => by rw [upd_ne _ _ _ _ (by decide)]; exact (h2 (keepBit h (by omega) (by decide))), fun h => by rw [upd_ne _ _ _ _ (by decide)]; exact (h3 (keepBit h (by omega) (by decide))), fun h => ⟨by rw [upd_ne _ _ _ _ (by decide)]; exact (h4 (keepBit h (by omega) (by decide))).1, setBit (h4 (keepBit h (by omega) (by decide))).2 (by omega)⟩, fun h => ⟨by rw [upd_ne _ _ _ _ (by decide)]; exact (h5 (keepBit h (by omega) (by decide))).1, setBit (h5 (keepBit h (by omega) (by decide))).2 (by omega)⟩, fun h => ⟨by rw [upd_ne _ _ _ _ (by decide)]; exact (h6 (keepBit h (by omega) (by decide))).1, setBit (h6 (keepBit h (by omega) (by decide))).2 (by omega)⟩, fun h => by rw [upd_ne _ _ _ _ (by decide)]; exact (h7 (keepBit h (by omega) (by decide))), fun h => upd_same _ _ _⟩
          · have d6 := h6 (ready_needs hi (by decide))
            have d8 := h8 (ready_needs hi (by decide))
            have n9 : ¬ L.getD 9 false = true := readyBit hsL hi
            have hI9 := hBb d6.2 n9
            have evp := (frame_eval_in a0 [43, 44, 45, 46, 47, 48, 49, 50, 51] x 51 rfl (by omega)).trans d8
            have evs := (frame_eval_in a0 [43, 44, 45, 46, 47, 48, 49, 50, 51] x 49 rfl (by omega)).trans d6.1
            refine wpOp_plain rfl rfl (wp_store_num (.tmp 51) (.tmp 49) rfl (w5.heap.size) 8 evp evs hI9.be (by simp) ?_)
            exact ⟨_, rfl, fun h => (h (setBit d6.2 (by omega))).elim, fun _ h => (h (setSelf (by omega))).elim, fun _ => ⟨setBit d6.2 (by omega), hI9.set 8 _⟩, fun h => (h0 (keepBit h (by omega) (by decide))), fun h => (h1 (keepBit h (by omega) (by decide))), fun h => (h2 (keepBit h (by omega) (by decide))), fun h => (h3 (keepBit h (by omega) (by decide))), fun h => ⟨(h4 (keepBit h (by omega) (by decide))).1, setBit (h4 (keepBit h (by omega) (by decide))).2 (by omega)⟩, fun h => ⟨(h5 (keepBit h (by omega) (by decide))).1, setBit (h5 (keepBit h (by omega) (by decide))).2 (by omega)⟩, fun h => ⟨(h6 (keepBit h (by omega) (by decide))).1, setBit (h6 (keepBit h (by omega) (by decide))).2 (by omega)⟩, fun h => (h7 (keepBit h (by omega) (by decide))), fun h => (h8 (keepBit h (by omega) (by decide)))⟩
        · rintro L a w' hsL hr ⟨x, rfl, hA, hBb, hCc, h0, h1, h2, h3, h4, h5, h6, h7, h8⟩
          have hall := ready_nil hsL hr (by decide)
          replace h0 := h0 (hall 0 (by decide))
          replace h1 := h1 (hall 1 (by decide))
          replace h2 := h2 (hall 2 (by decide))
          replace h3 := h3 (hall 3 (by decide))
          replace h4 := h4 (hall 4 (by decide))
          replace h5 := h5 (hall 5 (by decide))
          replace h6 := h6 (hall 6 (by decide))
          replace h7 := h7 (hall 7 (by decide))
          replace h8 := h8 (hall 8 (by decide))
          have HE' := (hCc (hall 9 (by decide))).2
          replace HE : Hid (DInvE w (w.heap.size + 1) w1.heap.size w5.heap.size v l c0 s.2 (((repK l (cmdK l (s.1 + 1))) + 1) + 1) ev (evsOf l k2 c0 j) #[.int .i64 (1 + (pickV l s.1 3 : Nat)), .int .i64 (cmdCl l (s.1 + 1)), .int .i64 (cmdSq l (s.1 + 1)), .int .i64 (cmdOp l (s.1 + 1)), .string (cmdKy l (s.1 + 1)), .string (cmdVl l (s.1 + 1)), .string (cmdOl l (s.1 + 1)), .int .i64 s.2.id, .int .i64 (max 1 (s.2.sq - 1 + 2 * (pickV l ((repK l (cmdK l (s.1 + 1))) + 1) 2 : Nat))), .int .i64 (repSt l (cmdK l (s.1 + 1))), .int .i64 (repCd l (cmdK l (s.1 + 1))), .string (repVl l (cmdK l (s.1 + 1))), .int .i64 (repLd l (cmdK l (s.1 + 1)))] w') := HE'
          clear HE' hA hBb hCc
          rw [HA0.out]
          simp only [frame, List.zipIdx_cons, List.zipIdx_nil, List.map_cons, List.map_nil, List.contains_cons, List.contains_nil, Nat.reduceBEq, Nat.reduceAdd, Bool.or_false, Bool.false_or, Bool.or_true, Bool.true_or, Bool.false_eq_true, if_false, if_true, h0, h1, h2, h3, h4.1, h5.1, h6.1, h7, h8]
          have zz' : w5.heap.size < w'.heap.size := HE.out.be.lt
          go_wp2_with (first
            | (have hBA := HE; refine gate_ld 45 (.tmp 10) rfl ?_; clear hBA f5; refine wpl_load_blk rfl 45 (.tmp 10) rfl (w5.heap.size) rfl HE.out.be Try.underlying45 rfl sizeCevD rfl ?_)
            | (at_builtin; refine wpl_appendV rfl (.tmp 52) (.tmp 54) rfl ⟨1 + (pickV l s.1 3 : Nat), cmdCl l (s.1 + 1), cmdSq l (s.1 + 1), cmdOp l (s.1 + 1), cmdKy l (s.1 + 1), cmdVl l (s.1 + 1), cmdOl l (s.1 + 1), s.2.id, max 1 (s.2.sq - 1 + 2 * (pickV l ((repK l (cmdK l (s.1 + 1))) + 1) 2 : Nat)), repSt l (cmdK l (s.1 + 1)), repCd l (cmdK l (s.1 + 1)), repVl l (cmdK l (s.1 + 1)), repLd l (cmdK l (s.1 + 1))⟩ (HE.out.inv.alloc _).own rfl (w'.heap.size) 1 (Blk.new _ _ _) rfl rfl (by omega) (by simp <;> omega) ?_; intro v2 w8 ho hg; have zw8 := hg.g.size; simp at zw8; have HF : Hid (DInv w (w.heap.size + 1) w1.heap.size v l c0 s.2 (((repK l (cmdK l (s.1 + 1))) + 1) + 1) v2 (evsOf l k2 c0 j ++ [⟨1 + (pickV l s.1 3 : Nat), cmdCl l (s.1 + 1), cmdSq l (s.1 + 1), cmdOp l (s.1 + 1), cmdKy l (s.1 + 1), cmdVl l (s.1 + 1), cmdOl l (s.1 + 1), s.2.id, max 1 (s.2.sq - 1 + 2 * (pickV l ((repK l (cmdK l (s.1 + 1))) + 1) 2 : Nat)), repSt l (cmdK l (s.1 + 1)), repCd l (cmdK l (s.1 + 1)), repVl l (cmdK l (s.1 + 1)), repLd l (cmdK l (s.1 + 1))⟩]) w8) := (HE.out.inv.alloc _).app ho hg; have HBe : Hid (Blk w8 w5.heap.size #[.int .i64 (1 + (pickV l s.1 3 : Nat)), .int .i64 (cmdCl l (s.1 + 1)), .int .i64 (cmdSq l (s.1 + 1)), .int .i64 (cmdOp l (s.1 + 1)), .string (cmdKy l (s.1 + 1)), .string (cmdVl l (s.1 + 1)), .string (cmdOl l (s.1 + 1)), .int .i64 s.2.id, .int .i64 (max 1 (s.2.sq - 1 + 2 * (pickV l ((repK l (cmdK l (s.1 + 1))) + 1) 2 : Nat))), .int .i64 (repSt l (cmdK l (s.1 + 1))), .int .i64 (repCd l (cmdK l (s.1 + 1))), .string (repVl l (cmdK l (s.1 + 1))), .int .i64 (repLd l (cmdK l (s.1 + 1)))] 45) := (HE.out.be.alloc _).keep (hg.block (by simp <;> omega) HE.out.far); clear ho hg HE)
            | (have hBA := HF; refine gate_ld 35 (.tmp 5) rfl ?_; clear hBA; refine wpl_load_blk rfl 35 (.tmp 5) rfl (w1.heap.size) rfl HF.out.bc Try.underlying35 rfl sizeCliD rfl ?_)
            | (have hBA := HF; refine gate_ld 45 (.tmp 10) rfl ?_; clear hBA; refine wpl_load_blk rfl 45 (.tmp 10) rfl (w5.heap.size) rfl HBe.out Try.underlying45 rfl sizeCevD rfl ?_)
            | (go_at_call 14; refine Calls.mono (HST.out _) ?_; rintro r w9 ⟨rfl, hb⟩; have zw9 := hb.size; replace HF : Hid (DInv w (w.heap.size + 1) w1.heap.size v l c0 s.2 (((repK l (cmdK l (s.1 + 1))) + 1) + 1) v2 (evsOf l k2 c0 j ++ [⟨1 + (pickV l s.1 3 : Nat), cmdCl l (s.1 + 1), cmdSq l (s.1 + 1), cmdOp l (s.1 + 1), cmdKy l (s.1 + 1), cmdVl l (s.1 + 1), cmdOl l (s.1 + 1), s.2.id, max 1 (s.2.sq - 1 + 2 * (pickV l ((repK l (cmdK l (s.1 + 1))) + 1) 2 : Nat)), repSt l (cmdK l (s.1 + 1)), repCd l (cmdK l (s.1 + 1)), repVl l (cmdK l (s.1 + 1)), repLd l (cmdK l (s.1 + 1))⟩]) w9) := HF.out.below hb; clear hb HBe; have hfd := field_cli (.int .i64 cd) (.int .i64 sd) (.int .i64 dn) (.int .i64 nx.id) (.int .i64 nx.sv) (.int .i64 nx.rt) (.int .i64 nx.sq) (.int .i64 nx.bs) (.int .i64 nx.tg) (.int .i64 nx.wt) (.int .i64 nx.ccl) (.int .i64 nx.csq) (.int .i64 nx.cop) (.string nx.ck) (.string nx.cv) (.string nx.co) w9)
            | (have hBA := HF; refine gate_st 35 (.tmp 5) _ rfl ?_; clear hBA; refine wpl_store_blk rfl 35 (.tmp 5) _ rfl (w1.heap.size) rfl rfl HF.out.bc sizeCliD rfl rfl (by simp [Value.oneCell']) ?_; have HP : Hid (DInv w (w.heap.size + 1) w1.heap.size v l c0 nx (((repK l (cmdK l (s.1 + 1))) + 1) + 1) v2 (evsOf l k2 c0 j ++ [⟨1 + (pickV l s.1 3 : Nat), cmdCl l (s.1 + 1), cmdSq l (s.1 + 1), cmdOp l (s.1 + 1), cmdKy l (s.1 + 1), cmdVl l (s.1 + 1), cmdOl l (s.1 + 1), s.2.id, max 1 (s.2.sq - 1 + 2 * (pickV l ((repK l (cmdK l (s.1 + 1))) + 1) 2 : Nat)), repSt l (cmdK l (s.1 + 1)), repCd l (cmdK l (s.1 + 1)), repVl l (cmdK l (s.1 + 1)), repLd l (cmdK l (s.1 + 1))⟩]) (w9.setRow w1.heap.size #[.int .i64 nx.id, .int .i64 nx.sv, .int .i64 nx.rt, .int .i64 nx.sq, .int .i64 nx.bs, .int .i64 nx.tg, .int .i64 nx.wt, .int .i64 nx.ccl, .int .i64 nx.csq, .int .i64 nx.cop, .string nx.ck, .string nx.cv, .string nx.co])) := HF.out.put (c' := nx); clear HF))
          go_roundw
          case rel => exact ⟨j + 1, by omega, by go_num, by rw [hnx, hes, hkk]; exact HP.out⟩
          case measure => simp [intOf]; omega
      · have he : evOf l s.1 s.2 = ⟨1 + (pickV l s.1 3 : Nat), cmdCl l (s.1 + 1), cmdSq l (s.1 + 1), cmdOp l (s.1 + 1), cmdKy l (s.1 + 1), cmdVl l (s.1 + 1), cmdOl l (s.1 + 1), s.2.id, max 1 s.2.sq, repSt l (cmdK l (s.1 + 1)), repCd l (cmdK l (s.1 + 1)), repVl l (cmdK l (s.1 + 1)), repLd l (cmdK l (s.1 + 1))⟩ := by unfold evOf; rw [if_neg hp]
        have hkk : evK l s.1 = (repK l (cmdK l (s.1 + 1))) + 1 := by unfold evK; rw [if_neg hp]
        rw [he] at hsw hnx hes hz1 hz2 hz3 hz4
        obtain ⟨nx, hnxx⟩ : ∃ nx, nx = nextC s.2 ⟨1 + (pickV l s.1 3 : Nat), cmdCl l (s.1 + 1), cmdSq l (s.1 + 1), cmdOp l (s.1 + 1), cmdKy l (s.1 + 1), cmdVl l (s.1 + 1), cmdOl l (s.1 + 1), s.2.id, max 1 s.2.sq, repSt l (cmdK l (s.1 + 1)), repCd l (cmdK l (s.1 + 1)), repVl l (cmdK l (s.1 + 1)), repLd l (cmdK l (s.1 + 1))⟩ := ⟨_, rfl⟩
        rw [← hnxx] at hsw hnx
        have HST : Hid (∀ u : World, Calls Try.prog 14 #[.agg #[.int .i64 s.2.id, .int .i64 s.2.sv, .int .i64 s.2.rt, .int .i64 s.2.sq, .int .i64 s.2.bs, .int .i64 s.2.tg, .int .i64 s.2.wt, .int .i64 s.2.ccl, .int .i64 s.2.csq, .int .i64 s.2.cop, .string s.2.ck, .string s.2.cv, .string s.2.co], .agg #[.int .i64 (1 + (pickV l s.1 3 : Nat)), .int .i64 (cmdCl l (s.1 + 1)), .int .i64 (cmdSq l (s.1 + 1)), .int .i64 (cmdOp l (s.1 + 1)), .string (cmdKy l (s.1 + 1)), .string (cmdVl l (s.1 + 1)), .string (cmdOl l (s.1 + 1)), .int .i64 s.2.id, .int .i64 (max 1 s.2.sq), .int .i64 (repSt l (cmdK l (s.1 + 1))), .int .i64 (repCd l (cmdK l (s.1 + 1))), .string (repVl l (cmdK l (s.1 + 1))), .int .i64 (repLd l (cmdK l (s.1 + 1)))]] u fun x w' => x = .returned (.agg #[.int .i64 cd, .int .i64 sd, .int .i64 dn, .int .i64 nx.id, .int .i64 nx.sv, .int .i64 nx.rt, .int .i64 nx.sq, .int .i64 nx.bs, .int .i64 nx.tg, .int .i64 nx.wt, .int .i64 nx.ccl, .int .i64 nx.csq, .int .i64 nx.cop, .string nx.ck, .string nx.cv, .string nx.co]) ∧ Below u.heap.size u w') := fun u => by
          have h := sStepClient_any s.2.id s.2.sv s.2.rt s.2.sq s.2.bs s.2.tg s.2.wt s.2.ccl s.2.csq s.2.cop s.2.ck s.2.cv s.2.co (1 + (pickV l s.1 3 : Nat)) (cmdCl l (s.1 + 1)) (cmdSq l (s.1 + 1)) (cmdOp l (s.1 + 1)) (cmdKy l (s.1 + 1)) (cmdVl l (s.1 + 1)) (cmdOl l (s.1 + 1)) s.2.id (max 1 s.2.sq) (repSt l (cmdK l (s.1 + 1))) (repCd l (cmdK l (s.1 + 1))) (repVl l (cmdK l (s.1 + 1))) (repLd l (cmdK l (s.1 + 1))) (by unfold maxLen; omega) (by unfold maxLen; omega) (by unfold maxLen; omega) (by unfold maxLen; exact Nat.le_trans hz1 (by omega)) (by unfold maxLen; exact Nat.le_trans hz2 (by omega)) (by unfold maxLen; exact Nat.le_trans hz3 (by omega)) (by unfold maxLen; exact Nat.le_trans hz4 (by omega)) u
          have hsw' : stepV s.2.id s.2.sv s.2.rt s.2.sq s.2.bs s.2.tg s.2.wt s.2.ccl s.2.csq s.2.cop s.2.ck s.2.cv s.2.co (1 + (pickV l s.1 3 : Nat)) (cmdCl l (s.1 + 1)) (cmdSq l (s.1 + 1)) (cmdOp l (s.1 + 1)) (cmdKy l (s.1 + 1)) (cmdVl l (s.1 + 1)) (cmdOl l (s.1 + 1)) s.2.id (max 1 s.2.sq) (repSt l (cmdK l (s.1 + 1))) (repCd l (cmdK l (s.1 + 1))) (repVl l (cmdK l (s.1 + 1))) (repLd l (cmdK l (s.1 + 1))) = ansV cd sd dn nx := hsw
          rw [hsw'] at h
          exact h
        clear hsw hz1 hz2 hz3 hz4 hnxx
        have fp : ¬ ((pickV l (repK l (cmdK l (s.1 + 1))) 4 : Nat) : Int) = 0 := by omega
        go_wp2_with (first
          | (go_at_call 33; clear f0; refine Calls.mono (l1pick_any (w.heap.size + 1) _ v l s.1 3 hL (by omega) (by omega) (by omega) HD.out.src) ?_; rintro r w3 ⟨rfl, hs, hg⟩; rw [show pickK 3 = 1 from by decide] at hs; have zw3 := hg.size; (try simp [World.setCell] at zw3); replace HD : Hid (DInv w (w.heap.size + 1) w1.heap.size v l c0 s.2 (s.1 + 1) ev (evsOf l k2 c0 j) w3) := HD.out.grown hg hs; clear hs hg)
          | (go_at_call 35; clear f1; refine Calls.mono (l1drawCmd_any (w.heap.size + 1) _ v l (s.1 + 1) hL (by omega) HD.out.src) ?_; rintro r w4 ⟨rfl, hs, hg⟩; have zw4 := hg.size; (try simp [World.setCell] at zw4); replace HD : Hid (DInv w (w.heap.size + 1) w1.heap.size v l c0 s.2 (cmdK l (s.1 + 1)) ev (evsOf l k2 c0 j) w4) := HD.out.grown hg hs; clear hs hg)
          | (go_at_call 36; clear f2; refine Calls.mono (l1drawReply_any (w.heap.size + 1) _ v l (cmdK l (s.1 + 1)) hL (by omega) HD.out.src) ?_; rintro r w5 ⟨rfl, hs, hg⟩; have zw5 := hg.size; (try simp [World.setCell] at zw5); replace HD : Hid (DInv w (w.heap.size + 1) w1.heap.size v l c0 s.2 (repK l (cmdK l (s.1 + 1))) ev (evsOf l k2 c0 j) w5) := HD.out.grown hg hs; clear hs hg)
          | (have hBA := HD; refine gate_st 45 (.tmp 10) _ rfl ?_; clear hBA; refine wpl_store_last rfl 45 (.tmp 10) _ rfl (w5.heap.size) rfl rfl rfl sizeCevD rfl rfl (by simp [Value.oneCell']) ?_; have cC : ∀ (o : Obj) (i : Nat), (w5.alloc o).cell? ⟨w1.heap.size, i, none⟩ = #[.int .i64 s.2.id, .int .i64 s.2.sv, .int .i64 s.2.rt, .int .i64 s.2.sq, .int .i64 s.2.bs, .int .i64 s.2.tg, .int .i64 s.2.wt, .int .i64 s.2.ccl, .int .i64 s.2.csq, .int .i64 s.2.cop, .string s.2.ck, .string s.2.cv, .string s.2.co][i]? := fun o i => (HD.out.bc.alloc o).cell i)
          | (go_at_call 24; clear f3; refine Calls.mono (l1max_any 1 s.2.sq _) ?_; rintro r w6 ⟨rfl, hw⟩; obtain rfl := hw.symm; clear hw)
          | (go_at_call 33; clear f4; refine Calls.mono (l1pick_any (w.heap.size + 1) _ v l (repK l (cmdK l (s.1 + 1))) 4 hL (by omega) (by omega) (by omega) (DInvE.new HD.out _).inv.src) ?_; rintro r w6 ⟨rfl, hs, hg⟩; rw [show pickK 4 = 1 from by decide] at hs; have zw6 := hg.size; (try simp [World.setCell] at zw6); have HE : Hid (DInvE w (w.heap.size + 1) w1.heap.size w5.heap.size v l c0 s.2 ((repK l (cmdK l (s.1 + 1))) + 1) ev (evsOf l k2 c0 j) #[.int .i64 (1 + (pickV l s.1 3 : Nat)), .int .i64 (cmdCl l (s.1 + 1)), .int .i64 (cmdSq l (s.1 + 1)), .int .i64 (cmdOp l (s.1 + 1)), .string (cmdKy l (s.1 + 1)), .string (cmdVl l (s.1 + 1)), .string (cmdOl l (s.1 + 1)), .int .i64 s.2.id, .int .i64 (max 1 s.2.sq), .int .i64 (repSt l (cmdK l (s.1 + 1))), .int .i64 (repCd l (cmdK l (s.1 + 1))), .string (repVl l (cmdK l (s.1 + 1))), .int .i64 (repLd l (cmdK l (s.1 + 1)))] w6) := (DInvE.new HD.out _).grown hg hs; clear hs hg HD cC)
          | (have hBA := HE; refine gate_ld 45 (.tmp 10) rfl ?_; clear hBA f5; refine wpl_load_blk rfl 45 (.tmp 10) rfl (w5.heap.size) rfl HE.out.be Try.underlying45 rfl sizeCevD rfl ?_)
          | (at_builtin; refine wpl_appendV rfl (.tmp 52) (.tmp 54) rfl ⟨1 + (pickV l s.1 3 : Nat), cmdCl l (s.1 + 1), cmdSq l (s.1 + 1), cmdOp l (s.1 + 1), cmdKy l (s.1 + 1), cmdVl l (s.1 + 1), cmdOl l (s.1 + 1), s.2.id, max 1 s.2.sq, repSt l (cmdK l (s.1 + 1)), repCd l (cmdK l (s.1 + 1)), repVl l (cmdK l (s.1 + 1)), repLd l (cmdK l (s.1 + 1))⟩ (HE.out.inv.alloc _).own rfl (w6.heap.size) 1 (Blk.new _ _ _) rfl rfl (by omega) (by simp <;> omega) ?_; intro v2 w8 ho hg; have zw8 := hg.g.size; simp at zw8; have HF : Hid (DInv w (w.heap.size + 1) w1.heap.size v l c0 s.2 ((repK l (cmdK l (s.1 + 1))) + 1) v2 (evsOf l k2 c0 j ++ [⟨1 + (pickV l s.1 3 : Nat), cmdCl l (s.1 + 1), cmdSq l (s.1 + 1), cmdOp l (s.1 + 1), cmdKy l (s.1 + 1), cmdVl l (s.1 + 1), cmdOl l (s.1 + 1), s.2.id, max 1 s.2.sq, repSt l (cmdK l (s.1 + 1)), repCd l (cmdK l (s.1 + 1)), repVl l (cmdK l (s.1 + 1)), repLd l (cmdK l (s.1 + 1))⟩]) w8) := (HE.out.inv.alloc _).app ho hg; have HBe : Hid (Blk w8 w5.heap.size #[.int .i64 (1 + (pickV l s.1 3 : Nat)), .int .i64 (cmdCl l (s.1 + 1)), .int .i64 (cmdSq l (s.1 + 1)), .int .i64 (cmdOp l (s.1 + 1)), .string (cmdKy l (s.1 + 1)), .string (cmdVl l (s.1 + 1)), .string (cmdOl l (s.1 + 1)), .int .i64 s.2.id, .int .i64 (max 1 s.2.sq), .int .i64 (repSt l (cmdK l (s.1 + 1))), .int .i64 (repCd l (cmdK l (s.1 + 1))), .string (repVl l (cmdK l (s.1 + 1))), .int .i64 (repLd l (cmdK l (s.1 + 1)))] 45) := (HE.out.be.alloc _).keep (hg.block (by simp <;> omega) HE.out.far); clear ho hg HE)
          | (have hBA := HF; refine gate_ld 35 (.tmp 5) rfl ?_; clear hBA; refine wpl_load_blk rfl 35 (.tmp 5) rfl (w1.heap.size) rfl HF.out.bc Try.underlying35 rfl sizeCliD rfl ?_)
          | (have hBA := HF; refine gate_ld 45 (.tmp 10) rfl ?_; clear hBA; refine wpl_load_blk rfl 45 (.tmp 10) rfl (w5.heap.size) rfl HBe.out Try.underlying45 rfl sizeCevD rfl ?_)
          | (go_at_call 14; refine Calls.mono (HST.out _) ?_; rintro r w9 ⟨rfl, hb⟩; have zw9 := hb.size; replace HF : Hid (DInv w (w.heap.size + 1) w1.heap.size v l c0 s.2 ((repK l (cmdK l (s.1 + 1))) + 1) v2 (evsOf l k2 c0 j ++ [⟨1 + (pickV l s.1 3 : Nat), cmdCl l (s.1 + 1), cmdSq l (s.1 + 1), cmdOp l (s.1 + 1), cmdKy l (s.1 + 1), cmdVl l (s.1 + 1), cmdOl l (s.1 + 1), s.2.id, max 1 s.2.sq, repSt l (cmdK l (s.1 + 1)), repCd l (cmdK l (s.1 + 1)), repVl l (cmdK l (s.1 + 1)), repLd l (cmdK l (s.1 + 1))⟩]) w9) := HF.out.below hb; clear hb HBe; have hfd := field_cli (.int .i64 cd) (.int .i64 sd) (.int .i64 dn) (.int .i64 nx.id) (.int .i64 nx.sv) (.int .i64 nx.rt) (.int .i64 nx.sq) (.int .i64 nx.bs) (.int .i64 nx.tg) (.int .i64 nx.wt) (.int .i64 nx.ccl) (.int .i64 nx.csq) (.int .i64 nx.cop) (.string nx.ck) (.string nx.cv) (.string nx.co) w9)
          | (have hBA := HF; refine gate_st 35 (.tmp 5) _ rfl ?_; clear hBA; refine wpl_store_blk rfl 35 (.tmp 5) _ rfl (w1.heap.size) rfl rfl HF.out.bc sizeCliD rfl rfl (by simp [Value.oneCell']) ?_; have HP : Hid (DInv w (w.heap.size + 1) w1.heap.size v l c0 nx ((repK l (cmdK l (s.1 + 1))) + 1) v2 (evsOf l k2 c0 j ++ [⟨1 + (pickV l s.1 3 : Nat), cmdCl l (s.1 + 1), cmdSq l (s.1 + 1), cmdOp l (s.1 + 1), cmdKy l (s.1 + 1), cmdVl l (s.1 + 1), cmdOl l (s.1 + 1), s.2.id, max 1 s.2.sq, repSt l (cmdK l (s.1 + 1)), repCd l (cmdK l (s.1 + 1)), repVl l (cmdK l (s.1 + 1)), repLd l (cmdK l (s.1 + 1))⟩]) (w9.setRow w1.heap.size #[.int .i64 nx.id, .int .i64 nx.sv, .int .i64 nx.rt, .int .i64 nx.sq, .int .i64 nx.bs, .int .i64 nx.tg, .int .i64 nx.wt, .int .i64 nx.ccl, .int .i64 nx.csq, .int .i64 nx.cop, .string nx.ck, .string nx.cv, .string nx.co])) := HF.out.put (c' := nx); clear HF))
        go_roundw
        case rel => exact ⟨j + 1, by omega, by go_num, by rw [hnx, hes, hkk]; exact HP.out⟩
        case measure => simp [intOf]; omega
    · obtain rfl : j = 6 + m := by omega
      have hgq : (w.heap.size + 1) < w1.heap.size := HD.out.gq
      have hlq : w1.heap.size + 2 ≤ wr.heap.size := HD.out.lt
      go_wp2_with (first
        | (have hBA := HD; refine gate_ld 35 (.tmp 6) rfl ?_; clear hBA; refine wpl_load_blk rfl 35 (.tmp 6) rfl (w1.heap.size + 1) rfl HD.out.bf Try.underlying35 rfl sizeCliD rfl ?_)
        | (have hBA := HD; refine gate_st 35 (.tmp 2) _ rfl ?_; clear hBA; refine wpl_store_blk rfl 35 (.tmp 2) _ rfl (w.heap.size) rfl rfl HD.out.br sizeCliD rfl rfl (by simp [Value.oneCell']) ?_))
      exact bodyPost_ret (v := .tuple #[.agg #[.int .i64 c0.id, .int .i64 c0.sv, .int .i64 c0.rt, .int .i64 c0.sq, .int .i64 c0.bs, .int .i64 c0.tg, .int .i64 c0.wt, .int .i64 c0.ccl, .int .i64 c0.csq, .int .i64 c0.cop, .string c0.ck, .string c0.cv, .string c0.co], ev]) (results_blk2 Try.results13 rfl rfl (HD.out.br.row _) Try.underlying35 rfl sizeCliD rfl) rfl ⟨ev, rfl, (HD.out.own.block fun b e => setRow_other _ _ _ _ (by have := (HD.out.own.2.lt b e).1; omega)).le (by omega), below_row HD.out.bel (Nat.le_refl _) _⟩
end Go.Proofs.Ytclphmakokpnnaa
