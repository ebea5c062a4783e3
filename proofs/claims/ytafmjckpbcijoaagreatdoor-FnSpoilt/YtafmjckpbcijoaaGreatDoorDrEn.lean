/-
  spec.DrawEncodeCall, spec.DrawEncodeReply.
-/
import Derived.Test.YtafmjckpbcijoaaGreatDoorDrBy
import Derived.Test.YtafmjckpbcijoaaGreatDoorDrawD
namespace Go.Proofs.YtafmjckpbcijoaaGreatDoor
open Go.RowKit
set_option linter.unusedVariables false
set_option linter.unusedSimpArgs false

theorem grown_belowE {w w' : World} {o1 o2 : Obj} (h : World.grownBy ((w.alloc o1).alloc o2) w' (some (w.heap.size + 1))) : Below w.heap.size w w' := by
  have hb : Below w.heap.size w ((w.alloc o1).alloc o2) := ((Below.refl _ _).alloc (Nat.le_refl _) _).alloc (by simp) _
  refine ⟨h.os.trans hb.os, h.tape.trans hb.tape, h.output.trans hb.output, Nat.le_trans hb.size h.size, fun k hk => (h.block k (by simp; omega) (by intro e; injection e with e; omega)).trans (hb.block k hk)⟩
def drC (l : List Int) : CmdV := ⟨cmdCl l 0, cmdSq l 0, cmdOp l 0, cmdKy l 0, cmdVl l 0, cmdOl l 0⟩
def encC (l : List Int) : CmdV := if pickV l (cmdK l 0) 8 = 0 then (badC l (cmdK l 0 + 1) (drC l)).1 else drC l
def drY (l : List Int) : RepD := ⟨repCl l 0, repSq l 0, repSt l 0, repCd l 0, repVl l 0, repLd l 0⟩
def encY (l : List Int) : RepD := if pickV l (repK l 0) 4 = 0 then (badY l (repK l 0 + 1) (drY l)).1 else drY l
set_option maxHeartbeats 8000000 in
set_option maxRecDepth 100000 in
theorem drawEncodeCall_any (a : Option Addr) (cap : Nat) (l : List Int) (w : World) (hv : Bs w (.slice a l.length cap) l) (hL : l.length ≤ 1048576) :
    Calls Tryz.prog 10 #[.slice a l.length cap] w fun r w' => r = .returned (.agg #[.int .i64 (encC l).cl, .int .i64 (encC l).sq, .int .i64 (encC l).op, .string (encC l).ky, .string (encC l).vl, .string (encC l).ol]) ∧ Below w.heap.size w w' := by
  have HS0 : Hid (Src ((w.alloc (.cells #[.int .i64 0, .int .i64 0, .int .i64 0, .string ⟨#[]⟩, .string ⟨#[]⟩, .string ⟨#[]⟩] 33)).alloc (.cells #[.slice a l.length cap, .int .i64 0] 54)) (w.heap.size + 1) (.slice a l.length cap) l 0) := by
    have hx := Src.start (w.alloc (.cells #[.int .i64 0, .int .i64 0, .int .i64 0, .string ⟨#[]⟩, .string ⟨#[]⟩, .string ⟨#[]⟩] 33)) (.slice a l.length cap) l (hv.below ((Below.refl _ _).alloc (Nat.le_refl _) _)) 54
    rw [show (w.alloc (.cells #[.int .i64 0, .int .i64 0, .int .i64 0, .string ⟨#[]⟩, .string ⟨#[]⟩, .string ⟨#[]⟩] 33)).heap.size = w.heap.size + 1 by simp] at hx
    exact hx
  have hE : encC l = if pickV l (cmdK l 0) 8 = 0 then (badC l (cmdK l 0 + 1) (drC l)).1 else drC l := rfl
  have HDr : Hid (∀ u : World, Src u (w.heap.size + 1) (.slice a l.length cap) l 0 → Calls Tryz.prog 30 #[.pointer (some ⟨(w.heap.size + 1), 0, none⟩)] u fun r w' => r = .returned (.agg #[.int .i64 (drC l).cl, .int .i64 (drC l).sq, .int .i64 (drC l).op, .string (drC l).ky, .string (drC l).vl, .string (drC l).ol]) ∧ Src w' (w.heap.size + 1) (.slice a l.length cap) l (cmdK l 0) ∧ u.grownBy w' (some (w.heap.size + 1))) := fun u hu => l1drawCmd_any (w.heap.size + 1) u (.slice a l.length cap) l 0 hL (by omega) hu
  have hkb : cmdK l 0 ≤ 1000 := (by have := cmdK_le l 0; omega)
  generalize cmdK l 0 = K at *
  generalize drC l = c at *
  have HBd : Hid (∀ u : World, Src u (w.heap.size + 1) (.slice a l.length cap) l (K + 1) → Calls Tryz.prog 31 #[.pointer (some ⟨(w.heap.size + 1), 0, none⟩), .agg #[.int .i64 c.cl, .int .i64 c.sq, .int .i64 c.op, .string c.ky, .string c.vl, .string c.ol]] u fun r w' => r = .returned (.agg #[.int .i64 (badC l (K + 1) c).1.cl, .int .i64 (badC l (K + 1) c).1.sq, .int .i64 (badC l (K + 1) c).1.op, .string (badC l (K + 1) c).1.ky, .string (badC l (K + 1) c).1.vl, .string (badC l (K + 1) c).1.ol]) ∧ Src w' (w.heap.size + 1) (.slice a l.length cap) l (badC l (K + 1) c).2 ∧ u.grownBy w' (some (w.heap.size + 1))) := fun u hu => l1badCmd_any (w.heap.size + 1) u (.slice a l.length cap) l (K + 1) c hL (by omega) hu
  generalize badC l (K + 1) c = BB at *
  obtain ⟨y, KB⟩ := BB
  dsimp only at HBd hE
  have b8 := pickV_lt l K 8 (by decide)
  obtain ⟨p, hp⟩ : ∃ p, p = pickV l K 8 := ⟨_, rfl⟩
  rw [← hp] at b8 hE
  have Hp : Hid (p = pickV l K 8) := hp
  clear hp hv
  have HE : Hid (encC l = if p = 0 then y else c) := hE
  generalize encC l = X at *
  clear hE
  go_enter Tryz.func10, Tryz.ntmps10
  go_upto_if 9 with (first
    | (go_at_call 30; refine (HDr.out _ HS0.out).mono ?_; rintro r w3 ⟨rfl, hs3, hg3⟩; have HD3 : Hid (Dr ((w.alloc (.cells #[.int .i64 0, .int .i64 0, .int .i64 0, .string ⟨#[]⟩, .string ⟨#[]⟩, .string ⟨#[]⟩] 33)).alloc (.cells #[.slice a l.length cap, .int .i64 0] 54)) (w3.alloc (.cells #[.int .i64 c.cl, .int .i64 c.sq, .int .i64 c.op, .string c.ky, .string c.vl, .string c.ol] 33)) (w.heap.size + 1) (.slice a l.length cap) l K [(w3.heap.size, #[.int .i64 c.cl, .int .i64 c.sq, .int .i64 c.op, .string c.ky, .string c.vl, .string c.ol], 33)]) := ((Dr.start HS0.out).call hs3 hg3).new #[.int .i64 c.cl, .int .i64 c.sq, .int .i64 c.op, .string c.ky, .string c.vl, .string c.ol] 33 (noU8_of rfl); have hz3 := hg3.size; (simp only [World.size_alloc] at hz3); clear hs3 hg3)
    | (go_at_call 23; refine (HD3.out.pick1 8 hL (by omega) (by decide) (by decide)).mono ?_; rintro r w4 ⟨rfl, hd4⟩; rw [← Hp.out]; have HD4 : Hid (Dr ((w.alloc (.cells #[.int .i64 0, .int .i64 0, .int .i64 0, .string ⟨#[]⟩, .string ⟨#[]⟩, .string ⟨#[]⟩] 33)).alloc (.cells #[.slice a l.length cap, .int .i64 0] 54)) w4 (w.heap.size + 1) (.slice a l.length cap) l (K + 1) [(w3.heap.size, #[.int .i64 c.cl, .int .i64 c.sq, .int .i64 c.op, .string c.ky, .string c.vl, .string c.ol], 33)]) := hd4; clear hd4))
  go_cut [9] (fun _ wx => ∃ K', Dr ((w.alloc (.cells #[.int .i64 0, .int .i64 0, .int .i64 0, .string ⟨#[]⟩, .string ⟨#[]⟩, .string ⟨#[]⟩] 33)).alloc (.cells #[.slice a l.length cap, .int .i64 0] 54)) wx (w.heap.size + 1) (.slice a l.length cap) l K' [(w3.heap.size, #[.int .i64 X.cl, .int .i64 X.sq, .int .i64 X.op, .string X.ky, .string X.vl, .string X.ol], 33)])
  case first =>
    by_cases c0 : p = 0
    · subst c0
      rw [if_pos rfl] at HE
      have hX := HE.out
      subst hX
      go_wp2_with (first
        | (have hBA := HD4; refine gate_ld 33 (.tmp 4) rfl ?_; clear hBA; refine wpl_load_blk rfl 33 (.tmp 4) rfl (w3.heap.size) rfl (HD4.out.blk 0 rfl) Tryz.underlying33 rfl infoCmdB rfl ?_)
        | (go_at_call 31; refine (HBd.out _ HD4.out.src).mono ?_; rintro r w5 ⟨rfl, hs5, hg5⟩; have HD5 : Hid (Dr ((w.alloc (.cells #[.int .i64 0, .int .i64 0, .int .i64 0, .string ⟨#[]⟩, .string ⟨#[]⟩, .string ⟨#[]⟩] 33)).alloc (.cells #[.slice a l.length cap, .int .i64 0] 54)) w5 (w.heap.size + 1) (.slice a l.length cap) l KB [(w3.heap.size, #[.int .i64 c.cl, .int .i64 c.sq, .int .i64 c.op, .string c.ky, .string c.vl, .string c.ol], 33)]) := HD4.out.call hs5 hg5; clear hs5 hg5)
        | (have hBA := HD5; refine gate_st 33 (.tmp 4) _ rfl ?_; clear hBA; refine wpl_store_blk rfl 33 (.tmp 4) _ rfl (w3.heap.size) rfl rfl (HD5.out.blk 0 rfl) infoCmdB rfl rfl (by simp [Value.oneCell']) ?_))
      go_meet
      exact ⟨_, HD5.out.row 0 rfl #[.int .i64 X.cl, .int .i64 X.sq, .int .i64 X.op, .string X.ky, .string X.vl, .string X.ol] (noU8_of rfl)⟩
    · rw [if_neg c0] at HE
      have hX := HE.out
      subst hX
      have c1 : ((p : Int) == 0) = false := by rw [beq_eq_false_iff_ne]; omega
      go_wp2_with fail
      go_meet
      exact ⟨_, HD4.out⟩
  case rest =>
    obtain ⟨K', hd⟩ := hcut
    have HDc : Hid (Dr ((w.alloc (.cells #[.int .i64 0, .int .i64 0, .int .i64 0, .string ⟨#[]⟩, .string ⟨#[]⟩, .string ⟨#[]⟩] 33)).alloc (.cells #[.slice a l.length cap, .int .i64 0] 54)) wc (w.heap.size + 1) (.slice a l.length cap) l K' [(w3.heap.size, #[.int .i64 X.cl, .int .i64 X.sq, .int .i64 X.op, .string X.ky, .string X.vl, .string X.ol], 33)]) := hd
    have hB1 : Blk wc w.heap.size #[.int .i64 0, .int .i64 0, .int .i64 0, .string ⟨#[]⟩, .string ⟨#[]⟩, .string ⟨#[]⟩] 33 := ((Blk.new w #[.int .i64 0, .int .i64 0, .int .i64 0, .string ⟨#[]⟩, .string ⟨#[]⟩, .string ⟨#[]⟩] 33).alloc _).grown hd.grown (by omega)
    have HB1 : Hid (Blk wc w.heap.size #[.int .i64 0, .int .i64 0, .int .i64 0, .string ⟨#[]⟩, .string ⟨#[]⟩, .string ⟨#[]⟩] 33) := hB1
    clear hd hB1
    go_wp2_with (first
      | (have hBA := HDc; refine gate_ld 33 (.tmp 4) rfl ?_; clear hBA; refine wpl_load_blk rfl 33 (.tmp 4) rfl (w3.heap.size) rfl (HDc.out.blk 0 rfl) Tryz.underlying33 rfl infoCmdB rfl ?_)
      | (have hBA := HB1; refine gate_st 33 (.tmp 2) _ rfl ?_; clear hBA; refine wpl_store_blk rfl 33 (.tmp 2) _ rfl (w.heap.size) rfl rfl HB1.out infoCmdB rfl rfl (by simp [Value.oneCell']) ?_))
    exact bodyPost_ret (results_blk Tryz.results10 rfl (HB1.out.row _) Tryz.underlying33 rfl infoCmdB rfl) rfl ⟨rfl, below_row (grown_belowE HDc.out.grown) (Nat.le_refl _) _⟩
set_option maxHeartbeats 8000000 in
set_option maxRecDepth 100000 in
theorem drawEncodeReply_any (a : Option Addr) (cap : Nat) (l : List Int) (w : World) (hv : Bs w (.slice a l.length cap) l) (hL : l.length ≤ 1048576) :
    Calls Tryz.prog 13 #[.slice a l.length cap] w fun r w' => r = .returned (.agg #[.int .i64 (encY l).cl, .int .i64 (encY l).sq, .int .i64 (encY l).st, .int .i64 (encY l).cd, .string (encY l).vl, .int .i64 (encY l).ld]) ∧ Below w.heap.size w w' := by
  have HS0 : Hid (Src ((w.alloc (.cells #[.int .i64 0, .int .i64 0, .int .i64 0, .int .i64 0, .string ⟨#[]⟩, .int .i64 0] 38)).alloc (.cells #[.slice a l.length cap, .int .i64 0] 54)) (w.heap.size + 1) (.slice a l.length cap) l 0) := by
    have hx := Src.start (w.alloc (.cells #[.int .i64 0, .int .i64 0, .int .i64 0, .int .i64 0, .string ⟨#[]⟩, .int .i64 0] 38)) (.slice a l.length cap) l (hv.below ((Below.refl _ _).alloc (Nat.le_refl _) _)) 54
    rw [show (w.alloc (.cells #[.int .i64 0, .int .i64 0, .int .i64 0, .int .i64 0, .string ⟨#[]⟩, .int .i64 0] 38)).heap.size = w.heap.size + 1 by simp] at hx
    exact hx
  have hE : encY l = if pickV l (repK l 0) 4 = 0 then (badY l (repK l 0 + 1) (drY l)).1 else drY l := rfl
  have HDr : Hid (∀ u : World, Src u (w.heap.size + 1) (.slice a l.length cap) l 0 → Calls Tryz.prog 32 #[.pointer (some ⟨(w.heap.size + 1), 0, none⟩)] u fun r w' => r = .returned (.agg #[.int .i64 (drY l).cl, .int .i64 (drY l).sq, .int .i64 (drY l).st, .int .i64 (drY l).cd, .string (drY l).vl, .int .i64 (drY l).ld]) ∧ Src w' (w.heap.size + 1) (.slice a l.length cap) l (repK l 0) ∧ u.grownBy w' (some (w.heap.size + 1))) := fun u hu => l1drawReply_any (w.heap.size + 1) u (.slice a l.length cap) l 0 hL (by omega) hu
  have hkb : repK l 0 ≤ 1000 := (by have := repK_le l 0; omega)
  generalize repK l 0 = K at *
  generalize drY l = c at *
  have HBd : Hid (∀ u : World, Src u (w.heap.size + 1) (.slice a l.length cap) l (K + 1) → Calls Tryz.prog 33 #[.pointer (some ⟨(w.heap.size + 1), 0, none⟩), .agg #[.int .i64 c.cl, .int .i64 c.sq, .int .i64 c.st, .int .i64 c.cd, .string c.vl, .int .i64 c.ld]] u fun r w' => r = .returned (.agg #[.int .i64 (badY l (K + 1) c).1.cl, .int .i64 (badY l (K + 1) c).1.sq, .int .i64 (badY l (K + 1) c).1.st, .int .i64 (badY l (K + 1) c).1.cd, .string (badY l (K + 1) c).1.vl, .int .i64 (badY l (K + 1) c).1.ld]) ∧ Src w' (w.heap.size + 1) (.slice a l.length cap) l (badY l (K + 1) c).2 ∧ u.grownBy w' (some (w.heap.size + 1))) := fun u hu => l1badReply_any (w.heap.size + 1) u (.slice a l.length cap) l (K + 1) c hL (by omega) hu
  generalize badY l (K + 1) c = BB at *
  obtain ⟨y, KB⟩ := BB
  dsimp only at HBd hE
  have b8 := pickV_lt l K 4 (by decide)
  obtain ⟨p, hp⟩ : ∃ p, p = pickV l K 4 := ⟨_, rfl⟩
  rw [← hp] at b8 hE
  have Hp : Hid (p = pickV l K 4) := hp
  clear hp hv
  have HE : Hid (encY l = if p = 0 then y else c) := hE
  generalize encY l = X at *
  clear hE
  go_enter Tryz.func13, Tryz.ntmps13
  go_upto_if 9 with (first
    | (go_at_call 32; refine (HDr.out _ HS0.out).mono ?_; rintro r w3 ⟨rfl, hs3, hg3⟩; have HD3 : Hid (Dr ((w.alloc (.cells #[.int .i64 0, .int .i64 0, .int .i64 0, .int .i64 0, .string ⟨#[]⟩, .int .i64 0] 38)).alloc (.cells #[.slice a l.length cap, .int .i64 0] 54)) (w3.alloc (.cells #[.int .i64 c.cl, .int .i64 c.sq, .int .i64 c.st, .int .i64 c.cd, .string c.vl, .int .i64 c.ld] 38)) (w.heap.size + 1) (.slice a l.length cap) l K [(w3.heap.size, #[.int .i64 c.cl, .int .i64 c.sq, .int .i64 c.st, .int .i64 c.cd, .string c.vl, .int .i64 c.ld], 38)]) := ((Dr.start HS0.out).call hs3 hg3).new #[.int .i64 c.cl, .int .i64 c.sq, .int .i64 c.st, .int .i64 c.cd, .string c.vl, .int .i64 c.ld] 38 (noU8_of rfl); have hz3 := hg3.size; (simp only [World.size_alloc] at hz3); clear hs3 hg3)
    | (go_at_call 23; refine (HD3.out.pick1 4 hL (by omega) (by decide) (by decide)).mono ?_; rintro r w4 ⟨rfl, hd4⟩; rw [← Hp.out]; have HD4 : Hid (Dr ((w.alloc (.cells #[.int .i64 0, .int .i64 0, .int .i64 0, .int .i64 0, .string ⟨#[]⟩, .int .i64 0] 38)).alloc (.cells #[.slice a l.length cap, .int .i64 0] 54)) w4 (w.heap.size + 1) (.slice a l.length cap) l (K + 1) [(w3.heap.size, #[.int .i64 c.cl, .int .i64 c.sq, .int .i64 c.st, .int .i64 c.cd, .string c.vl, .int .i64 c.ld], 38)]) := hd4; clear hd4))
  go_cut [9] (fun _ wx => ∃ K', Dr ((w.alloc (.cells #[.int .i64 0, .int .i64 0, .int .i64 0, .int .i64 0, .string ⟨#[]⟩, .int .i64 0] 38)).alloc (.cells #[.slice a l.length cap, .int .i64 0] 54)) wx (w.heap.size + 1) (.slice a l.length cap) l K' [(w3.heap.size, #[.int .i64 X.cl, .int .i64 X.sq, .int .i64 X.st, .int .i64 X.cd, .string X.vl, .int .i64 X.ld], 38)])
  case first =>
    by_cases c0 : p = 0
    · subst c0
      rw [if_pos rfl] at HE
      have hX := HE.out
      subst hX
      go_wp2_with (first
        | (have hBA := HD4; refine gate_ld 38 (.tmp 4) rfl ?_; clear hBA; refine wpl_load_blk rfl 38 (.tmp 4) rfl (w3.heap.size) rfl (HD4.out.blk 0 rfl) Tryz.underlying38 rfl infoRepB rfl ?_)
        | (go_at_call 33; refine (HBd.out _ HD4.out.src).mono ?_; rintro r w5 ⟨rfl, hs5, hg5⟩; have HD5 : Hid (Dr ((w.alloc (.cells #[.int .i64 0, .int .i64 0, .int .i64 0, .int .i64 0, .string ⟨#[]⟩, .int .i64 0] 38)).alloc (.cells #[.slice a l.length cap, .int .i64 0] 54)) w5 (w.heap.size + 1) (.slice a l.length cap) l KB [(w3.heap.size, #[.int .i64 c.cl, .int .i64 c.sq, .int .i64 c.st, .int .i64 c.cd, .string c.vl, .int .i64 c.ld], 38)]) := HD4.out.call hs5 hg5; clear hs5 hg5)
        | (have hBA := HD5; refine gate_st 38 (.tmp 4) _ rfl ?_; clear hBA; refine wpl_store_blk rfl 38 (.tmp 4) _ rfl (w3.heap.size) rfl rfl (HD5.out.blk 0 rfl) infoRepB rfl rfl (by simp [Value.oneCell']) ?_))
      go_meet
      exact ⟨_, HD5.out.row 0 rfl #[.int .i64 X.cl, .int .i64 X.sq, .int .i64 X.st, .int .i64 X.cd, .string X.vl, .int .i64 X.ld] (noU8_of rfl)⟩
    · rw [if_neg c0] at HE
      have hX := HE.out
      subst hX
      have c1 : ((p : Int) == 0) = false := by rw [beq_eq_false_iff_ne]; omega
      go_wp2_with fail
      go_meet
      exact ⟨_, HD4.out⟩
  case rest =>
    obtain ⟨K', hd⟩ := hcut
    have HDc : Hid (Dr ((w.alloc (.cells #[.int .i64 0, .int .i64 0, .int .i64 0, .int .i64 0, .string ⟨#[]⟩, .int .i64 0] 38)).alloc (.cells #[.slice a l.length cap, .int .i64 0] 54)) wc (w.heap.size + 1) (.slice a l.length cap) l K' [(w3.heap.size, #[.int .i64 X.cl, .int .i64 X.sq, .int .i64 X.st, .int .i64 X.cd, .string X.vl, .int .i64 X.ld], 38)]) := hd
    have hB1 : Blk wc w.heap.size #[.int .i64 0, .int .i64 0, .int .i64 0, .int .i64 0, .string ⟨#[]⟩, .int .i64 0] 38 := ((Blk.new w #[.int .i64 0, .int .i64 0, .int .i64 0, .int .i64 0, .string ⟨#[]⟩, .int .i64 0] 38).alloc _).grown hd.grown (by omega)
    have HB1 : Hid (Blk wc w.heap.size #[.int .i64 0, .int .i64 0, .int .i64 0, .int .i64 0, .string ⟨#[]⟩, .int .i64 0] 38) := hB1
    clear hd hB1
    go_wp2_with (first
      | (have hBA := HDc; refine gate_ld 38 (.tmp 4) rfl ?_; clear hBA; refine wpl_load_blk rfl 38 (.tmp 4) rfl (w3.heap.size) rfl (HDc.out.blk 0 rfl) Tryz.underlying38 rfl infoRepB rfl ?_)
      | (have hBA := HB1; refine gate_st 38 (.tmp 2) _ rfl ?_; clear hBA; refine wpl_store_blk rfl 38 (.tmp 2) _ rfl (w.heap.size) rfl rfl HB1.out infoRepB rfl rfl (by simp [Value.oneCell']) ?_))
    exact bodyPost_ret (results_blk Tryz.results13 rfl (HB1.out.row _) Tryz.underlying38 rfl infoRepB rfl) rfl ⟨rfl, below_row (grown_belowE HDc.out.grown) (Nat.le_refl _) _⟩
end Go.Proofs.YtafmjckpbcijoaaGreatDoor
