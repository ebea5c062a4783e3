/-
  (*impl.judge).take.
-/
import Derived.Test.YtnoihfincifphaaLnReply
namespace Go.Proofs.Ytnoihfincifphaa
open Go.RowKit Go.Maps
set_option linter.unusedVariables false
set_option linter.unusedSimpArgs false

/-- the judge at work: whose turn it is, and the turns -/
structure JS (w : World) (jb bt bp bl bo : Nat) (ea : Option Addr) (en ec : Nat) (oa : Option Addr) (on oc : Nat) (s : TSt) (tu : Cm → Option (Nat × Nat)) (n : Nat) : Prop where
  j : JB w jb bt bp bl bo (.slice ea en ec) (.slice oa on oc)
  o : MO w bo n s.op
  l : ML w bl n s.la
  t : MT w bt n tu
abbrev tJ (bt bl bo : Nat) : Nat → Prop := fun j => j = bo ∨ j = bl ∨ j = bt
theorem JB.tch {w w' : World} {jb bt bp bl bo : Nat} {ev ov : Value} (h : JB w jb bt bp bl bo ev ov) (ht : TchT (tJ bt bl bo) w w') : JB w' jb bt bp bl bo ev ov :=
  h.keep (ht.block jb h.blk.lt (fun x => x.elim h.jo fun x => x.elim h.jl h.jt)) ht.size
theorem FM.upto {κ γ : Type} {k : TypeId} {kv : κ → Value} {good : κ → Prop} {vl : γ → Value} {w w' : World} {b n : Nat} {f : κ → Option γ} (h : FM k kv good vl w b n f) (hb : Below w.heap.size w w') : FM k kv good vl w' b (n + 1) f := (h.below hb).mono (Nat.le_succ n)
def askQ (s : TSt) (c : Cm) : Bool := (s.op c.cl).isNone && decide (c.sq = s.la c.cl + 1)
theorem TchT.sub {S T : Nat → Prop} {w w' : World} (h : TchT S w w') (hs : ∀ j, S j → T j) : TchT T w w' := ⟨h.os, h.tape, h.output, h.size, fun k hk hn => h.block k hk fun x => hn (hs k x)⟩
section
variable (jb bt bp bl bo : Nat) (ea : Option Addr) (en ec : Nat) (oa : Option Addr) (on oc : Nat) (at_ : Nat) (c : Cm) (n : Nat) (s : TSt) (tu : Cm → Option (Nat × Nat)) (w : World)
theorem ask_any (h : JS w jb bt bp bl bo ea en ec oa on oc s tu n) (hc : c.fits) (hn : n < 1000000) (hla : 0 ≤ s.la c.cl ∧ s.la c.cl ≤ 1073741824) (q : Bool) (hq : q = askQ s c) :
    Calls Try.prog 94 #[.pointer (some ⟨jb, 0, none⟩), .int .i64 at_, cmV c] w fun e w' => e = .returned (.bool q) ∧ (q = true → JS w' jb bt bp bl bo ea en ec oa on oc ⟨setI s.op c.cl (some c), setI s.la c.cl c.sq⟩ (setC tu c (some (at_, en))) (n + 1)) ∧ TchT (tJ bt bl bo) w w' := by
  cases ho : s.op c.cl with
  | some d =>
    have : askQ s c = false := by unfold askQ; rw [ho]; rfl
    rw [hq, this]
    exact (ask_busy jb bt bp bl bo ea en ec oa on oc at_ c n s.op d w h.j h.o hc ho).mono fun e w' ⟨h1, h2⟩ => ⟨h1, (fun e => by cases e), .below h2⟩
  | none =>
    by_cases hs : c.sq = s.la c.cl + 1
    · have : askQ s c = true := by unfold askQ; rw [ho]; simp [hs]
      rw [hq, this]
      exact (ask_ok jb bt bp bl bo ea en ec oa on oc at_ c n s.op s.la w h.j h.o hc h.l ho hla hs tu h.t hn).mono fun e w' ⟨h1, h2, h3, h4, h5⟩ => ⟨h1, fun _ => ⟨h.j.tch h5, h2, h3, h4⟩, h5⟩
    · have : askQ s c = false := by unfold askQ; simp [hs]
      rw [hq, this]
      exact (ask_seq jb bt bp bl bo ea en ec oa on oc at_ c n s.op s.la w h.j h.o hc h.l ho hla hs).mono fun e w' ⟨h1, h2⟩ => ⟨h1, (fun e => by cases e), .below h2⟩
theorem reply_any (h : JS w jb bt bp bl bo ea en ec oa on oc s tu n) (hc : c.fits) (hn : n < 1000000) (ak : Nat) (htu : s.op c.cl = some c → ∃ rp, tu c = some (ak, rp)) (q : Bool) (hq : q = opIs s c) :
    Calls Try.prog 95 #[.pointer (some ⟨jb, 0, none⟩), .int .i64 at_, cmV c] w fun e w' => e = .returned (.bool q) ∧ (q = true → JS w' jb bt bp bl bo ea en ec oa on oc ⟨setI s.op c.cl none, s.la⟩ (setC tu c (some (ak, at_))) (n + 1)) ∧ TchT (tJ bt bl bo) w w' := by
  cases ho : s.op c.cl with
  | none =>
    have : opIs s c = false := by unfold opIs; rw [ho]
    rw [hq, this]
    exact (reply_none jb bt bp bl bo ea en ec oa on oc at_ c n s.op w h.j h.o hc ho).mono fun e w' ⟨h1, h2⟩ => ⟨h1, (fun e => by cases e), .below h2⟩
  | some d =>
    by_cases hd : d = c
    · subst hd
      have : opIs s d = true := opIs_iff.2 ho
      rw [hq, this]
      obtain ⟨rp, hrp⟩ := htu ho
      exact (reply_ok jb bt bp bl bo ea en ec oa on oc at_ d n s.op w h.j h.o hc ho tu h.t hn ak rp hrp).mono fun e w' ⟨h1, h2, h3, h4⟩ => ⟨h1, fun _ => by
        have h5 : TchT (tJ bt bl bo) w w' := h4.sub fun j hj => hj.elim .inl fun e => .inr (.inr e)
        exact ⟨h.j.tch h5, h2.mono (Nat.le_succ n), (h.l.keep (h4.block bl h.j.lt.2.2.1 (fun x => x.elim h.j.lo fun e => h.j.tl e.symm))).mono (Nat.le_succ n), h3⟩, h4.sub fun j hj => hj.elim .inl fun e => .inr (.inr e)⟩
    · have : opIs s c = false := by unfold opIs; rw [ho]; exact Cm.is_no hd
      rw [hq, this]
      exact (reply_other jb bt bp bl bo ea en ec oa on oc at_ c n s.op d w h.j h.o hc ho hd).mono fun e w' ⟨h1, h2⟩ => ⟨h1, (fun e => by cases e), .below h2⟩
end
/-- what take tells, the command being well-formed -/
def tkQ (s : TSt) (e : Evn) : Bool := if e.kd = 1 then askOk s e else if e.kd = 2 then repOk s e else false
def tkT (tu : Cm → Option (Nat × Nat)) (at_ en ak : Nat) (e : Evn) : Cm → Option (Nat × Nat) := setC tu e.c (some (if e.kd = 1 then (at_, en) else (ak, at_)))

set_option maxHeartbeats 4000000 in
set_option maxRecDepth 100000 in
theorem take_any (jb bt bp bl bo : Nat) (ea : Option Addr) (en ec : Nat) (oa : Option Addr) (on oc : Nat) (at_ : Nat) (kd cd : Int) (v : ByteArray) (c : Cm) (n : Nat) (s : TSt) (tu : Cm → Option (Nat × Nat)) (w : World)
    (h : JS w jb bt bp bl bo ea en ec oa on oc s tu n) (hc : c.fits) (hv : v.size ≤ 1048576) (hn : n < 1000000) (hla : 0 ≤ s.la c.cl ∧ s.la c.cl ≤ 1073741824) (ak : Nat) (htu : s.op c.cl = some c → ∃ rp, tu c = some (ak, rp)) :
    Calls Try.prog 76 #[.pointer (some ⟨jb, 0, none⟩), .int .i64 at_, .agg #[.int .i64 kd, .int .i64 c.cl, .int .i64 c.sq, .int .i64 c.op, .string c.k, .string c.v, .string c.o, .int .i64 cd, .string v]] w fun e w' =>
      ∃ q, e = .returned (.bool q) ∧ q = tkQ s ⟨kd, c, cd, v⟩ ∧ (q = true → JS w' jb bt bp bl bo ea en ec oa on oc (tStep s ⟨kd, c, cd, v⟩) (tkT tu at_ en ak ⟨kd, c, cd, v⟩) (n + 1)) ∧ TchT (tJ bt bl bo) w w' := by
  obtain ⟨W, hW⟩ : ∃ W, W = w.alloc (.cells #[.int .i64 kd, .int .i64 c.cl, .int .i64 c.sq, .int .i64 c.op, .string c.k, .string c.v, .string c.o, .int .i64 cd, .string v] 76) := ⟨_, rfl⟩
  have HE : Hid (Blk W w.heap.size #[.int .i64 kd, .int .i64 c.cl, .int .i64 c.sq, .int .i64 c.op, .string c.k, .string c.v, .string c.o, .int .i64 cd, .string v] 76) := by show Blk _ _ _ _; rw [hW]; exact Blk.new _ _ _
  have HB : Hid (Below w.heap.size w W) := by show Below _ _ _; rw [hW]; exact (Below.refl _ _).alloc (Nat.le_refl _) _
  have e0 : W.cell? ⟨w.heap.size, 0, none⟩ = some (.int .i64 kd) := HE.out.cell 0
  have e1 : W.cell? ⟨w.heap.size, 1, none⟩ = some (.int .i64 c.cl) := HE.out.cell 1
  have e2 : W.cell? ⟨w.heap.size, 2, none⟩ = some (.int .i64 c.sq) := HE.out.cell 2
  have e3 : W.cell? ⟨w.heap.size, 3, none⟩ = some (.int .i64 c.op) := HE.out.cell 3
  have e4 : W.cell? ⟨w.heap.size, 4, none⟩ = some (.string c.k) := HE.out.cell 4
  have e5 : W.cell? ⟨w.heap.size, 5, none⟩ = some (.string c.v) := HE.out.cell 5
  have e6 : W.cell? ⟨w.heap.size, 6, none⟩ = some (.string c.o) := HE.out.cell 6
  have e7 : W.cell? ⟨w.heap.size, 7, none⟩ = some (.int .i64 cd) := HE.out.cell 7
  have e8 : W.cell? ⟨w.heap.size, 8, none⟩ = some (.string v) := HE.out.cell 8
  have HJS : Hid (JS W jb bt bp bl bo ea en ec oa on oc s tu n) := ⟨h.j.tch (.below HB.out), h.o.below HB.out, h.l.below HB.out, h.t.below HB.out⟩
  have HT : Hid (TchT (tJ bt bl bo) w W) := .below HB.out
  clear h
  by_cases h1 : kd = 1
  · subst h1
    by_cases hcd : cd = 0
    · subst hcd
      by_cases hvs : v = ⟨#[]⟩
      · subst hvs
        obtain ⟨q, hq⟩ : ∃ q, q = askQ s c := ⟨_, rfl⟩
        have HA : Hid (Calls Try.prog 94 #[.pointer (some ⟨jb, 0, none⟩), .int .i64 at_, .agg #[.int .i64 c.cl, .int .i64 c.sq, .int .i64 c.op, .string c.k, .string c.v, .string c.o]] W fun e w' => e = .returned (.bool q) ∧ (q = true → JS w' jb bt bp bl bo ea en ec oa on oc ⟨setI s.op c.cl (some c), setI s.la c.cl c.sq⟩ (setC tu c (some (at_, en))) (n + 1)) ∧ TchT (tJ bt bl bo) W w') := ask_any jb bt bp bl bo ea en ec oa on oc at_ c n s tu W HJS.out hc hn hla q hq
        have HQ : Hid (q = tkQ s ⟨1, c, 0, ⟨#[]⟩⟩) := by show _ = _; rw [hq]; unfold tkQ askOk askQ; have z : (⟨#[]⟩ : ByteArray).size = 0 := rfl; simp [z]
        clear hq
        go_enter Try.func76, Try.ntmps76
        go_upto_region 1 with fail
        rw [← hW]
        clear hW
        go_wp2_with (go_at_call 94; refine HA.out.mono ?_; rintro e w1 ⟨rfl, hj, ht⟩)
        go_ret
        exact ⟨q, rfl, HQ.out, fun e => hj e, HT.out.trans ht⟩
      · have HQ : Hid (tkQ s ⟨1, c, 0, v⟩ = false) := by
          show _ = _
          have z : ¬ v.size = 0 := fun e => hvs (by have := ByteArray.size_eq_zero_iff.1 e; exact this)
          unfold tkQ askOk; simp [z]
        have hve : (v.toList == ([] : List UInt8)) = false := by
          rw [show ([] : List UInt8) = (⟨#[]⟩ : ByteArray).toList from by rw [ByteArray.toList_eq]]
          rw [tl_beq]; exact decide_eq_false hvs
        have hve' : (v.toList == (⟨#[]⟩ : ByteArray).toList) = false := by rw [tl_beq]; exact decide_eq_false hvs
        go_enter Try.func76, Try.ntmps76
        go_upto_region 1 with fail
        rw [← hW]
        clear hW
        go_wp2_with fail
        go_ret
        first | exact ⟨false, rfl, HQ.out.symm, (fun e => by cases e), HT.out⟩ | exact .inl ⟨rfl, HQ.out, HT.out⟩
    · have HQ : Hid (tkQ s ⟨1, c, cd, v⟩ = false) := by
        show _ = _
        unfold tkQ askOk; simp [hcd]
      have hcb : (cd == 0) = false := by simpa using hcd
      go_enter Try.func76, Try.ntmps76
      go_upto_region 1 with fail
      rw [← hW]
      clear hW
      go_wp2_with fail
      go_ret
      first | exact ⟨false, rfl, HQ.out.symm, (fun e => by cases e), HT.out⟩ | exact .inl ⟨rfl, HQ.out, HT.out⟩
  · have h1b : (kd == 1) = false := by simpa using h1
    by_cases h2 : kd = 2
    · subst h2
      cases hin : inB cd 1 4
      · have HQ : Hid (tkQ s ⟨2, c, cd, v⟩ = false) := by
          show _ = _
          have := (inB_not cd 1 4).1 hin
          unfold tkQ repOk
          simp
          omega
        have HIN : Hid (inB cd 1 4 = false) := hin
        clear hin
        go_enter Try.func76, Try.ntmps76
        go_upto_region 1 with fail
        rw [← hW]
        clear hW
        go_wp2_with (go_at_call 78; refine (within_any _ _ _ _).mono ?_; rintro e w1 ⟨rfl, rfl⟩; rw [HIN.out])
        go_ret
        first | exact ⟨false, rfl, HQ.out.symm, (fun e => by cases e), HT.out⟩ | exact .inl ⟨rfl, HQ.out, HT.out⟩
      · have HIN : Hid (inB cd 1 4 = true) := hin
        have hcds : 1 ≤ cd ∧ cd ≤ 4 := by
          have h' : ¬ (cd < 1 ∨ 4 < cd) := fun x => by rw [(inB_not cd 1 4).2 x] at hin; cases hin
          omega
        clear hin
        by_cases hvs : v.size ≤ 64
        · have hvd : ((v.size : Int) ≤ 64) := by omega
          obtain ⟨q, hq⟩ : ∃ q, q = opIs s c := ⟨_, rfl⟩
          have HA : Hid (Calls Try.prog 95 #[.pointer (some ⟨jb, 0, none⟩), .int .i64 at_, .agg #[.int .i64 c.cl, .int .i64 c.sq, .int .i64 c.op, .string c.k, .string c.v, .string c.o]] W fun e w' => e = .returned (.bool q) ∧ (q = true → JS w' jb bt bp bl bo ea en ec oa on oc ⟨setI s.op c.cl none, s.la⟩ (setC tu c (some (ak, at_))) (n + 1)) ∧ TchT (tJ bt bl bo) W w') := reply_any jb bt bp bl bo ea en ec oa on oc at_ c n s tu W HJS.out hc hn ak htu q hq
          have HQ : Hid (q = tkQ s ⟨2, c, cd, v⟩) := by show _ = _; rw [hq]; unfold tkQ repOk; simp [hcds, hvs]
          clear hq
          go_enter Try.func76, Try.ntmps76
          go_upto_region 1 with fail
          rw [← hW]
          clear hW
          go_wp2_with (first | (go_at_call 78; refine (within_any _ _ _ _).mono ?_; rintro e w1 ⟨rfl, rfl⟩; rw [HIN.out]) | (go_at_call 95; refine HA.out.mono ?_; rintro e w1 ⟨rfl, hj, ht⟩))
          go_ret
          exact ⟨q, rfl, HQ.out, fun e => hj e, HT.out.trans ht⟩
        · have hvd : ¬ ((v.size : Int) ≤ 64) := by omega
          have HQ : Hid (tkQ s ⟨2, c, cd, v⟩ = false) := by show _ = _; unfold tkQ repOk; simp [hvs]
          go_enter Try.func76, Try.ntmps76
          go_upto_region 1 with fail
          rw [← hW]
          clear hW
          go_wp2_with (go_at_call 78; refine (within_any _ _ _ _).mono ?_; rintro e w1 ⟨rfl, rfl⟩; rw [HIN.out])
          go_ret
          first | exact ⟨false, rfl, HQ.out.symm, (fun e => by cases e), HT.out⟩ | exact .inl ⟨rfl, HQ.out, HT.out⟩
    · have h2b : (kd == 2) = false := by simpa using h2
      have HQ : Hid (tkQ s ⟨kd, c, cd, v⟩ = false) := by show _ = _; unfold tkQ; simp [h1, h2]
      go_enter Try.func76, Try.ntmps76
      go_upto_region 1 with fail
      rw [← hW]
      clear hW
      go_wp2_with fail
      go_ret
      first | exact ⟨false, rfl, HQ.out.symm, (fun e => by cases e), HT.out⟩ | exact .inl ⟨rfl, HQ.out, HT.out⟩
end Go.Proofs.Ytnoihfincifphaa
