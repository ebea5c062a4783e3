/-
  spec.l5drawLog: a drawn log is well-formed.
-/
import Derived.Test.YtelfejhopjbhpaaDrawC
import Derived.Test.YtelfejhopjbhpaaEntsOwn
import Derived.Test.YtelfejhopjbhpaaGate
import Derived.Test.YtelfejhopjbhpaaTlPure
namespace Go.Proofs.Ytelfejhopjbhpaa
open Go.RowKit Go.Maps
set_option linter.unusedVariables false
set_option linter.unusedSimpArgs false

theorem infoCmdO : (Try.prog.info? 33).map (·.size) = some 6 := by kernel_rfl
/-- a source that has given at most b bytes -/
def SrcB (w : World) (g : Nat) (v : Value) (l : List Int) (b : Nat) : Prop := ∃ k, k ≤ b ∧ Src w g v l k
theorem srcLow {w0 w w' : World} {g : Nat} {v : Value} {l : List Int} {k : Nat} (h : Src w g v l k) (h0 : Bs w0 v l) (hb : Below w0.heap.size w w') (hg0 : g < w0.heap.size) : Src w' g v l k := by
  obtain ⟨h1, h2, ⟨hl, h8, a, cap, rfl, hc⟩, h4, h5⟩ := h
  obtain ⟨_, _, a', cap', e, hc0⟩ := h0
  injection e with e1 e2 e3
  subst e1 e3
  refine ⟨Nat.lt_of_lt_of_le h1 hb.size, fun i => by rw [hb.frozen (p := ⟨g, i, none⟩) hg0]; exact h2 i, ⟨hl, h8, a, cap, rfl, fun i hi => ?_⟩, (hb.cell (p := ⟨g, 0, none⟩) hg0).trans h4, (hb.cell (p := ⟨g, 1, none⟩) hg0).trans h5⟩
  obtain ⟨b, off, rfl, hj⟩ := hc i hi
  obtain ⟨b', off', e', hj'⟩ := hc0 i hi
  injection e' with e'
  injection e' with e1' e2'
  subst e1' e2'
  exact ⟨b, off, rfl, fun m hm => (hb.cell (p := ⟨b, off + m, none⟩) (cell_lt (hj' m hm))).trans (hj m hm)⟩
theorem pickB (g : Nat) (w : World) (v : Value) (l : List Int) (b n : Nat) (hL : l.length ≤ 1048576) (hb : b ≤ 600000000) (hn : 0 < n) (hN : n ≤ 1000000) (h : SrcB w g v l b) :
    Calls Try.prog 27 #[.pointer (some ⟨g, 0, none⟩), .int .i64 n] w fun e w' => ∃ p : Nat, e = .returned (.int .i64 p) ∧ p < n ∧ SrcB w' g v l (b + 4) ∧ w.grownBy w' (some g) := by
  obtain ⟨k, hk, h⟩ := h
  exact (l1pick_any g w v l k n hL (by omega) hn hN h).mono fun e w' ⟨h1, h2, h3⟩ => ⟨_, h1, pickV_lt l k n hn, ⟨_, by have := pickK_le n; omega, h2⟩, h3⟩
/-- what a drawn command keeps to -/
structure CmdW (cl sq op : Int) (k v o : ByteArray) : Prop where
  fcl : 1 ≤ cl ∧ cl ≤ 8
  fsq : 1 ≤ sq ∧ sq ≤ 1073741824
  fop : 1 ≤ op ∧ op ≤ 4
  fk : 1 ≤ k.size ∧ k.size ≤ 64
  fv : v.size ≤ 64 ∧ (op ≠ 2 ∧ op ≠ 4 → v.size = 0)
  fo : o.size ≤ 64 ∧ (op ≠ 4 → o.size = 0)
theorem cmdB (g : Nat) (w : World) (v : Value) (l : List Int) (b : Nat) (hL : l.length ≤ 1048576) (hb : b ≤ 600000000) (h : SrcB w g v l b) :
    Calls Try.prog 53 #[.pointer (some ⟨g, 0, none⟩)] w fun e w' => ∃ cl sq op k' v' o', e = .returned (.agg #[.int .i64 cl, .int .i64 sq, .int .i64 op, .string k', .string v', .string o']) ∧ CmdW cl sq op k' v' o' ∧ SrcB w' g v l (b + 14) ∧ w.grownBy w' (some g) := by
  obtain ⟨k, hk, h⟩ := h
  refine (l1drawCmd_any g w v l k hL (by omega) h).mono fun e w' ⟨h1, h2, h3⟩ => ⟨_, _, _, _, _, _, h1, ?_, ⟨_, by have := cmdK_le l k; omega, h2⟩, h3⟩
  obtain ⟨a1, a2, a3, a4, a5, a6, a7, a8, a9, a10, a11, a12⟩ := cmd_facts l k
  exact ⟨⟨a1, a2⟩, ⟨a3, a4⟩, ⟨a5, a6⟩, ⟨a7, a8⟩, ⟨a9, a11⟩, ⟨a10, a12⟩⟩
theorem CmdW.ent {cl sq op : Int} {k v o : ByteArray} (h : CmdW cl sq op k v o) {t : Int} (ht : 1 ≤ t ∧ t ≤ 1073741824) : entB ⟨t, cl, sq, op, k, v, o⟩ = true ∧ (⟨t, cl, sq, op, k, v, o⟩ : Ent).fits := by
  obtain ⟨⟨a1, a2⟩, ⟨a3, a4⟩, ⟨a5, a6⟩, ⟨a7, a8⟩, ⟨a9, a11⟩, ⟨a10, a12⟩⟩ := h
  refine ⟨?_, ?_⟩
  · simp only [entB, Bool.and_eq_true, beq_iff_eq]
    refine ⟨(inB_iff _ _ _).2 ht, ?_⟩
    unfold cmdF
    rw [if_neg (by omega), if_neg (by omega)]
    have e1 : ((v.size : Nat) : Int) ≤ (if op = 2 ∨ op = 4 then (64 : Int) else 0) := by
      split
      · omega
      · next h => have := a11 ⟨fun h' => h (.inl h'), fun h' => h (.inr h')⟩; omega
    have e2 : ((o.size : Nat) : Int) ≤ (if op = 4 then (64 : Int) else 0) := by
      split
      · omega
      · next h => have := a12 h; omega
    generalize (if op = 2 ∨ op = 4 then (64 : Int) else 0) = X at *
    generalize (if op = 4 then (64 : Int) else 0) = Y at *
    repeat (first | rw [if_neg (by omega)] | rfl)
  · unfold Ent.fits maxLen
    dsimp only
    omega
theorem zero_ent {t : Int} (ht : 1 ≤ t ∧ t ≤ 1073741824) : entB ⟨t, 0, 0, 0, ⟨#[]⟩, ⟨#[]⟩, ⟨#[]⟩⟩ = true ∧ (⟨t, 0, 0, 0, ⟨#[]⟩, ⟨#[]⟩, ⟨#[]⟩⟩ : Ent).fits := by
  refine ⟨?_, ?_⟩
  · simp only [entB, Bool.and_eq_true, beq_iff_eq]
    exact ⟨(inB_iff _ _ _).2 ht, by decide⟩
  · exact ⟨(by decide : (⟨#[]⟩ : ByteArray).size ≤ maxLen), (by decide : (⟨#[]⟩ : ByteArray).size ≤ maxLen), (by decide : (⟨#[]⟩ : ByteArray).size ≤ maxLen)⟩
theorem same_ent {e : Ent} (h : entB e = true) {t : Int} (ht : 1 ≤ t ∧ t ≤ 1073741824) (hf : e.fits) : entB ⟨t, e.cl, e.sq, e.op, e.k, e.v, e.o⟩ = true ∧ (⟨t, e.cl, e.sq, e.op, e.k, e.v, e.o⟩ : Ent).fits := by
  refine ⟨?_, hf⟩
  simp only [entB, Bool.and_eq_true, beq_iff_eq] at h ⊢
  exact ⟨(inB_iff _ _ _).2 ht, h.2⟩
/-- a log under way -/
structure DL (w wr : World) (g : Nat) (v : Value) (l : List Int) (b q : Nat) (la : Option Addr) (lc : Nat) (es : List Ent) (sq : List Int) : Prop where
  own : OwnE wr w.heap.size (.slice la es.length lc) es
  ne : (Value.slice la es.length lc).ownBlock ≠ some q
  seqs : Blk wr q (sq.map (Value.int .i64)).toArray 3
  src : SrcB wr g v l b
  gr : w.grownBy wr (some g)
  qlo : w.heap.size ≤ q
  bs : Bs w v l
  glt : g < w.heap.size
theorem DL.draw {w wr w' : World} {g : Nat} {v : Value} {l : List Int} {b b' q : Nat} {la : Option Addr} {lc : Nat} {es : List Ent} {sq : List Int} (h : DL w wr g v l b q la lc es sq) (hg : wr.grownBy w' (some g)) (hs : SrcB w' g v l b') : DL w w' g v l b' q la lc es sq :=
  ⟨h.own.grown hg h.glt, h.ne, h.seqs.grown hg (by have := h.qlo; have := h.glt; omega), hs, grownBy_trans h.gr hg, h.qlo, h.bs, h.glt⟩
/-- what is written above, beside its own blocks -/
theorem DL.up {w wr w' : World} {g : Nat} {v : Value} {l : List Int} {b q : Nat} {la : Option Addr} {lc : Nat} {es : List Ent} {sq : List Int} (h : DL w wr g v l b q la lc es sq) (hb : Below w.heap.size wr w') (h1 : ∀ k, (Value.slice la es.length lc).ownBlock = some k → w'.heap[k]? = wr.heap[k]?) (h2 : w'.heap[q]? = wr.heap[q]?) : DL w w' g v l b q la lc es sq := by
  obtain ⟨k, hk, hs⟩ := h.src
  exact ⟨h.own.block h1, h.ne, h.seqs.keep h2, ⟨k, hk, srcLow hs h.bs hb h.glt⟩, ⟨hb.os.trans h.gr.os, hb.tape.trans h.gr.tape, hb.output.trans h.gr.output, Nat.le_trans h.gr.size hb.size, fun j hj hne => (hb.block j hj).trans (h.gr.block j hj hne)⟩, h.qlo, h.bs, h.glt⟩
theorem DL.alloc {w wr : World} {g : Nat} {v : Value} {l : List Int} {b q : Nat} {la : Option Addr} {lc : Nat} {es : List Ent} {sq : List Int} (h : DL w wr g v l b q la lc es sq) (o : Obj) : DL w (wr.alloc o) g v l b q la lc es sq :=
  h.up ((Below.refl _ _).alloc h.gr.size _) (fun k e => Below.heap_alloc wr o k (h.own.2.lt k e).2) (Below.heap_alloc wr o q h.seqs.lt)
theorem DL.append {w wr w' : World} {g : Nat} {v : Value} {l : List Int} {b q : Nat} {la : Option Addr} {lc : Nat} {es : List Ent} {sq : List Int} (h : DL w wr g v l b q la lc es sq) {v' : Value} {e : Ent} (ho : OwnE w' w.heap.size v' (es ++ [e])) (hg : Grew wr (.slice la es.length lc) w' v') : ∃ la' lc', v' = .slice la' (es ++ [e]).length lc' ∧ DL w w' g v l b q la' lc' (es ++ [e]) sq := by
  obtain ⟨la', lc', rfl⟩ := ho.shape
  have hb : Below w.heap.size wr w' := growE hg h.own h.gr.size
  obtain ⟨k, hk, hs⟩ := h.src
  exact ⟨la', lc', rfl, ho, hg.far h.seqs.lt h.ne, h.seqs.keep (hg.block h.seqs.lt h.ne), ⟨k, hk, srcLow hs h.bs hb h.glt⟩, ⟨hb.os.trans h.gr.os, hb.tape.trans h.gr.tape, hb.output.trans h.gr.output, Nat.le_trans h.gr.size hb.size, fun j hj hne => (hb.block j hj).trans (h.gr.block j hj hne)⟩, h.qlo, h.bs, h.glt⟩
theorem DL.drewD {w wr : World} {g : Nat} {v : Value} {l : List Int} {b q : Nat} {la : Option Addr} {lc : Nat} {es : List Ent} {sq : List Int} (h : DL w wr g v l b q la lc es sq) : DL w wr.drew g v l b q la lc es sq := h.up (Below.refl _ _).drew (fun _ _ => rfl) rfl
theorem DL.mono {w wr : World} {g : Nat} {v : Value} {l : List Int} {b b' q : Nat} {la : Option Addr} {lc : Nat} {es : List Ent} {sq : List Int} (h : DL w wr g v l b q la lc es sq) (hb : b ≤ b') : DL w wr g v l b' q la lc es sq := by
  obtain ⟨k, hk, hs⟩ := h.src
  exact ⟨h.own, h.ne, h.seqs, ⟨k, by omega, hs⟩, h.gr, h.qlo, h.bs, h.glt⟩
theorem entAt_new (w : World) (e : Ent) : EntAt (w.alloc (.cells #[.int .i64 e.t, .int .i64 e.cl, .int .i64 e.sq, .int .i64 e.op, .string e.k, .string e.v, .string e.o] 35)) w.heap.size 0 e := by
  unfold EntAt
  simp [World.cell?_alloc_new]
theorem all_snoc {E : List Ent} (h : ∀ e ∈ E, entB e = true) {x : Ent} (hx : entB x = true) : ∀ e ∈ E ++ [x], entB e = true := by
  intro e he
  rcases List.mem_append.1 he with he | he
  · exact h e he
  · rw [List.mem_singleton.1 he]; exact hx
theorem all_up {sq : List Int} {j : Nat} (h : ∀ x ∈ sq, 0 ≤ x ∧ x ≤ (j : Int)) : ∀ x ∈ sq, 0 ≤ x ∧ x ≤ ((j + 1 : Nat) : Int) := fun x hx => by have := h x hx; omega

set_option maxHeartbeats 16000000 in
set_option maxRecDepth 100000 in
theorem l5drawLog_any (g : Nat) (w : World) (v : Value) (l : List Int) (b n : Nat) (hL : l.length ≤ 1048576) (hb : b ≤ 1000000) (hn : n ≤ 4000) (h : SrcB w g v l b) :
    Calls Try.prog 26 #[.pointer (some ⟨g, 0, none⟩), .int .i64 n] w fun r w' => ∃ la lc es, r = .returned (.slice la es.length lc) ∧ es.length = n ∧ (∀ e ∈ es, entB e = true) ∧ OwnE w' w.heap.size (.slice la es.length lc) es ∧ w.grownBy w' (some g) := by
  have HS : Hid (SrcB w g v l b) := h
  have hg0 : g < w.heap.size := by obtain ⟨k, _, h⟩ := h; exact h.lt
  have HBS : Hid (Bs w v l) := by obtain ⟨k, _, h⟩ := h; exact h.2.2.1
  clear h
  go_enter Try.func26, Try.ntmps26
  go_wp2
  have hD0 : DL w ((w.alloc (.cells #[] 35)).alloc (.cells #[.int .i64 0, .int .i64 0, .int .i64 0, .int .i64 0, .int .i64 0, .int .i64 0, .int .i64 0, .int .i64 0, .int .i64 0] 3)) g v l b (w.heap.size + 1) (some ⟨w.heap.size, 0, none⟩) 0 [] [0, 0, 0, 0, 0, 0, 0, 0, 0] := by
    have hs : SrcB ((w.alloc (.cells #[] 35)).alloc (.cells #[.int .i64 0, .int .i64 0, .int .i64 0, .int .i64 0, .int .i64 0, .int .i64 0, .int .i64 0, .int .i64 0, .int .i64 0] 3)) g v l b := by
      obtain ⟨k, hk, h⟩ := HS.out
      exact ⟨k, hk, (h.alloc _).alloc _⟩
    exact ⟨(OwnE.made w w.heap.size (Nat.le_refl _)).below ((Below.refl _ _).alloc (Nat.le_refl _) _), by simp [Value.ownBlock], Blk.new' _ _ _ (by simp), hs, grownBy_alloc' (World.grownBy_alloc _ _ _) _, by omega, HBS.out, hg0⟩
  go_loopw [5, 7, 8] (fun es t i wr => ∃ (j : Nat) (la : Option Addr) (lc : Nat) (E : List Ent) (T : Int) (sq : List Int), j ≤ n ∧ i = .int .i64 j ∧ es = .slice la E.length lc ∧ t = .int .i64 T ∧ E.length = j ∧ (1 ≤ T ∧ T ≤ 1 + j) ∧ sq.length = 9 ∧ (∀ x ∈ sq, 0 ≤ x ∧ x ≤ j) ∧ (∀ e ∈ E, entB e = true) ∧ DL w wr g v l (b + 50 * j) (w.heap.size + 1) la lc E sq) (fun _ _ i _ => n - (RowKit.intOf i).toNat)
  case atStart => exact ⟨0, _, _, [], 1, [0, 0, 0, 0, 0, 0, 0, 0, 0], Nat.zero_le _, rfl, rfl, rfl, rfl, by omega, rfl, by simp, by simp, hD0⟩
  case round =>
    obtain ⟨j, la, lc, E, T, sq, hj, rfl, rfl, rfl, hE, hT, hsq, hsx, hall, hD⟩ := hrel
    have HD : Hid (DL w wr g v l (b + 50 * j) (w.heap.size + 1) la lc E sq) := hD
    have HALL : Hid (∀ e ∈ E, entB e = true) := hall
    have HSX : Hid (∀ x ∈ sq, 0 ≤ x ∧ x ≤ (j : Int)) := hsx
    have HLE : Hid (E.length = j) := hE
    have hzw := hD.gr.size
    clear hD0 hD hall hsx
    by_cases hlt : j < n
    · have hlt' : (j : Int) < (n : Int) := by omega
      have HP6 : Hid (Calls Try.prog 27 #[.pointer (some ⟨g, 0, none⟩), .int .i64 6] wr fun e w' => ∃ p : Nat, e = .returned (.int .i64 p) ∧ p < 6 ∧ SrcB w' g v l (b + 50 * j + 4) ∧ wr.grownBy w' (some g)) := pickB g wr v l _ 6 hL (by omega) (by decide) (by decide) HD.out.src
      have g1 : True := trivial
      by_cases hj0 : j = 0
      · have hneg : ¬ (0 : Int) < (E.length : Int) := by omega
        clear hE hj0
        go_wp2_with (first
          | (go_at_call 27; clear g1; refine HP6.out.mono ?_; rintro r w1 ⟨p6, rfl, hp6, hs1, hg1⟩; have HD1 : Hid (DL w w1 g v l (b + 50 * j + 4) (w.heap.size + 1) la lc E sq) := HD.out.draw hg1 hs1; have hz1 : w.heap.size ≤ w1.heap.size := HD1.out.gr.size; clear hs1 hg1)
          | (at_builtin; refine wpl_appendE rfl (.tmp 22) (.tmp 25) rfl ⟨T + 1, 0, 0, 0, ⟨#[]⟩, ⟨#[]⟩, ⟨#[]⟩⟩ (zero_ent (by omega)).2 (HD1.out.alloc _).own rfl w1.heap.size 1 (entAt_new w1 ⟨T + 1, 0, 0, 0, ⟨#[]⟩, ⟨#[]⟩, ⟨#[]⟩⟩) rfl (by rw [HLE.out]; omega) (by simp; omega) ?_; intro v9 w9 ho9 hg9; obtain ⟨la9, lc9, rfl, hd9⟩ := (HD1.out.alloc _).append ho9 hg9; have HD9 : Hid (DL w w9 g v l (b + 50 * j + 4) (w.heap.size + 1) la9 lc9 (E ++ [⟨T + 1, 0, 0, 0, ⟨#[]⟩, ⟨#[]⟩, ⟨#[]⟩⟩]) sq) := hd9; clear ho9 hg9 hd9)
          | (go_at_call 53; refine (cmdB g w1 v l _ hL (by omega) HD1.out.src).mono ?_; rintro r w2 ⟨cl, sq2, op, ck, cv, co, rfl, hcw, hs2, hg2⟩; have HD2 : Hid (DL w w2 g v l (b + 50 * j + 4 + 14) (w.heap.size + 1) la lc E sq) := HD1.out.draw hg2 hs2; have HCW : Hid (CmdW cl sq2 op ck cv co) := hcw; have hcl := hcw.fcl; obtain ⟨ci, hci, hci1, hci4⟩ : ∃ ci : Nat, 1 + cl % 4 = (ci : Int) ∧ 1 ≤ ci ∧ ci ≤ 4 := ⟨(1 + cl % 4).toNat, by omega, by omega, by omega⟩; have hz2 : w.heap.size ≤ w2.heap.size := HD2.out.gr.size; clear hs2 hg2 hcw))
        · go_roundw
          case rel => exact ⟨j + 1, la9, lc9, E ++ [⟨T + 1, 0, 0, 0, ⟨#[]⟩, ⟨#[]⟩, ⟨#[]⟩⟩], T + 1, sq, by omega, by go_num, by simp, rfl, by simp [HLE.out], by omega, hsq, all_up HSX.out, all_snoc HALL.out (zero_ent (by omega)).1, HD9.out.mono (by omega)⟩
          case measure => simp [RowKit.intOf]; omega
        · obtain ⟨w4, hw4⟩ : ∃ w4, w4 = w2.alloc (.cells #[.int .i64 (ci : Int), .int .i64 sq2, .int .i64 op, .string ck, .string cv, .string co] 33) := ⟨_, rfl⟩
          rw [← hw4]
          have HD4 : Hid (DL w w4 g v l (b + 50 * j + 22) (w.heap.size + 1) la lc E sq) := by show DL _ _ _ _ _ _ _ _ _ _ _; rw [hw4]; exact (HD2.out.alloc _).mono (by omega)
          have BP4 : Hid (Blk w4 w2.heap.size #[.int .i64 (ci : Int), .int .i64 sq2, .int .i64 op, .string ck, .string cv, .string co] 33) := by show Blk _ _ _ _; rw [hw4]; exact Blk.new _ _ _
          have hz4 : w2.heap.size < w4.heap.size := BP4.out.lt
          have pc0 : w4.cell? ⟨w2.heap.size, 0, none⟩ = some (.int .i64 (ci : Int)) := BP4.out.cell 0
          have pc1 : w4.cell? ⟨w2.heap.size, 1, none⟩ = some (.int .i64 sq2) := BP4.out.cell 1
          have pc2 : w4.cell? ⟨w2.heap.size, 2, none⟩ = some (.int .i64 op) := BP4.out.cell 2
          have pc3 : w4.cell? ⟨w2.heap.size, 3, none⟩ = some (.string ck) := BP4.out.cell 3
          have pc4 : w4.cell? ⟨w2.heap.size, 4, none⟩ = some (.string cv) := BP4.out.cell 4
          have pc5 : w4.cell? ⟨w2.heap.size, 5, none⟩ = some (.string co) := BP4.out.cell 5
          have fp := BP4.out.free
          clear hw4
          have hqP : ¬ w.heap.size + 1 = w2.heap.size := by have := HD2.out.seqs.lt; omega
          have hPq : ¬ w2.heap.size = w.heap.size + 1 := fun h => hqP h.symm
          have hcs : ci < sq.length := by omega
          obtain ⟨y, hy⟩ : ∃ y, sq[ci] = y := ⟨_, rfl⟩
          have hyx := HSX.out sq[ci] (List.getElem_mem hcs)
          have q0 : w4.cell? ⟨w.heap.size + 1, ci, none⟩ = some (.int .i64 y) := (HD4.out.seqs.cell ci).trans (by rw [← hy]; simp [hcs])
          have fq := HD4.out.seqs.free
          rw [hy] at hyx
          have hci9 : (ci : Int) < 9 := by omega
          have HE2 : Hid (entB ⟨T, (ci : Int), y + 1, op, ck, cv, co⟩ = true ∧ (⟨T, (ci : Int), y + 1, op, ck, cv, co⟩ : Ent).fits) := CmdW.ent ⟨by omega, by omega, HCW.out.fop, HCW.out.fk, HCW.out.fv, HCW.out.fo⟩ (by omega)
          have HD8 : Hid (DL w ((w4.setCell ⟨w.heap.size + 1, ci, none⟩ (.int .i64 (y + 1))).setCell ⟨w2.heap.size, 1, none⟩ (.int .i64 (y + 1))) g v l (b + 50 * j + 22) (w.heap.size + 1) la lc E (sq.set ci (y + 1))) := by
            have h8 : DL w (w4.setCell ⟨w.heap.size + 1, ci, none⟩ (.int .i64 (y + 1))) g v l (b + 50 * j + 22) (w.heap.size + 1) la lc E (sq.set ci (y + 1)) := by
              have h0 := HD4.out
              obtain ⟨k, hk, hs⟩ := h0.src
              have hbb : Below w.heap.size w4 (w4.setCell ⟨w.heap.size + 1, ci, none⟩ (.int .i64 (y + 1))) := (Below.refl _ _).setCell (by show w.heap.size ≤ w.heap.size + 1; omega) _
              refine ⟨h0.own.block fun k' e' => Below.heap_setCell _ _ _ _ (by simp only []; intro h; rw [h] at e'; exact h0.ne e'), h0.ne, ?_, ⟨k, hk, srcLow hs h0.bs hbb h0.glt⟩, ⟨hbb.os.trans h0.gr.os, hbb.tape.trans h0.gr.tape, hbb.output.trans h0.gr.output, Nat.le_trans h0.gr.size hbb.size, fun j' hj' hne => (hbb.block j' hj').trans (h0.gr.block j' hj' hne)⟩, h0.qlo, h0.bs, h0.glt⟩
              have h1 := h0.seqs.set ci (.int .i64 (y + 1))
              have e : ((sq.map (Value.int .i64)).toArray).setIfInBounds ci (.int .i64 (y + 1)) = ((sq.set ci (y + 1)).map (Value.int .i64)).toArray := by simp [List.map_set]
              rw [e] at h1
              exact h1
            exact h8.up ((Below.refl _ _).setCell (by show w.heap.size ≤ w2.heap.size; omega) _) (fun k' e' => Below.heap_setCell _ _ _ _ (by simp only []; have := (HD2.out.own.2.lt k' e').2; omega)) (Below.heap_setCell _ _ _ _ (by simp only []; omega))
          have HZ8 : Hid (((w4.setCell ⟨w.heap.size + 1, ci, none⟩ (.int .i64 (y + 1))).setCell ⟨w2.heap.size, 1, none⟩ (.int .i64 (y + 1))).heap.size = w4.heap.size) := by show _ = _; simp [World.setCell]
          have HSQ : Hid (∀ x ∈ sq.set ci (y + 1), 0 ≤ x ∧ x ≤ ((j + 1 : Nat) : Int)) := fun x hx => by
            rcases List.mem_or_eq_of_mem_set hx with hx | rfl
            · have := HSX.out x hx; omega
            · omega
          have hsl : (sq.set ci (y + 1)).length = 9 := by rw [List.length_set]; exact hsq
          clear hy hcs
          go_region
          all_goals go_wp2_with (at_builtin; refine wpl_appendE rfl (.tmp 66) (.tmp 70) rfl ⟨T, (ci : Int), y + 1, op, ck, cv, co⟩ HE2.out.2 (HD8.out.alloc _).drewD.own rfl w4.heap.size 1 (by have h9 := entAt_new ((w4.setCell ⟨w.heap.size + 1, ci, none⟩ (.int .i64 (y + 1))).setCell ⟨w2.heap.size, 1, none⟩ (.int .i64 (y + 1))) ⟨T, (ci : Int), y + 1, op, ck, cv, co⟩; rw [HZ8.out] at h9; exact h9) rfl (by rw [HLE.out]; omega) (by simp [World.setCell]; omega) ?_; intro v9 w9 ho9 hg9; obtain ⟨la9, lc9, rfl, hd9⟩ := (HD8.out.alloc _).drewD.append ho9 hg9; have HD9 : Hid (DL w w9 g v l (b + 50 * j + 22) (w.heap.size + 1) la9 lc9 (E ++ [⟨T, (ci : Int), y + 1, op, ck, cv, co⟩]) (sq.set ci (y + 1))) := hd9; clear ho9 hg9 hd9)
          all_goals go_roundw
          all_goals try (case rel => exact ⟨j + 1, la9, lc9, E ++ [⟨T, (ci : Int), y + 1, op, ck, cv, co⟩], T, sq.set ci (y + 1), by omega, by go_num, by simp, rfl, by simp [HLE.out], by omega, hsl, HSQ.out, all_snoc HALL.out HE2.out.1, HD9.out.mono (by omega)⟩)
          all_goals try (case measure => simp [RowKit.intOf]; omega)
      · have hpos : (0 : Int) < (E.length : Int) := by omega
        clear hE hj0
        have g2 : True := trivial
        go_wp2_with (first
          | (go_at_call 27; clear g1; refine HP6.out.mono ?_; rintro r w1 ⟨p6, rfl, hp6, hs1, hg1⟩; have HD1 : Hid (DL w w1 g v l (b + 50 * j + 4) (w.heap.size + 1) la lc E sq) := HD.out.draw hg1 hs1; have hz1 : w.heap.size ≤ w1.heap.size := HD1.out.gr.size; clear hs1 hg1)
          | (at_builtin; refine wpl_appendE rfl (.tmp 22) (.tmp 25) rfl ⟨T + 1, 0, 0, 0, ⟨#[]⟩, ⟨#[]⟩, ⟨#[]⟩⟩ (zero_ent (by omega)).2 (HD1.out.alloc _).own rfl w1.heap.size 1 (entAt_new w1 ⟨T + 1, 0, 0, 0, ⟨#[]⟩, ⟨#[]⟩, ⟨#[]⟩⟩) rfl (by rw [HLE.out]; omega) (by simp; omega) ?_; intro v9 w9 ho9 hg9; obtain ⟨la9, lc9, rfl, hd9⟩ := (HD1.out.alloc _).append ho9 hg9; have HD9 : Hid (DL w w9 g v l (b + 50 * j + 4) (w.heap.size + 1) la9 lc9 (E ++ [⟨T + 1, 0, 0, 0, ⟨#[]⟩, ⟨#[]⟩, ⟨#[]⟩⟩]) sq) := hd9; clear ho9 hg9 hd9)
          | (go_at_call 53; refine (cmdB g w1 v l _ hL (by omega) HD1.out.src).mono ?_; rintro r w2 ⟨cl, sq2, op, ck, cv, co, rfl, hcw, hs2, hg2⟩; have HD2 : Hid (DL w w2 g v l (b + 50 * j + 4 + 14) (w.heap.size + 1) la lc E sq) := HD1.out.draw hg2 hs2; have HCW : Hid (CmdW cl sq2 op ck cv co) := hcw; have hcl := hcw.fcl; obtain ⟨ci, hci, hci1, hci4⟩ : ∃ ci : Nat, 1 + cl % 4 = (ci : Int) ∧ 1 ≤ ci ∧ ci ≤ 4 := ⟨(1 + cl % 4).toNat, by omega, by omega, by omega⟩; have hz2 : w.heap.size ≤ w2.heap.size := HD2.out.gr.size; clear hs2 hg2 hcw)
          | (go_at_call 27; clear g2; refine (pickB g _ v l (b + 50 * j + 18) 4 hL (by omega) (by decide) (by decide) (HD2.out.alloc _).src).mono ?_; rintro r w4 ⟨p4, rfl, hp4, hs4, hg4⟩; have HD4 : Hid (DL w w4 g v l (b + 50 * j + 22) (w.heap.size + 1) la lc E sq) := (HD2.out.alloc _).draw hg4 hs4; have BP4 : Hid (Blk w4 w2.heap.size #[.int .i64 (ci : Int), .int .i64 sq2, .int .i64 op, .string ck, .string cv, .string co] 33) := (Blk.new w2 _ _).grown hg4 (by omega); have hz4 : w2.heap.size < w4.heap.size := BP4.out.lt; have pc0 : w4.cell? ⟨w2.heap.size, 0, none⟩ = some (.int .i64 (ci : Int)) := BP4.out.cell 0; have pc1 : w4.cell? ⟨w2.heap.size, 1, none⟩ = some (.int .i64 sq2) := BP4.out.cell 1; have pc2 : w4.cell? ⟨w2.heap.size, 2, none⟩ = some (.int .i64 op) := BP4.out.cell 2; have pc3 : w4.cell? ⟨w2.heap.size, 3, none⟩ = some (.string ck) := BP4.out.cell 3; have pc4 : w4.cell? ⟨w2.heap.size, 4, none⟩ = some (.string cv) := BP4.out.cell 4; have pc5 : w4.cell? ⟨w2.heap.size, 5, none⟩ = some (.string co) := BP4.out.cell 5; have fp := BP4.out.free; clear hs4 hg4)
          | (go_at_call 27; refine (pickB g w4 v l _ E.length hL (by omega) (by omega) (by rw [HLE.out]; omega) HD4.out.src).mono ?_; rintro r w5 ⟨p5, rfl, hp5, hs5, hg5⟩; have HD5 : Hid (DL w w5 g v l (b + 50 * j + 26) (w.heap.size + 1) la lc E sq) := HD4.out.draw hg5 hs5; have BP5 : Hid (Blk w5 w2.heap.size #[.int .i64 (ci : Int), .int .i64 sq2, .int .i64 op, .string ck, .string cv, .string co] 33) := BP4.out.grown hg5 (by omega); have hz5 : w2.heap.size < w5.heap.size := BP5.out.lt; have HES : Hid (Es w5 (.slice la E.length lc) E) := HD5.out.own.es (by rw [HLE.out]; unfold maxLen; omega); obtain ⟨bb, off, hla, hat⟩ := HES.out.at7 hp5; obtain ⟨e0, e1, e2, e3, e4, e5, e6⟩ := hat; have HEF : Hid (entB E[p5] = true ∧ E[p5].fits) := ⟨HALL.out _ (List.getElem_mem hp5), HES.out.2.1 _ (List.getElem_mem hp5)⟩; subst hla; generalize E[p5] = ep at *; have hp5' : (p5 : Int) < (E.length : Int) := (by omega); clear hs5 hg5 pc0 pc1 pc2 pc3 pc4 pc5 fp)
          | (have hBA := HEF; refine gate_st 33 (.tmp 9) _ rfl ?_; clear hBA; refine wpl_store_blk rfl 33 (.tmp 9) _ rfl (w2.heap.size) rfl rfl BP5.out infoCmdO rfl rfl (by simp [Value.oneCell']) ?_; have HD6 : Hid (DL w (w5.setRow w2.heap.size #[.int .i64 ep.cl, .int .i64 ep.sq, .int .i64 ep.op, .string ep.k, .string ep.v, .string ep.o]) g v l (b + 50 * j + 26) (w.heap.size + 1) (some ⟨bb, off, none⟩) lc E sq) := HD5.out.up (below_row (Below.refl _ _) hz2 _) (fun k' e' => setRow_other _ _ _ _ (by have := (HD2.out.own.2.lt k' e').2; omega)) (setRow_other _ _ _ _ (by have := HD2.out.seqs.lt; omega)); have BP6 : Hid (Blk (w5.setRow w2.heap.size #[.int .i64 ep.cl, .int .i64 ep.sq, .int .i64 ep.op, .string ep.k, .string ep.v, .string ep.o]) w2.heap.size #[.int .i64 ep.cl, .int .i64 ep.sq, .int .i64 ep.op, .string ep.k, .string ep.v, .string ep.o] 33) := BP5.out.row _)
          | (have hBA := BP6; refine gate_ld 33 (.tmp 9) rfl ?_; clear hBA; refine wpl_load_blk rfl 33 (.tmp 9) rfl (w2.heap.size) rfl BP6.out Try.underlying33 rfl infoCmdO rfl ?_)
          | (have hBA := BP6; at_builtin; refine wpl_appendE rfl (.tmp 66) (.tmp 70) rfl ⟨T, ep.cl, ep.sq, ep.op, ep.k, ep.v, ep.o⟩ (same_ent HEF.out.1 (by omega) HEF.out.2).2 (HD6.out.alloc _).own rfl w5.heap.size 1 (by have h9 := entAt_new (w5.setRow w2.heap.size #[.int .i64 ep.cl, .int .i64 ep.sq, .int .i64 ep.op, .string ep.k, .string ep.v, .string ep.o]) ⟨T, ep.cl, ep.sq, ep.op, ep.k, ep.v, ep.o⟩; rw [setRow_size] at h9; exact h9) rfl (by rw [HLE.out]; omega) (by simp [setRow_size]; omega) ?_; intro v9 w9 ho9 hg9; obtain ⟨la9, lc9, rfl, hd9⟩ := (HD6.out.alloc _).append ho9 hg9; have HD9 : Hid (DL w w9 g v l (b + 50 * j + 26) (w.heap.size + 1) la9 lc9 (E ++ [⟨T, ep.cl, ep.sq, ep.op, ep.k, ep.v, ep.o⟩]) sq) := hd9; clear ho9 hg9 hd9 hBA))
        · go_roundw
          case rel => exact ⟨j + 1, la9, lc9, E ++ [⟨T + 1, 0, 0, 0, ⟨#[]⟩, ⟨#[]⟩, ⟨#[]⟩⟩], T + 1, sq, by omega, by go_num, by simp, rfl, by simp [HLE.out], by omega, hsq, all_up HSX.out, all_snoc HALL.out (zero_ent (by omega)).1, HD9.out.mono (by omega)⟩
          case measure => simp [RowKit.intOf]; omega
        · go_roundw
          case rel => exact ⟨j + 1, la9, lc9, E ++ [⟨T, ep.cl, ep.sq, ep.op, ep.k, ep.v, ep.o⟩], T, sq, by omega, by go_num, by simp, rfl, by simp [HLE.out], by omega, hsq, all_up HSX.out, all_snoc HALL.out (same_ent HEF.out.1 (by omega) HEF.out.2).1, HD9.out.mono (by omega)⟩
          case measure => simp [RowKit.intOf]; omega
        · have hqP : ¬ w.heap.size + 1 = w2.heap.size := by have := HD2.out.seqs.lt; omega
          have hPq : ¬ w2.heap.size = w.heap.size + 1 := fun h => hqP h.symm
          have hcs : ci < sq.length := by omega
          obtain ⟨y, hy⟩ : ∃ y, sq[ci] = y := ⟨_, rfl⟩
          have hyx := HSX.out sq[ci] (List.getElem_mem hcs)
          have q0 : w4.cell? ⟨w.heap.size + 1, ci, none⟩ = some (.int .i64 y) := (HD4.out.seqs.cell ci).trans (by rw [← hy]; simp [hcs])
          have fq := HD4.out.seqs.free
          rw [hy] at hyx
          have hci9 : (ci : Int) < 9 := by omega
          have HE2 : Hid (entB ⟨T, (ci : Int), y + 1, op, ck, cv, co⟩ = true ∧ (⟨T, (ci : Int), y + 1, op, ck, cv, co⟩ : Ent).fits) := CmdW.ent ⟨by omega, by omega, HCW.out.fop, HCW.out.fk, HCW.out.fv, HCW.out.fo⟩ (by omega)
          have HD8 : Hid (DL w ((w4.setCell ⟨w.heap.size + 1, ci, none⟩ (.int .i64 (y + 1))).setCell ⟨w2.heap.size, 1, none⟩ (.int .i64 (y + 1))) g v l (b + 50 * j + 22) (w.heap.size + 1) la lc E (sq.set ci (y + 1))) := by
            have h8 : DL w (w4.setCell ⟨w.heap.size + 1, ci, none⟩ (.int .i64 (y + 1))) g v l (b + 50 * j + 22) (w.heap.size + 1) la lc E (sq.set ci (y + 1)) := by
              have h0 := HD4.out
              obtain ⟨k, hk, hs⟩ := h0.src
              have hbb : Below w.heap.size w4 (w4.setCell ⟨w.heap.size + 1, ci, none⟩ (.int .i64 (y + 1))) := (Below.refl _ _).setCell (by show w.heap.size ≤ w.heap.size + 1; omega) _
              refine ⟨h0.own.block fun k' e' => Below.heap_setCell _ _ _ _ (by simp only []; intro h; rw [h] at e'; exact h0.ne e'), h0.ne, ?_, ⟨k, hk, srcLow hs h0.bs hbb h0.glt⟩, ⟨hbb.os.trans h0.gr.os, hbb.tape.trans h0.gr.tape, hbb.output.trans h0.gr.output, Nat.le_trans h0.gr.size hbb.size, fun j' hj' hne => (hbb.block j' hj').trans (h0.gr.block j' hj' hne)⟩, h0.qlo, h0.bs, h0.glt⟩
              have h1 := h0.seqs.set ci (.int .i64 (y + 1))
              have e : ((sq.map (Value.int .i64)).toArray).setIfInBounds ci (.int .i64 (y + 1)) = ((sq.set ci (y + 1)).map (Value.int .i64)).toArray := by simp [List.map_set]
              rw [e] at h1
              exact h1
            exact h8.up ((Below.refl _ _).setCell (by show w.heap.size ≤ w2.heap.size; omega) _) (fun k' e' => Below.heap_setCell _ _ _ _ (by simp only []; have := (HD2.out.own.2.lt k' e').2; omega)) (Below.heap_setCell _ _ _ _ (by simp only []; omega))
          have HZ8 : Hid (((w4.setCell ⟨w.heap.size + 1, ci, none⟩ (.int .i64 (y + 1))).setCell ⟨w2.heap.size, 1, none⟩ (.int .i64 (y + 1))).heap.size = w4.heap.size) := by show _ = _; simp [World.setCell]
          have HSQ : Hid (∀ x ∈ sq.set ci (y + 1), 0 ≤ x ∧ x ≤ ((j + 1 : Nat) : Int)) := fun x hx => by
            rcases List.mem_or_eq_of_mem_set hx with hx | rfl
            · have := HSX.out x hx; omega
            · omega
          have hsl : (sq.set ci (y + 1)).length = 9 := by rw [List.length_set]; exact hsq
          clear hy hcs
          go_region
          all_goals go_wp2_with (at_builtin; refine wpl_appendE rfl (.tmp 66) (.tmp 70) rfl ⟨T, (ci : Int), y + 1, op, ck, cv, co⟩ HE2.out.2 (HD8.out.alloc _).drewD.own rfl w4.heap.size 1 (by have h9 := entAt_new ((w4.setCell ⟨w.heap.size + 1, ci, none⟩ (.int .i64 (y + 1))).setCell ⟨w2.heap.size, 1, none⟩ (.int .i64 (y + 1))) ⟨T, (ci : Int), y + 1, op, ck, cv, co⟩; rw [HZ8.out] at h9; exact h9) rfl (by rw [HLE.out]; omega) (by simp [World.setCell]; omega) ?_; intro v9 w9 ho9 hg9; obtain ⟨la9, lc9, rfl, hd9⟩ := (HD8.out.alloc _).drewD.append ho9 hg9; have HD9 : Hid (DL w w9 g v l (b + 50 * j + 22) (w.heap.size + 1) la9 lc9 (E ++ [⟨T, (ci : Int), y + 1, op, ck, cv, co⟩]) (sq.set ci (y + 1))) := hd9; clear ho9 hg9 hd9)
          all_goals go_roundw
          all_goals try (case rel => exact ⟨j + 1, la9, lc9, E ++ [⟨T, (ci : Int), y + 1, op, ck, cv, co⟩], T, sq.set ci (y + 1), by omega, by go_num, by simp, rfl, by simp [HLE.out], by omega, hsl, HSQ.out, all_snoc HALL.out HE2.out.1, HD9.out.mono (by omega)⟩)
          all_goals try (case measure => simp [RowKit.intOf]; omega)
    · obtain rfl : j = n := by omega
      go_wp2
      go_ret
      exact ⟨la, lc, E, rfl, hE, HALL.out, HD.out.own, HD.out.gr⟩
end Go.Proofs.Ytelfejhopjbhpaa
