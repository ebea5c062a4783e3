/-
  spec.l7line: a line of a script.
-/
import Derived.Test.YtanpindbhdeomaaGreatDoorPsSt
import Derived.Test.YtanpindbhdeomaaGreatDoorGround
import Derived.Test.YtanpindbhdeomaaGreatDoorPsSp
namespace Go.Proofs.YtanpindbhdeomaaGreatDoor
open Go.RowKit
set_option linter.unusedVariables false
set_option linter.unusedSimpArgs false

theorem stpLaw : GLaw stC 10 48 25 := {
  und := Tryz.underlying25
  info := by
    obtain ⟨i0, hi, hz0, hz1, hz2⟩ := info_parts (show (Tryz.prog.info? 48).map (fun i => (i.zero, i.size, i.bytes)) = some (some (.agg #[.int .i64 0, .int .i64 0, .int .i64 0, .int .i64 0, .int .i64 0, .int .i64 0, .int .i64 0, .string ⟨#[]⟩, .string ⟨#[]⟩, .string ⟨#[]⟩]), 10, 104) by kernel_rfl)
    exact ⟨i0, _, _, hi, hz0, hz1, hz2, rfl, by decide⟩
  pos := by decide
  len := fun _ => rfl
  one := fun a u hu => by
    simp only [stC, List.mem_cons, List.not_mem_nil, or_false] at hu
    rcases hu with h | h | h | h | h | h | h | h | h | h <;> (subst h; rfl) }
theorem sizeScP : (Tryz.prog.info? 27).map (·.size) = some 8 := by kernel_rfl
theorem OwnG.cap {α : Type} {cs : α → List Value} {m : Nat} {T : TypeId} {w : World} {B : Nat} {v : Value} {l : List α} (h : OwnG cs m T w B v l) : ∀ a n c, v = .slice a n c → n ≤ c := by
  rintro a n c rfl
  obtain ⟨-, h | ⟨g, cap, cur, e, -, -, hc, -⟩⟩ := h
  · obtain ⟨e, h0⟩ := h
    simp only [Value.slice.injEq] at e
    obtain ⟨-, rfl, rfl⟩ := e
    exact Nat.le_refl _
  · simp only [Value.slice.injEq] at e
    obtain ⟨-, rfl, rfl⟩ := e
    exact hc
theorem grw_below {w w' : World} (v : Value) (hb : Below w.heap.size w w') : Grew w v w' v := ⟨⟨hb.os, hb.tape, hb.output, hb.size, fun k hk _ => hb.block k hk⟩, .inl rfl⟩
theorem Grew.tail {w w1 w2 : World} {v v' : Value} (h : Grew w v w1 v') (hb : Below w.heap.size w1 w2) : Grew w v w2 v' :=
  ⟨⟨hb.os.trans h.g.os, hb.tape.trans h.g.tape, hb.output.trans h.g.output, Nat.le_trans h.g.size hb.size, fun k hk hn => (hb.block k hk).trans (h.g.block k hk hn)⟩, h.at'⟩
theorem below_cell {B : Nat} {a w : World} (h : Below B a w) {p : Addr} (hk : B ≤ p.block) (v : Value) : Below B a (w.setCell p v) := h.setCell hk v
/-- words of a line: each has something, none is long -/
theorem splA_mem_len (c : UInt8) : ∀ (l acc : List UInt8) (x : List UInt8), x ∈ splA c acc l → x.length ≤ acc.length + l.length
  | [], acc, x, h => by
    simp only [splA, List.mem_singleton] at h
    subst h; simp
  | y :: l, acc, x, h => by
    rw [splA] at h
    split at h
    · rcases List.mem_cons.1 h with rfl | h
      · omega
      · have := splA_mem_len c l [] x h
        simp at this ⊢; omega
    · have := splA_mem_len c l (acc ++ [y]) x h
      simp at this ⊢; omega
theorem words_ok {l : List UInt8} (hl : l.length ≤ 65536) (h : (spl 32 l).all wordB = true) : (spl 32 l).length ≤ 70000 ∧ 1 ≤ (spl 32 l).length ∧ ∀ x ∈ spl 32 l, x.length ≤ 65536 ∧ x ≠ [] := by
  refine ⟨by have := splA_len 32 l []; unfold spl; omega, List.length_pos_iff.2 (spl_ne 32 l []), fun x hx => ⟨by have := splA_mem_len 32 l [] x hx; simp at this; omega, ?_⟩⟩
  rintro rfl
  have := List.all_eq_true.1 h [] hx
  rw [wordB_def] at this
  simp at this
def stepN (u : Sup) (n : Nat) (l : List UInt8) : Int × Stp := if (spl 32 l).all wordB = false then (3, zS) else stepQ u.s u.c n (spl 32 l)
set_option maxHeartbeats 8000000 in
set_option maxRecDepth 100000 in
theorem l7lineS_any (k : Nat) (hk : 3 ≤ k) (hk9 : k ≤ 70000) (u : Sup) (ss : List Stp) (ad : Option Addr) (nd cd : Nat) (vs : Value) (l : List UInt8) (hl : l.length ≤ 65536) (w : World) (B : Nat) (hB : B ≤ w.heap.size) (hs : OwnG stC 10 48 w B vs ss) (hsl : ss.length ≤ 4096) :
    Calls Tryz.prog 9 #[.agg #[.int .i64 u.s, .int .i64 u.c, .int .i64 u.el, .int .i64 u.b, .int .i64 u.r, .int .i64 u.d, .slice ad nd cd, vs], .int .i64 (k : Int), .string (sOf l)] w fun e w' => ∃ vs', e = .returned (.tuple #[.agg #[.int .i64 u.s, .int .i64 u.c, .int .i64 u.el, .int .i64 u.b, .int .i64 u.r, .int .i64 u.d, .slice ad nd cd, vs'], .int .i64 (stepN u ss.length l).1]) ∧ OwnG stC 10 48 w' B vs' (if (stepN u ss.length l).1 = 0 then ss ++ [(stepN u ss.length l).2] else ss) ∧ Grew w vs w' vs' := by
  obtain ⟨av, cv, rfl⟩ := hs.shape
  have HS : Hid (OwnG stC 10 48 w B (.slice av ss.length cv) ss) := hs
  obtain ⟨QL, hQL⟩ : ∃ q, q = stepN u ss.length l := ⟨_, rfl⟩
  rw [← hQL]
  have HQ : Hid (QL = stepN u ss.length l) := hQL
  clear hQL hs
  obtain ⟨qc, qx⟩ := QL
  dsimp only
  obtain ⟨SS, hSS⟩ : ∃ q, q = if qc = 0 then ss ++ [qx] else ss := ⟨_, rfl⟩
  rw [← hSS]
  have HSS : Hid (SS = if qc = 0 then ss ++ [qx] else ss) := hSS
  clear hSS
  obtain ⟨okv, hokv⟩ : ∃ q, q = (spl 32 l).all wordB := ⟨_, rfl⟩
  have HSp : Hid (∀ z, Calls Tryz.prog 16 #[.string (sOf l)] z fun e w' => ∃ v, e = .returned (.tuple #[v, .bool okv]) ∧ (okv = true → OwnG txC 1 9 w' z.heap.size v ((spl 32 l).map sOf)) ∧ Below z.heap.size z w') := fun z => by rw [hokv]; exact l7split_any l hl z
  have HQ2 : Hid ((qc, qx) = if okv = false then (3, zS) else stepQ u.s u.c ss.length (spl 32 l)) := by unfold Hid; rw [HQ.out, hokv]; rfl
  have HWo : Hid (okv = true → (spl 32 l).length ≤ 70000 ∧ 1 ≤ (spl 32 l).length ∧ ∀ x ∈ spl 32 l, x.length ≤ 65536 ∧ x ≠ []) := fun h => words_ok hl (hokv.symm.trans h)
  clear HQ hokv
  have hk2 : (2 : Int) < (k : Int) := by omega
  have G1 : Hid True := trivial
  have G2 : Hid True := trivial
  have G3 : Hid True := trivial
  have G4 : Hid True := trivial
  generalize spl 32 l = ws at *
  generalize sOf l = LS at *
  cases okv
  · obtain ⟨rfl, rfl⟩ := Prod.mk.inj (HQ2.out.trans (if_pos rfl))
    clear HQ2
    go_enter Tryz.func9, Tryz.ntmps9
    go_wp2_with (first
          | (go_at_call 16; refine (HSp.out _).mono ?_; rintro e w5 ⟨v5, rfl, hO5, hb5⟩; have BS5 : Hid (Blk w5 w.heap.size #[.int .i64 u.s, .int .i64 u.c, .int .i64 u.el, .int .i64 u.b, .int .i64 u.r, .int .i64 u.d, .slice ad nd cd, .slice av ss.length cv] 27) := ((Blk.new w _ _).alloc _).below hb5 (by simp <;> omega); have BR5 : Hid (Blk w5 (w.heap.size + 1) #[.int .i64 0, .int .i64 0, .int .i64 0, .int .i64 0, .int .i64 0, .int .i64 0, .slice none 0 0, .slice none 0 0] 27) := (Blk.new' _ _ _ (by simp)).below hb5 (by simp); have HB5 : Hid (Below w.heap.size w w5) := (((Below.refl _ _).alloc (Nat.le_refl _) _).alloc (by simp) _).trans (hb5.mono (by simp <;> omega)); have hz5 : w.heap.size + 2 ≤ w5.heap.size := (by have h9 := hb5.size; simp at h9; omega); clear hb5 hO5)
          | (have hBA := G1; refine gate_ld 27 (.tmp 3) rfl ?_; clear hBA; refine wpl_load_blk rfl 27 (.tmp 3) rfl w.heap.size rfl BS5.out Tryz.underlying27 rfl sizeScP rfl ?_; clear G1)
          | (have hBA := G2; refine gate_st 27 (.tmp 6) _ rfl ?_; clear hBA; refine wpl_store_blk rfl 27 (.tmp 6) _ rfl (w.heap.size + 1) rfl rfl BR5.out sizeScP rfl rfl (by simp [Value.oneCell']) ?_; clear G2))
    have cb := (BR5.out.row #[.int .i64 u.s, .int .i64 u.c, .int .i64 u.el, .int .i64 u.b, .int .i64 u.r, .int .i64 u.d, .slice ad nd cd, .slice av ss.length cv]).cell
    refine bodyPost_ret (v := .tuple #[.agg #[.int .i64 u.s, .int .i64 u.c, .int .i64 u.el, .int .i64 u.b, .int .i64 u.r, .int .i64 u.d, .slice ad nd cd, .slice av ss.length cv], .int .i64 3]) (by simp [results, Tryz.results9, go_sem, cb]) rfl ⟨_, rfl, ?_, grw_below _ (below_row HB5.out (by omega) _)⟩
    rw [HSS.out, if_neg (by decide)]
    exact HS.out.below (below_row HB5.out (by omega) _)
  · obtain ⟨hwl, hw1, hww⟩ := HWo.out rfl
    have HW : Hid (∀ x ∈ ws, x.length ≤ 65536 ∧ x ≠ []) := hww
    have hQ3 := HQ2.out.trans (if_neg (by decide))
    have HQ3 : Hid ((qc, qx) = stepQ u.s u.c ss.length ws) := hQ3
    clear HQ2 hQ3 HWo hww
    have HStp : Hid (∀ z v n, OwnG txC 1 9 z n v (ws.map sOf) → Calls Tryz.prog 17 #[.agg #[.int .i64 u.s, .int .i64 u.c, .int .i64 u.el, .int .i64 u.b, .int .i64 u.r, .int .i64 u.d], v, .int .i64 (ss.length : Int)] z fun e w' => e = .returned (.tuple #[.agg #[.int .i64 qx.kd, .int .i64 qx.a, .int .i64 qx.b, .int .i64 qx.c, .int .i64 qx.cl, .int .i64 qx.sq, .int .i64 qx.op, .string qx.k, .string qx.v, .string qx.o], .int .i64 qc]) ∧ Below z.heap.size z w') := fun z v n ho => by
      have h9 := l7stepLine_any u.s u.c u.el u.b u.r u.d v ws ss.length z (ho.sl txLaw (by rw [List.length_map]; unfold maxLen; omega)) hwl hw1 HW.out ho.cap
      rw [← HQ3.out] at h9
      exact h9
    clear HQ3 HW
    have HNe : Hid (∀ j, (Value.slice av ss.length cv).ownBlock = some j → j < w.heap.size) := fun j h => (HS.out.lts j h).2
    by_cases hq0 : qc = 0
    · subst hq0
      go_enter Tryz.func9, Tryz.ntmps9
      go_wp2_with (first
          | (go_at_call 16; refine (HSp.out _).mono ?_; rintro e w5 ⟨v5, rfl, hO5, hb5⟩; have BS5 : Hid (Blk w5 w.heap.size #[.int .i64 u.s, .int .i64 u.c, .int .i64 u.el, .int .i64 u.b, .int .i64 u.r, .int .i64 u.d, .slice ad nd cd, .slice av ss.length cv] 27) := ((Blk.new w _ _).alloc _).below hb5 (by simp <;> omega); have BR5 : Hid (Blk w5 (w.heap.size + 1) #[.int .i64 0, .int .i64 0, .int .i64 0, .int .i64 0, .int .i64 0, .int .i64 0, .slice none 0 0, .slice none 0 0] 27) := (Blk.new' _ _ _ (by simp)).below hb5 (by simp); have HB5 : Hid (Below w.heap.size w w5) := (((Below.refl _ _).alloc (Nat.le_refl _) _).alloc (by simp) _).trans (hb5.mono (by simp <;> omega)); have hz5 : w.heap.size + 2 ≤ w5.heap.size := (by have h9 := hb5.size; simp at h9; omega); have HO5 : Hid (OwnG txC 1 9 w5 _ v5 (ws.map sOf)) := hO5 (by simp);have s0 : w5.cell? ⟨w.heap.size, 0, none⟩ = some (.int .i64 u.s) := BS5.out.cell 0; have s1 : w5.cell? ⟨w.heap.size, 1, none⟩ = some (.int .i64 u.c) := BS5.out.cell 1; have s2 : w5.cell? ⟨w.heap.size, 2, none⟩ = some (.int .i64 u.el) := BS5.out.cell 2; have s3 : w5.cell? ⟨w.heap.size, 3, none⟩ = some (.int .i64 u.b) := BS5.out.cell 3; have s4 : w5.cell? ⟨w.heap.size, 4, none⟩ = some (.int .i64 u.r) := BS5.out.cell 4; have s5 : w5.cell? ⟨w.heap.size, 5, none⟩ = some (.int .i64 u.d) := BS5.out.cell 5; have s6 : w5.cell? ⟨w.heap.size, 6, none⟩ = some (.slice ad nd cd) := BS5.out.cell 6; have s7 : w5.cell? ⟨w.heap.size, 7, none⟩ = some (.slice av ss.length cv) := BS5.out.cell 7; clear hb5 hO5)
          | (go_at_call 17; refine (HStp.out _ _ _ HO5.out).mono ?_; rintro e w6 ⟨rfl, hb6⟩; have BS6 : Hid (Blk w6 w.heap.size #[.int .i64 u.s, .int .i64 u.c, .int .i64 u.el, .int .i64 u.b, .int .i64 u.r, .int .i64 u.d, .slice ad nd cd, .slice av ss.length cv] 27) := BS5.out.below hb6 BS5.out.lt; have BR6 : Hid (Blk w6 (w.heap.size + 1) #[.int .i64 0, .int .i64 0, .int .i64 0, .int .i64 0, .int .i64 0, .int .i64 0, .slice none 0 0, .slice none 0 0] 27) := BR5.out.below hb6 BR5.out.lt; have HB6 : Hid (Below w.heap.size w w6) := HB5.out.trans (hb6.mono (by omega)); have hz6 : w.heap.size + 2 ≤ w6.heap.size := (by have h9 := hb6.size; omega); clear hb6 s0 s1 s2 s3 s4 s5 s6 s7; have t7 : ∀ ob : Obj, (w6.alloc ob).cell? ⟨w.heap.size, 7, none⟩ = some (.slice av ss.length cv) := (fun ob => (BS6.out.alloc ob).cell 7); have t7' : w6.cell? ⟨w.heap.size, 7, none⟩ = some (.slice av ss.length cv) := BS6.out.cell 7)
          | (have hBA := G3; refine gate_st 48 (.tmp 10) _ rfl ?_; clear hBA; refine wpl_store_last rfl 48 (.tmp 10) _ rfl (w6.heap.size) rfl rfl rfl sizeStP rfl rfl (by simp [Value.oneCell']) ?_; clear G3)
          | (have hBA := G4; refine gate_ld 48 (.tmp 10) rfl ?_; clear hBA; refine wpl_load_blk rfl 48 (.tmp 10) rfl w6.heap.size rfl (Blk.new _ _ _) Tryz.underlying48 rfl sizeStP rfl ?_; clear G4)
          | (at_builtin; refine wpl_appendG stpLaw rfl (.tmp 38) (.tmp 40) rfl qx (HS.out.below ((HB6.out.alloc (by omega) _).alloc (by simp <;> omega) _)) rfl (w6.heap.size + 1) 1 (Blk.new' _ _ _ (by simp)).range rfl (by omega) (by simp <;> omega) ?_; intro v2 w2 ho2 hg2; have HO2 : Hid (OwnG stC 10 48 w2 B v2 (ss ++ [qx])) := ho2; obtain ⟨a2, c2, e2⟩ := ho2.shape; rw [List.length_append, List.length_singleton] at e2; subst e2; have HG2 : Hid (Grew _ (.slice av ss.length cv) w2 (.slice a2 (ss.length + 1) c2)) := hg2; clear ho2 hg2; have BS9 : Hid (Blk w2 w.heap.size #[.int .i64 u.s, .int .i64 u.c, .int .i64 u.el, .int .i64 u.b, .int .i64 u.r, .int .i64 u.d, .slice ad nd cd, .slice av ss.length cv] 27) := ((BS6.out.alloc _).alloc _).keep (HG2.out.g.block _ (by simp <;> omega) (fun e => Nat.lt_irrefl _ (HNe.out _ e.symm))); have BR9 : Hid (Blk w2 (w.heap.size + 1) #[.int .i64 0, .int .i64 0, .int .i64 0, .int .i64 0, .int .i64 0, .int .i64 0, .slice none 0 0, .slice none 0 0] 27) := ((BR6.out.alloc _).alloc _).keep (HG2.out.g.block _ (by simp <;> omega) (fun e => absurd (HNe.out _ e.symm) (by omega))); have c7 : w2.cell? ⟨w.heap.size, 7, none⟩ = some (.slice av ss.length cv) := BS9.out.cell 7; have f7 : w2.frozen? ⟨w.heap.size, 7, none⟩ = false := BS9.out.free 7; have BS10 : Hid (Blk (w2.setCell ⟨w.heap.size, 7, none⟩ (.slice a2 (ss.length + 1) c2)) w.heap.size #[.int .i64 u.s, .int .i64 u.c, .int .i64 u.el, .int .i64 u.b, .int .i64 u.r, .int .i64 u.d, .slice ad nd cd, .slice a2 (ss.length + 1) c2] 27) := (by have h9 := BS9.out.set 7 (.slice a2 (ss.length + 1) c2); unfold Hid; simpa using h9); have BR10 : Hid (Blk (w2.setCell ⟨w.heap.size, 7, none⟩ (.slice a2 (ss.length + 1) c2)) (w.heap.size + 1) #[.int .i64 0, .int .i64 0, .int .i64 0, .int .i64 0, .int .i64 0, .int .i64 0, .slice none 0 0, .slice none 0 0] 27) := BR9.out.set_other _ (by simp))
          | (have hBA := G1; refine gate_ld 27 (.tmp 3) rfl ?_; clear hBA; refine wpl_load_blk rfl 27 (.tmp 3) rfl w.heap.size rfl BS10.out Tryz.underlying27 rfl sizeScP rfl ?_; clear G1)
          | (have hBA := G2; refine gate_st 27 (.tmp 6) _ rfl ?_; clear hBA; refine wpl_store_blk rfl 27 (.tmp 6) _ rfl (w.heap.size + 1) rfl rfl BR10.out sizeScP rfl rfl (by simp [Value.oneCell']) ?_; clear G2))
      have HGx : Hid (Grew w (.slice av ss.length cv) w2 (.slice a2 (ss.length + 1) c2)) := (grw_below _ ((HB6.out.alloc (by omega) _).alloc (by simp <;> omega) _)).trans HG2.out
      have cb := (BR10.out.row #[.int .i64 u.s, .int .i64 u.c, .int .i64 u.el, .int .i64 u.b, .int .i64 u.r, .int .i64 u.d, .slice ad nd cd, .slice a2 (ss.length + 1) c2]).cell
      have HBt : Below w.heap.size w2 ((w2.setCell ⟨w.heap.size, 7, none⟩ (.slice a2 (ss.length + 1) c2)).setRow (w.heap.size + 1) #[.int .i64 u.s, .int .i64 u.c, .int .i64 u.el, .int .i64 u.b, .int .i64 u.r, .int .i64 u.d, .slice ad nd cd, .slice a2 (ss.length + 1) c2]) := below_row ((Below.refl w.heap.size w2).setCell (p := ⟨w.heap.size, 7, none⟩) (Nat.le_refl _) _) (Nat.le_succ _) _
      have HKt : ∀ j, (Value.slice a2 (ss.length + 1) c2).ownBlock = some j → j < w.heap.size ∨ w.heap.size + 2 ≤ j := fun j hj => by
        rcases HG2.out.at' with e | ⟨q, e, hq⟩
        · exact .inl (HNe.out j (e.symm.trans hj))
        · rw [e] at hj
          cases hj
          simp at hq
          omega
      refine bodyPost_ret (v := .tuple #[.agg #[.int .i64 u.s, .int .i64 u.c, .int .i64 u.el, .int .i64 u.b, .int .i64 u.r, .int .i64 u.d, .slice ad nd cd, .slice a2 (ss.length + 1) c2], .int .i64 0]) (by simp [results, Tryz.results9, go_sem, cb]) rfl ⟨_, rfl, ?_, HGx.out.tail HBt⟩
      have hS3 : SS = ss ++ [qx] := by rw [HSS.out]; simp
      rw [hS3]
      refine HO2.out.block fun j hj => ?_
      rcases HKt j hj with h | h
      · exact HBt.block j h
      · rw [setRow_other _ _ _ _ (by omega)]
        exact Below.heap_setCell _ _ _ _ (by simp; omega)
    · have hq0' : (qc == 0) = false := by simpa using hq0
      go_enter Tryz.func9, Tryz.ntmps9
      go_wp2_with (first
          | (go_at_call 16; refine (HSp.out _).mono ?_; rintro e w5 ⟨v5, rfl, hO5, hb5⟩; have BS5 : Hid (Blk w5 w.heap.size #[.int .i64 u.s, .int .i64 u.c, .int .i64 u.el, .int .i64 u.b, .int .i64 u.r, .int .i64 u.d, .slice ad nd cd, .slice av ss.length cv] 27) := ((Blk.new w _ _).alloc _).below hb5 (by simp <;> omega); have BR5 : Hid (Blk w5 (w.heap.size + 1) #[.int .i64 0, .int .i64 0, .int .i64 0, .int .i64 0, .int .i64 0, .int .i64 0, .slice none 0 0, .slice none 0 0] 27) := (Blk.new' _ _ _ (by simp)).below hb5 (by simp); have HB5 : Hid (Below w.heap.size w w5) := (((Below.refl _ _).alloc (Nat.le_refl _) _).alloc (by simp) _).trans (hb5.mono (by simp <;> omega)); have hz5 : w.heap.size + 2 ≤ w5.heap.size := (by have h9 := hb5.size; simp at h9; omega); have HO5 : Hid (OwnG txC 1 9 w5 _ v5 (ws.map sOf)) := hO5 (by simp);have s0 : w5.cell? ⟨w.heap.size, 0, none⟩ = some (.int .i64 u.s) := BS5.out.cell 0; have s1 : w5.cell? ⟨w.heap.size, 1, none⟩ = some (.int .i64 u.c) := BS5.out.cell 1; have s2 : w5.cell? ⟨w.heap.size, 2, none⟩ = some (.int .i64 u.el) := BS5.out.cell 2; have s3 : w5.cell? ⟨w.heap.size, 3, none⟩ = some (.int .i64 u.b) := BS5.out.cell 3; have s4 : w5.cell? ⟨w.heap.size, 4, none⟩ = some (.int .i64 u.r) := BS5.out.cell 4; have s5 : w5.cell? ⟨w.heap.size, 5, none⟩ = some (.int .i64 u.d) := BS5.out.cell 5; have s6 : w5.cell? ⟨w.heap.size, 6, none⟩ = some (.slice ad nd cd) := BS5.out.cell 6; have s7 : w5.cell? ⟨w.heap.size, 7, none⟩ = some (.slice av ss.length cv) := BS5.out.cell 7; clear hb5 hO5)
          | (go_at_call 17; refine (HStp.out _ _ _ HO5.out).mono ?_; rintro e w6 ⟨rfl, hb6⟩; have BS6 : Hid (Blk w6 w.heap.size #[.int .i64 u.s, .int .i64 u.c, .int .i64 u.el, .int .i64 u.b, .int .i64 u.r, .int .i64 u.d, .slice ad nd cd, .slice av ss.length cv] 27) := BS5.out.below hb6 BS5.out.lt; have BR6 : Hid (Blk w6 (w.heap.size + 1) #[.int .i64 0, .int .i64 0, .int .i64 0, .int .i64 0, .int .i64 0, .int .i64 0, .slice none 0 0, .slice none 0 0] 27) := BR5.out.below hb6 BR5.out.lt; have HB6 : Hid (Below w.heap.size w w6) := HB5.out.trans (hb6.mono (by omega)); have hz6 : w.heap.size + 2 ≤ w6.heap.size := (by have h9 := hb6.size; omega); clear hb6 s0 s1 s2 s3 s4 s5 s6 s7; have t7 : ∀ ob : Obj, (w6.alloc ob).cell? ⟨w.heap.size, 7, none⟩ = some (.slice av ss.length cv) := (fun ob => (BS6.out.alloc ob).cell 7); have t7' : w6.cell? ⟨w.heap.size, 7, none⟩ = some (.slice av ss.length cv) := BS6.out.cell 7)
          | (have hBA := G3; refine gate_st 48 (.tmp 10) _ rfl ?_; clear hBA; refine wpl_store_last rfl 48 (.tmp 10) _ rfl (w6.heap.size) rfl rfl rfl sizeStP rfl rfl (by simp [Value.oneCell']) ?_; clear G3)
          | (have hBA := G1; refine gate_ld 27 (.tmp 3) rfl ?_; clear hBA; refine wpl_load_blk rfl 27 (.tmp 3) rfl w.heap.size rfl (BS6.out.alloc _) Tryz.underlying27 rfl sizeScP rfl ?_; clear G1)
          | (have hBA := G2; refine gate_st 27 (.tmp 6) _ rfl ?_; clear hBA; refine wpl_store_blk rfl 27 (.tmp 6) _ rfl (w.heap.size + 1) rfl rfl (BR6.out.alloc _) sizeScP rfl rfl (by simp [Value.oneCell']) ?_; clear G2))
      have cb := ((BR6.out.alloc (.cells #[.int .i64 qx.kd, .int .i64 qx.a, .int .i64 qx.b, .int .i64 qx.c, .int .i64 qx.cl, .int .i64 qx.sq, .int .i64 qx.op, .string qx.k, .string qx.v, .string qx.o] 48)).row #[.int .i64 u.s, .int .i64 u.c, .int .i64 u.el, .int .i64 u.b, .int .i64 u.r, .int .i64 u.d, .slice ad nd cd, .slice av ss.length cv]).cell
      refine bodyPost_ret (v := .tuple #[.agg #[.int .i64 u.s, .int .i64 u.c, .int .i64 u.el, .int .i64 u.b, .int .i64 u.r, .int .i64 u.d, .slice ad nd cd, .slice av ss.length cv], .int .i64 qc]) (by simp [results, Tryz.results9, go_sem, cb]) rfl ⟨_, rfl, ?_, grw_below _ (below_row (HB6.out.alloc (by omega) _) (by omega) _)⟩
      rw [HSS.out, if_neg hq0]
      exact HS.out.below (below_row (HB6.out.alloc (by omega) _) (by omega) _)

end Go.Proofs.YtanpindbhdeomaaGreatDoor
