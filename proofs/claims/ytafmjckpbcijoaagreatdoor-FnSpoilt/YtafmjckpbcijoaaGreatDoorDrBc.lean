/-
  spec.l1badCmd.
-/
import Derived.Test.YtafmjckpbcijoaaGreatDoorDrU
namespace Go.Proofs.YtafmjckpbcijoaaGreatDoor
open Go.RowKit
set_option linter.unusedVariables false
set_option linter.unusedSimpArgs false

structure CmdV where
  cl : Int
  sq : Int
  op : Int
  ky : ByteArray
  vl : ByteArray
  ol : ByteArray
def longV (n : Nat) (x : Int) : ByteArray := strOfNums (List.replicate n x)
/-- a command with one field spoilt, and where the draws stand -/
def badC (l : List Int) (k : Nat) (c : CmdV) : CmdV × Nat :=
  if pickV l k 9 = 0 then ({ c with op := ((pickV l (k + 1) 9 : Nat) : Int) - 2 }, k + 1 + 1)
  else if pickV l k 9 = 1 then ({ c with cl := ((pickV l (k + 1) 12 : Nat) : Int) - 2 }, k + 1 + 1)
  else if pickV l k 9 = 2 then ({ c with sq := 1073741824 + ((pickV l (k + 1) 3 : Nat) : Int) - 1 }, k + 1 + 1)
  else if pickV l k 9 = 3 then ({ c with sq := ((pickV l (k + 1) 3 : Nat) : Int) - 2 }, k + 1 + 1)
  else if pickV l k 9 = 4 then ({ c with ky := ⟨#[]⟩ }, k + 1)
  else if pickV l k 9 = 5 then ({ c with ky := longV (64 + pickV l (k + 1) 2) 107 }, k + 1 + 1)
  else if pickV l k 9 = 6 then ({ c with vl := longV (64 + pickV l (k + 1) 2) 118 }, k + 1 + 1)
  else if pickV l k 9 = 7 then ({ c with ol := longV (64 + pickV l (k + 1) 2) 111 }, k + 1 + 1)
  else (⟨((pickV l (k + 1) 2 : Nat) : Int), ((pickV l (k + 1 + 1) 2 : Nat) : Int), 0, longV (pickV l (k + 1 + 1 + 1) 2) 107, longV (pickV l (k + 1 + 1 + 1 + 1) 2) 118, longV (pickV l (k + 1 + 1 + 1 + 1 + 1) 2) 111⟩, k + 1 + 1 + 1 + 1 + 1 + 1)
theorem infoCmdB : (Tryz.prog.info? 33).map (·.size) = some 6 := by kernel_rfl
set_option maxHeartbeats 1000000 in
set_option maxRecDepth 100000 in
theorem l1long_zero (x : Int) (w : World) : Calls Tryz.prog 57 #[.int .i64 ((0 : Nat) : Int), .int .u8 x] w fun e w' => e = .returned (.string (longV 0 x)) ∧ Below w.heap.size w w' := by
  have hcv : ∀ u : World, (convert 22 9 (.slice (some ⟨w.heap.size, 0, none⟩) 0 0)).run Tryz.prog u = .ok (.string (strOfNums [])) u := fun u => run_convert_bytes_arg u 22 5 Tryz.underlying22 Tryz.underlying5 w.heap.size 0 0 0 [] rfl (fun i hi => by simp at hi) 9 Tryz.underlying9
  go_enter Tryz.func57, Tryz.ntmps57
  go_wp2
  go_loopw [5, 6] (fun o i wr => o = .slice (some ⟨w.heap.size, 0, none⟩) 0 0 ∧ i = .int .i64 ((0 : Nat) : Int) ∧ wr = w.alloc (.cells #[] 5)) (fun _ i _ => 0)
  case atStart => exact ⟨rfl, rfl, rfl⟩
  case round =>
    obtain ⟨rfl, rfl, rfl⟩ := hrel
    go_wp2
    go_ret
    exact ⟨rfl, (Below.refl _ _).alloc (Nat.le_refl _) _⟩
theorem l1long_gen (n : Nat) (x : Int) (hn : n ≤ 1000) (hc : 0 ≤ x ∧ x ≤ 255) (w : World) : Calls Tryz.prog 57 #[.int .i64 n, .int .u8 x] w fun e w' => e = .returned (.string (longV n x)) ∧ Below w.heap.size w w' := by
  rcases Nat.eq_zero_or_pos n with h | h
  · subst h; exact l1long_zero x w
  · exact l1long_any n x h hn hc w

set_option maxHeartbeats 16000000 in
set_option maxRecDepth 100000 in
theorem l1badCmd_any (g : Nat) (w : World) (v : Value) (l : List Int) (k : Nat) (c : CmdV) (hL : l.length ≤ 1048576) (hk : k ≤ 500000000) (h : Src w g v l k) :
    Calls Tryz.prog 31 #[.pointer (some ⟨g, 0, none⟩), .agg #[.int .i64 c.cl, .int .i64 c.sq, .int .i64 c.op, .string c.ky, .string c.vl, .string c.ol]] w fun r w' => r = .returned (.agg #[.int .i64 (badC l k c).1.cl, .int .i64 (badC l k c).1.sq, .int .i64 (badC l k c).1.op, .string (badC l k c).1.ky, .string (badC l k c).1.vl, .string (badC l k c).1.ol]) ∧ Src w' g v l (badC l k c).2 ∧ w.grownBy w' (some g) := by
  have hg0 : g < w.heap.size := h.lt
  have HD0 : Hid (Dr w ((w.alloc (.cells #[.int .i64 c.cl, .int .i64 c.sq, .int .i64 c.op, .string c.ky, .string c.vl, .string c.ol] 33)).alloc (.cells #[.int .i64 0, .int .i64 0, .int .i64 0, .string ⟨#[]⟩, .string ⟨#[]⟩, .string ⟨#[]⟩] 33)) g v l k [(w.heap.size, #[.int .i64 c.cl, .int .i64 c.sq, .int .i64 c.op, .string c.ky, .string c.vl, .string c.ol], 33), (w.heap.size + 1, #[.int .i64 0, .int .i64 0, .int .i64 0, .string ⟨#[]⟩, .string ⟨#[]⟩, .string ⟨#[]⟩], 33)]) := by
    have hX := ((Dr.start h).new #[.int .i64 c.cl, .int .i64 c.sq, .int .i64 c.op, .string c.ky, .string c.vl, .string c.ol] 33 (noU8_of rfl)).new #[.int .i64 0, .int .i64 0, .int .i64 0, .string ⟨#[]⟩, .string ⟨#[]⟩, .string ⟨#[]⟩] 33 (noU8_of rfl)
    have hY : Dr w ((w.alloc (.cells #[.int .i64 c.cl, .int .i64 c.sq, .int .i64 c.op, .string c.ky, .string c.vl, .string c.ol] 33)).alloc (.cells #[.int .i64 0, .int .i64 0, .int .i64 0, .string ⟨#[]⟩, .string ⟨#[]⟩, .string ⟨#[]⟩] 33)) g v l k [(w.heap.size, #[.int .i64 c.cl, .int .i64 c.sq, .int .i64 c.op, .string c.ky, .string c.vl, .string c.ol], 33), (w.heap.size + 1, #[.int .i64 0, .int .i64 0, .int .i64 0, .string ⟨#[]⟩, .string ⟨#[]⟩, .string ⟨#[]⟩], 33)] := by simpa using hX
    exact hY
  clear h
  have hB : badC l k c = badC l k c := rfl
  conv at hB => rhs; unfold badC
  have HB : Hid (badC l k c = _) := hB
  generalize badC l k c = R at *
  clear hB
  have b9 := pickV_lt l k 9 (by decide)
  obtain ⟨p, hp⟩ : ∃ p, p = pickV l k 9 := ⟨_, rfl⟩
  rw [← hp] at b9 HB
  have Hp : Hid (p = pickV l k 9) := hp
  clear hp
  have A1 : True := trivial
  rcases (show p = 0 ∨ p = 1 ∨ p = 2 ∨ p = 3 ∨ p = 4 ∨ p = 5 ∨ p = 6 ∨ p = 7 ∨ p = 8 by omega) with c0 | c0 | c0 | c0 | c0 | c0 | c0 | c0 | c0
  · subst c0
    rw [if_pos rfl] at HB
    have bq := pickV_lt l (k + 1) 9 (by decide)
    obtain ⟨q, hq⟩ : ∃ q, q = pickV l (k + 1) 9 := ⟨_, rfl⟩
    have Hq : Hid (q = pickV l (k + 1) 9) := hq
    rw [← hq] at bq HB
    clear hq
    go_enter Tryz.func31, Tryz.ntmps31
    go_wp2_with (first
      | (go_at_call 23; clear A1; refine (HD0.out.pick1 9 hL (by omega) (by decide) (by decide)).mono ?_; rintro e w1 ⟨rfl, hd_⟩; rw [← Hp.out]; have HDw1 : Hid (Dr w w1 g v l (k + 1) [(w.heap.size, #[.int .i64 c.cl, .int .i64 c.sq, .int .i64 c.op, .string c.ky, .string c.vl, .string c.ol], 33), (w.heap.size + 1, #[.int .i64 0, .int .i64 0, .int .i64 0, .string ⟨#[]⟩, .string ⟨#[]⟩, .string ⟨#[]⟩], 33)]) := hd_; have cew1 := (hd_.blk 0 rfl).cell; have few1 := (hd_.blk 0 rfl).free; clear hd_)
      | (go_at_call 23; refine (HDw1.out.pick1 9 hL (by omega) (by decide) (by decide)).mono ?_; rintro e w2 ⟨rfl, hd_⟩; rw [← Hq.out]; have HDw2 : Hid (Dr w w2 g v l (k + 1 + 1) [(w.heap.size, #[.int .i64 c.cl, .int .i64 c.sq, .int .i64 c.op, .string c.ky, .string c.vl, .string c.ol], 33), (w.heap.size + 1, #[.int .i64 0, .int .i64 0, .int .i64 0, .string ⟨#[]⟩, .string ⟨#[]⟩, .string ⟨#[]⟩], 33)]) := hd_; have cew2 := (hd_.blk 0 rfl).cell; have few2 := (hd_.blk 0 rfl).free; have HDx : Hid (Dr w (w2.setCell ⟨w.heap.size, 2, none⟩ (.int .i64 ((q : Int) - 2))) g v l (k + 1 + 1) [(w.heap.size, #[.int .i64 c.cl, .int .i64 c.sq, .int .i64 ((q : Int) - 2), .string c.ky, .string c.vl, .string c.ol], 33), (w.heap.size + 1, #[.int .i64 0, .int .i64 0, .int .i64 0, .string ⟨#[]⟩, .string ⟨#[]⟩, .string ⟨#[]⟩], 33)]) := hd_.set 0 rfl 2 (by simp) (.int .i64 ((q : Int) - 2)) rfl; clear hd_)
      | (have hBA := HDx; refine gate_ld 33 (.tmp 3) rfl ?_; clear hBA; refine wpl_load_blk rfl 33 (.tmp 3) rfl (w.heap.size) rfl (HDx.out.blk 0 rfl) Tryz.underlying33 rfl infoCmdB rfl ?_)
      | (have hBA := HDx; refine gate_st 33 (.tmp 4) _ rfl ?_; clear hBA; refine wpl_store_blk rfl 33 (.tmp 4) _ rfl (w.heap.size + 1) rfl rfl (HDx.out.blk 1 rfl) infoCmdB rfl rfl (by simp [Value.oneCell']) ?_))
    have hR := HDx.out.row 1 rfl #[.int .i64 c.cl, .int .i64 c.sq, .int .i64 ((q : Int) - 2), .string c.ky, .string c.vl, .string c.ol] (noU8_of rfl)
    rw [HB.out]
    exact bodyPost_ret (results_blk Tryz.results31 rfl (hR.blk 1 rfl) Tryz.underlying33 rfl infoCmdB rfl) rfl ⟨rfl, hR.src, hR.grown⟩
  · subst c0
    rw [if_neg (by decide), if_pos rfl] at HB
    have bq := pickV_lt l (k + 1) 12 (by decide)
    obtain ⟨q, hq⟩ : ∃ q, q = pickV l (k + 1) 12 := ⟨_, rfl⟩
    have Hq : Hid (q = pickV l (k + 1) 12) := hq
    rw [← hq] at bq HB
    clear hq
    go_enter Tryz.func31, Tryz.ntmps31
    go_wp2_with (first
      | (go_at_call 23; clear A1; refine (HD0.out.pick1 9 hL (by omega) (by decide) (by decide)).mono ?_; rintro e w1 ⟨rfl, hd_⟩; rw [← Hp.out]; have HDw1 : Hid (Dr w w1 g v l (k + 1) [(w.heap.size, #[.int .i64 c.cl, .int .i64 c.sq, .int .i64 c.op, .string c.ky, .string c.vl, .string c.ol], 33), (w.heap.size + 1, #[.int .i64 0, .int .i64 0, .int .i64 0, .string ⟨#[]⟩, .string ⟨#[]⟩, .string ⟨#[]⟩], 33)]) := hd_; have cew1 := (hd_.blk 0 rfl).cell; have few1 := (hd_.blk 0 rfl).free; clear hd_)
      | (go_at_call 23; refine (HDw1.out.pick1 12 hL (by omega) (by decide) (by decide)).mono ?_; rintro e w2 ⟨rfl, hd_⟩; rw [← Hq.out]; have HDw2 : Hid (Dr w w2 g v l (k + 1 + 1) [(w.heap.size, #[.int .i64 c.cl, .int .i64 c.sq, .int .i64 c.op, .string c.ky, .string c.vl, .string c.ol], 33), (w.heap.size + 1, #[.int .i64 0, .int .i64 0, .int .i64 0, .string ⟨#[]⟩, .string ⟨#[]⟩, .string ⟨#[]⟩], 33)]) := hd_; have cew2 := (hd_.blk 0 rfl).cell; have few2 := (hd_.blk 0 rfl).free; have HDx : Hid (Dr w (w2.setCell ⟨w.heap.size, 0, none⟩ (.int .i64 ((q : Int) - 2))) g v l (k + 1 + 1) [(w.heap.size, #[.int .i64 ((q : Int) - 2), .int .i64 c.sq, .int .i64 c.op, .string c.ky, .string c.vl, .string c.ol], 33), (w.heap.size + 1, #[.int .i64 0, .int .i64 0, .int .i64 0, .string ⟨#[]⟩, .string ⟨#[]⟩, .string ⟨#[]⟩], 33)]) := hd_.set 0 rfl 0 (by simp) (.int .i64 ((q : Int) - 2)) rfl; clear hd_)
      | (have hBA := HDx; refine gate_ld 33 (.tmp 3) rfl ?_; clear hBA; refine wpl_load_blk rfl 33 (.tmp 3) rfl (w.heap.size) rfl (HDx.out.blk 0 rfl) Tryz.underlying33 rfl infoCmdB rfl ?_)
      | (have hBA := HDx; refine gate_st 33 (.tmp 4) _ rfl ?_; clear hBA; refine wpl_store_blk rfl 33 (.tmp 4) _ rfl (w.heap.size + 1) rfl rfl (HDx.out.blk 1 rfl) infoCmdB rfl rfl (by simp [Value.oneCell']) ?_))
    have hR := HDx.out.row 1 rfl #[.int .i64 ((q : Int) - 2), .int .i64 c.sq, .int .i64 c.op, .string c.ky, .string c.vl, .string c.ol] (noU8_of rfl)
    rw [HB.out]
    exact bodyPost_ret (results_blk Tryz.results31 rfl (hR.blk 1 rfl) Tryz.underlying33 rfl infoCmdB rfl) rfl ⟨rfl, hR.src, hR.grown⟩
  · subst c0
    rw [if_neg (by decide), if_neg (by decide), if_pos rfl] at HB
    have bq := pickV_lt l (k + 1) 3 (by decide)
    obtain ⟨q, hq⟩ : ∃ q, q = pickV l (k + 1) 3 := ⟨_, rfl⟩
    have Hq : Hid (q = pickV l (k + 1) 3) := hq
    rw [← hq] at bq HB
    clear hq
    go_enter Tryz.func31, Tryz.ntmps31
    go_wp2_with (first
      | (go_at_call 23; clear A1; refine (HD0.out.pick1 9 hL (by omega) (by decide) (by decide)).mono ?_; rintro e w1 ⟨rfl, hd_⟩; rw [← Hp.out]; have HDw1 : Hid (Dr w w1 g v l (k + 1) [(w.heap.size, #[.int .i64 c.cl, .int .i64 c.sq, .int .i64 c.op, .string c.ky, .string c.vl, .string c.ol], 33), (w.heap.size + 1, #[.int .i64 0, .int .i64 0, .int .i64 0, .string ⟨#[]⟩, .string ⟨#[]⟩, .string ⟨#[]⟩], 33)]) := hd_; have cew1 := (hd_.blk 0 rfl).cell; have few1 := (hd_.blk 0 rfl).free; clear hd_)
      | (go_at_call 23; refine (HDw1.out.pick1 3 hL (by omega) (by decide) (by decide)).mono ?_; rintro e w2 ⟨rfl, hd_⟩; rw [← Hq.out]; have HDw2 : Hid (Dr w w2 g v l (k + 1 + 1) [(w.heap.size, #[.int .i64 c.cl, .int .i64 c.sq, .int .i64 c.op, .string c.ky, .string c.vl, .string c.ol], 33), (w.heap.size + 1, #[.int .i64 0, .int .i64 0, .int .i64 0, .string ⟨#[]⟩, .string ⟨#[]⟩, .string ⟨#[]⟩], 33)]) := hd_; have cew2 := (hd_.blk 0 rfl).cell; have few2 := (hd_.blk 0 rfl).free; have HDx : Hid (Dr w (w2.setCell ⟨w.heap.size, 1, none⟩ (.int .i64 (1073741824 + (q : Int) - 1))) g v l (k + 1 + 1) [(w.heap.size, #[.int .i64 c.cl, .int .i64 (1073741824 + (q : Int) - 1), .int .i64 c.op, .string c.ky, .string c.vl, .string c.ol], 33), (w.heap.size + 1, #[.int .i64 0, .int .i64 0, .int .i64 0, .string ⟨#[]⟩, .string ⟨#[]⟩, .string ⟨#[]⟩], 33)]) := hd_.set 0 rfl 1 (by simp) (.int .i64 (1073741824 + (q : Int) - 1)) rfl; clear hd_)
      | (have hBA := HDx; refine gate_ld 33 (.tmp 3) rfl ?_; clear hBA; refine wpl_load_blk rfl 33 (.tmp 3) rfl (w.heap.size) rfl (HDx.out.blk 0 rfl) Tryz.underlying33 rfl infoCmdB rfl ?_)
      | (have hBA := HDx; refine gate_st 33 (.tmp 4) _ rfl ?_; clear hBA; refine wpl_store_blk rfl 33 (.tmp 4) _ rfl (w.heap.size + 1) rfl rfl (HDx.out.blk 1 rfl) infoCmdB rfl rfl (by simp [Value.oneCell']) ?_))
    have hR := HDx.out.row 1 rfl #[.int .i64 c.cl, .int .i64 (1073741824 + (q : Int) - 1), .int .i64 c.op, .string c.ky, .string c.vl, .string c.ol] (noU8_of rfl)
    rw [HB.out]
    exact bodyPost_ret (results_blk Tryz.results31 rfl (hR.blk 1 rfl) Tryz.underlying33 rfl infoCmdB rfl) rfl ⟨rfl, hR.src, hR.grown⟩
  · subst c0
    rw [if_neg (by decide), if_neg (by decide), if_neg (by decide), if_pos rfl] at HB
    have bq := pickV_lt l (k + 1) 3 (by decide)
    obtain ⟨q, hq⟩ : ∃ q, q = pickV l (k + 1) 3 := ⟨_, rfl⟩
    have Hq : Hid (q = pickV l (k + 1) 3) := hq
    rw [← hq] at bq HB
    clear hq
    go_enter Tryz.func31, Tryz.ntmps31
    go_wp2_with (first
      | (go_at_call 23; clear A1; refine (HD0.out.pick1 9 hL (by omega) (by decide) (by decide)).mono ?_; rintro e w1 ⟨rfl, hd_⟩; rw [← Hp.out]; have HDw1 : Hid (Dr w w1 g v l (k + 1) [(w.heap.size, #[.int .i64 c.cl, .int .i64 c.sq, .int .i64 c.op, .string c.ky, .string c.vl, .string c.ol], 33), (w.heap.size + 1, #[.int .i64 0, .int .i64 0, .int .i64 0, .string ⟨#[]⟩, .string ⟨#[]⟩, .string ⟨#[]⟩], 33)]) := hd_; have cew1 := (hd_.blk 0 rfl).cell; have few1 := (hd_.blk 0 rfl).free; clear hd_)
      | (go_at_call 23; refine (HDw1.out.pick1 3 hL (by omega) (by decide) (by decide)).mono ?_; rintro e w2 ⟨rfl, hd_⟩; rw [← Hq.out]; have HDw2 : Hid (Dr w w2 g v l (k + 1 + 1) [(w.heap.size, #[.int .i64 c.cl, .int .i64 c.sq, .int .i64 c.op, .string c.ky, .string c.vl, .string c.ol], 33), (w.heap.size + 1, #[.int .i64 0, .int .i64 0, .int .i64 0, .string ⟨#[]⟩, .string ⟨#[]⟩, .string ⟨#[]⟩], 33)]) := hd_; have cew2 := (hd_.blk 0 rfl).cell; have few2 := (hd_.blk 0 rfl).free; have HDx : Hid (Dr w (w2.setCell ⟨w.heap.size, 1, none⟩ (.int .i64 ((q : Int) - 2))) g v l (k + 1 + 1) [(w.heap.size, #[.int .i64 c.cl, .int .i64 ((q : Int) - 2), .int .i64 c.op, .string c.ky, .string c.vl, .string c.ol], 33), (w.heap.size + 1, #[.int .i64 0, .int .i64 0, .int .i64 0, .string ⟨#[]⟩, .string ⟨#[]⟩, .string ⟨#[]⟩], 33)]) := hd_.set 0 rfl 1 (by simp) (.int .i64 ((q : Int) - 2)) rfl; clear hd_)
      | (have hBA := HDx; refine gate_ld 33 (.tmp 3) rfl ?_; clear hBA; refine wpl_load_blk rfl 33 (.tmp 3) rfl (w.heap.size) rfl (HDx.out.blk 0 rfl) Tryz.underlying33 rfl infoCmdB rfl ?_)
      | (have hBA := HDx; refine gate_st 33 (.tmp 4) _ rfl ?_; clear hBA; refine wpl_store_blk rfl 33 (.tmp 4) _ rfl (w.heap.size + 1) rfl rfl (HDx.out.blk 1 rfl) infoCmdB rfl rfl (by simp [Value.oneCell']) ?_))
    have hR := HDx.out.row 1 rfl #[.int .i64 c.cl, .int .i64 ((q : Int) - 2), .int .i64 c.op, .string c.ky, .string c.vl, .string c.ol] (noU8_of rfl)
    rw [HB.out]
    exact bodyPost_ret (results_blk Tryz.results31 rfl (hR.blk 1 rfl) Tryz.underlying33 rfl infoCmdB rfl) rfl ⟨rfl, hR.src, hR.grown⟩
  · subst c0
    rw [if_neg (by decide), if_neg (by decide), if_neg (by decide), if_neg (by decide), if_pos rfl] at HB
    go_enter Tryz.func31, Tryz.ntmps31
    go_wp2_with (first
      | (go_at_call 23; clear A1; refine (HD0.out.pick1 9 hL (by omega) (by decide) (by decide)).mono ?_; rintro e w1 ⟨rfl, hd_⟩; rw [← Hp.out]; have HDw1 : Hid (Dr w w1 g v l (k + 1) [(w.heap.size, #[.int .i64 c.cl, .int .i64 c.sq, .int .i64 c.op, .string c.ky, .string c.vl, .string c.ol], 33), (w.heap.size + 1, #[.int .i64 0, .int .i64 0, .int .i64 0, .string ⟨#[]⟩, .string ⟨#[]⟩, .string ⟨#[]⟩], 33)]) := hd_; have cew1 := (hd_.blk 0 rfl).cell; have few1 := (hd_.blk 0 rfl).free; have HDx : Hid (Dr w (w1.setCell ⟨w.heap.size, 3, none⟩ (.string ⟨#[]⟩)) g v l (k + 1) [(w.heap.size, #[.int .i64 c.cl, .int .i64 c.sq, .int .i64 c.op, .string ⟨#[]⟩, .string c.vl, .string c.ol], 33), (w.heap.size + 1, #[.int .i64 0, .int .i64 0, .int .i64 0, .string ⟨#[]⟩, .string ⟨#[]⟩, .string ⟨#[]⟩], 33)]) := hd_.set 0 rfl 3 (by simp) (.string ⟨#[]⟩) rfl; clear hd_)
      | (have hBA := HDx; refine gate_ld 33 (.tmp 3) rfl ?_; clear hBA; refine wpl_load_blk rfl 33 (.tmp 3) rfl (w.heap.size) rfl (HDx.out.blk 0 rfl) Tryz.underlying33 rfl infoCmdB rfl ?_)
      | (have hBA := HDx; refine gate_st 33 (.tmp 4) _ rfl ?_; clear hBA; refine wpl_store_blk rfl 33 (.tmp 4) _ rfl (w.heap.size + 1) rfl rfl (HDx.out.blk 1 rfl) infoCmdB rfl rfl (by simp [Value.oneCell']) ?_))
    have hR := HDx.out.row 1 rfl #[.int .i64 c.cl, .int .i64 c.sq, .int .i64 c.op, .string ⟨#[]⟩, .string c.vl, .string c.ol] (noU8_of rfl)
    rw [HB.out]
    exact bodyPost_ret (results_blk Tryz.results31 rfl (hR.blk 1 rfl) Tryz.underlying33 rfl infoCmdB rfl) rfl ⟨rfl, hR.src, hR.grown⟩
  · subst c0
    rw [if_neg (by decide), if_neg (by decide), if_neg (by decide), if_neg (by decide), if_neg (by decide), if_pos rfl] at HB
    have bq := pickV_lt l (k + 1) 2 (by decide)
    obtain ⟨q, hq⟩ : ∃ q, q = pickV l (k + 1) 2 := ⟨_, rfl⟩
    have Hq : Hid (q = pickV l (k + 1) 2) := hq
    rw [← hq] at bq HB
    clear hq
    have HLg : Hid (∀ u : World, Calls Tryz.prog 57 #[.int .i64 (64 + (q : Int)), .int .u8 107] u fun e w' => e = .returned (.string (longV (64 + q) 107)) ∧ Below u.heap.size u w') := fun u => l1long_gen (64 + q) 107 (by omega) (by decide) u
    generalize longV (64 + q) 107 = LG at *
    go_enter Tryz.func31, Tryz.ntmps31
    go_wp2_with (first
      | (go_at_call 23; clear A1; refine (HD0.out.pick1 9 hL (by omega) (by decide) (by decide)).mono ?_; rintro e w1 ⟨rfl, hd_⟩; rw [← Hp.out]; have HDw1 : Hid (Dr w w1 g v l (k + 1) [(w.heap.size, #[.int .i64 c.cl, .int .i64 c.sq, .int .i64 c.op, .string c.ky, .string c.vl, .string c.ol], 33), (w.heap.size + 1, #[.int .i64 0, .int .i64 0, .int .i64 0, .string ⟨#[]⟩, .string ⟨#[]⟩, .string ⟨#[]⟩], 33)]) := hd_; have cew1 := (hd_.blk 0 rfl).cell; have few1 := (hd_.blk 0 rfl).free; clear hd_)
      | (go_at_call 23; refine (HDw1.out.pick1 2 hL (by omega) (by decide) (by decide)).mono ?_; rintro e w2 ⟨rfl, hd_⟩; rw [← Hq.out]; have HDw2 : Hid (Dr w w2 g v l (k + 1 + 1) [(w.heap.size, #[.int .i64 c.cl, .int .i64 c.sq, .int .i64 c.op, .string c.ky, .string c.vl, .string c.ol], 33), (w.heap.size + 1, #[.int .i64 0, .int .i64 0, .int .i64 0, .string ⟨#[]⟩, .string ⟨#[]⟩, .string ⟨#[]⟩], 33)]) := hd_; have cew2 := (hd_.blk 0 rfl).cell; have few2 := (hd_.blk 0 rfl).free; clear hd_)
      | (go_at_call 57; refine (HLg.out _).mono ?_; rintro e w3 ⟨rfl, hb3⟩; have HD3 : Hid (Dr w w3 g v l (k + 1 + 1) [(w.heap.size, #[.int .i64 c.cl, .int .i64 c.sq, .int .i64 c.op, .string c.ky, .string c.vl, .string c.ol], 33), (w.heap.size + 1, #[.int .i64 0, .int .i64 0, .int .i64 0, .string ⟨#[]⟩, .string ⟨#[]⟩, .string ⟨#[]⟩], 33)]) := HDw2.out.below hb3; have ce3 := (HD3.out.blk 0 rfl).cell; have fe3 := (HD3.out.blk 0 rfl).free; have HDx : Hid (Dr w (w3.setCell ⟨w.heap.size, 3, none⟩ (.string LG)) g v l (k + 1 + 1) [(w.heap.size, #[.int .i64 c.cl, .int .i64 c.sq, .int .i64 c.op, .string LG, .string c.vl, .string c.ol], 33), (w.heap.size + 1, #[.int .i64 0, .int .i64 0, .int .i64 0, .string ⟨#[]⟩, .string ⟨#[]⟩, .string ⟨#[]⟩], 33)]) := HD3.out.set 0 rfl 3 (by simp) (.string LG) rfl; clear hb3)
      | (have hBA := HDx; refine gate_ld 33 (.tmp 3) rfl ?_; clear hBA; refine wpl_load_blk rfl 33 (.tmp 3) rfl (w.heap.size) rfl (HDx.out.blk 0 rfl) Tryz.underlying33 rfl infoCmdB rfl ?_)
      | (have hBA := HDx; refine gate_st 33 (.tmp 4) _ rfl ?_; clear hBA; refine wpl_store_blk rfl 33 (.tmp 4) _ rfl (w.heap.size + 1) rfl rfl (HDx.out.blk 1 rfl) infoCmdB rfl rfl (by simp [Value.oneCell']) ?_))
    have hR := HDx.out.row 1 rfl #[.int .i64 c.cl, .int .i64 c.sq, .int .i64 c.op, .string LG, .string c.vl, .string c.ol] (noU8_of rfl)
    rw [HB.out]
    exact bodyPost_ret (results_blk Tryz.results31 rfl (hR.blk 1 rfl) Tryz.underlying33 rfl infoCmdB rfl) rfl ⟨rfl, hR.src, hR.grown⟩
  · subst c0
    rw [if_neg (by decide), if_neg (by decide), if_neg (by decide), if_neg (by decide), if_neg (by decide), if_neg (by decide), if_pos rfl] at HB
    have bq := pickV_lt l (k + 1) 2 (by decide)
    obtain ⟨q, hq⟩ : ∃ q, q = pickV l (k + 1) 2 := ⟨_, rfl⟩
    have Hq : Hid (q = pickV l (k + 1) 2) := hq
    rw [← hq] at bq HB
    clear hq
    have HLg : Hid (∀ u : World, Calls Tryz.prog 57 #[.int .i64 (64 + (q : Int)), .int .u8 118] u fun e w' => e = .returned (.string (longV (64 + q) 118)) ∧ Below u.heap.size u w') := fun u => l1long_gen (64 + q) 118 (by omega) (by decide) u
    generalize longV (64 + q) 118 = LG at *
    go_enter Tryz.func31, Tryz.ntmps31
    go_wp2_with (first
      | (go_at_call 23; clear A1; refine (HD0.out.pick1 9 hL (by omega) (by decide) (by decide)).mono ?_; rintro e w1 ⟨rfl, hd_⟩; rw [← Hp.out]; have HDw1 : Hid (Dr w w1 g v l (k + 1) [(w.heap.size, #[.int .i64 c.cl, .int .i64 c.sq, .int .i64 c.op, .string c.ky, .string c.vl, .string c.ol], 33), (w.heap.size + 1, #[.int .i64 0, .int .i64 0, .int .i64 0, .string ⟨#[]⟩, .string ⟨#[]⟩, .string ⟨#[]⟩], 33)]) := hd_; have cew1 := (hd_.blk 0 rfl).cell; have few1 := (hd_.blk 0 rfl).free; clear hd_)
      | (go_at_call 23; refine (HDw1.out.pick1 2 hL (by omega) (by decide) (by decide)).mono ?_; rintro e w2 ⟨rfl, hd_⟩; rw [← Hq.out]; have HDw2 : Hid (Dr w w2 g v l (k + 1 + 1) [(w.heap.size, #[.int .i64 c.cl, .int .i64 c.sq, .int .i64 c.op, .string c.ky, .string c.vl, .string c.ol], 33), (w.heap.size + 1, #[.int .i64 0, .int .i64 0, .int .i64 0, .string ⟨#[]⟩, .string ⟨#[]⟩, .string ⟨#[]⟩], 33)]) := hd_; have cew2 := (hd_.blk 0 rfl).cell; have few2 := (hd_.blk 0 rfl).free; clear hd_)
      | (go_at_call 57; refine (HLg.out _).mono ?_; rintro e w3 ⟨rfl, hb3⟩; have HD3 : Hid (Dr w w3 g v l (k + 1 + 1) [(w.heap.size, #[.int .i64 c.cl, .int .i64 c.sq, .int .i64 c.op, .string c.ky, .string c.vl, .string c.ol], 33), (w.heap.size + 1, #[.int .i64 0, .int .i64 0, .int .i64 0, .string ⟨#[]⟩, .string ⟨#[]⟩, .string ⟨#[]⟩], 33)]) := HDw2.out.below hb3; have ce3 := (HD3.out.blk 0 rfl).cell; have fe3 := (HD3.out.blk 0 rfl).free; have HDx : Hid (Dr w (w3.setCell ⟨w.heap.size, 4, none⟩ (.string LG)) g v l (k + 1 + 1) [(w.heap.size, #[.int .i64 c.cl, .int .i64 c.sq, .int .i64 c.op, .string c.ky, .string LG, .string c.ol], 33), (w.heap.size + 1, #[.int .i64 0, .int .i64 0, .int .i64 0, .string ⟨#[]⟩, .string ⟨#[]⟩, .string ⟨#[]⟩], 33)]) := HD3.out.set 0 rfl 4 (by simp) (.string LG) rfl; clear hb3)
      | (have hBA := HDx; refine gate_ld 33 (.tmp 3) rfl ?_; clear hBA; refine wpl_load_blk rfl 33 (.tmp 3) rfl (w.heap.size) rfl (HDx.out.blk 0 rfl) Tryz.underlying33 rfl infoCmdB rfl ?_)
      | (have hBA := HDx; refine gate_st 33 (.tmp 4) _ rfl ?_; clear hBA; refine wpl_store_blk rfl 33 (.tmp 4) _ rfl (w.heap.size + 1) rfl rfl (HDx.out.blk 1 rfl) infoCmdB rfl rfl (by simp [Value.oneCell']) ?_))
    have hR := HDx.out.row 1 rfl #[.int .i64 c.cl, .int .i64 c.sq, .int .i64 c.op, .string c.ky, .string LG, .string c.ol] (noU8_of rfl)
    rw [HB.out]
    exact bodyPost_ret (results_blk Tryz.results31 rfl (hR.blk 1 rfl) Tryz.underlying33 rfl infoCmdB rfl) rfl ⟨rfl, hR.src, hR.grown⟩
  · subst c0
    rw [if_neg (by decide), if_neg (by decide), if_neg (by decide), if_neg (by decide), if_neg (by decide), if_neg (by decide), if_neg (by decide), if_pos rfl] at HB
    have bq := pickV_lt l (k + 1) 2 (by decide)
    obtain ⟨q, hq⟩ : ∃ q, q = pickV l (k + 1) 2 := ⟨_, rfl⟩
    have Hq : Hid (q = pickV l (k + 1) 2) := hq
    rw [← hq] at bq HB
    clear hq
    have HLg : Hid (∀ u : World, Calls Tryz.prog 57 #[.int .i64 (64 + (q : Int)), .int .u8 111] u fun e w' => e = .returned (.string (longV (64 + q) 111)) ∧ Below u.heap.size u w') := fun u => l1long_gen (64 + q) 111 (by omega) (by decide) u
    generalize longV (64 + q) 111 = LG at *
    go_enter Tryz.func31, Tryz.ntmps31
    go_wp2_with (first
      | (go_at_call 23; clear A1; refine (HD0.out.pick1 9 hL (by omega) (by decide) (by decide)).mono ?_; rintro e w1 ⟨rfl, hd_⟩; rw [← Hp.out]; have HDw1 : Hid (Dr w w1 g v l (k + 1) [(w.heap.size, #[.int .i64 c.cl, .int .i64 c.sq, .int .i64 c.op, .string c.ky, .string c.vl, .string c.ol], 33), (w.heap.size + 1, #[.int .i64 0, .int .i64 0, .int .i64 0, .string ⟨#[]⟩, .string ⟨#[]⟩, .string ⟨#[]⟩], 33)]) := hd_; have cew1 := (hd_.blk 0 rfl).cell; have few1 := (hd_.blk 0 rfl).free; clear hd_)
      | (go_at_call 23; refine (HDw1.out.pick1 2 hL (by omega) (by decide) (by decide)).mono ?_; rintro e w2 ⟨rfl, hd_⟩; rw [← Hq.out]; have HDw2 : Hid (Dr w w2 g v l (k + 1 + 1) [(w.heap.size, #[.int .i64 c.cl, .int .i64 c.sq, .int .i64 c.op, .string c.ky, .string c.vl, .string c.ol], 33), (w.heap.size + 1, #[.int .i64 0, .int .i64 0, .int .i64 0, .string ⟨#[]⟩, .string ⟨#[]⟩, .string ⟨#[]⟩], 33)]) := hd_; have cew2 := (hd_.blk 0 rfl).cell; have few2 := (hd_.blk 0 rfl).free; clear hd_)
      | (go_at_call 57; refine (HLg.out _).mono ?_; rintro e w3 ⟨rfl, hb3⟩; have HD3 : Hid (Dr w w3 g v l (k + 1 + 1) [(w.heap.size, #[.int .i64 c.cl, .int .i64 c.sq, .int .i64 c.op, .string c.ky, .string c.vl, .string c.ol], 33), (w.heap.size + 1, #[.int .i64 0, .int .i64 0, .int .i64 0, .string ⟨#[]⟩, .string ⟨#[]⟩, .string ⟨#[]⟩], 33)]) := HDw2.out.below hb3; have ce3 := (HD3.out.blk 0 rfl).cell; have fe3 := (HD3.out.blk 0 rfl).free; have HDx : Hid (Dr w (w3.setCell ⟨w.heap.size, 5, none⟩ (.string LG)) g v l (k + 1 + 1) [(w.heap.size, #[.int .i64 c.cl, .int .i64 c.sq, .int .i64 c.op, .string c.ky, .string c.vl, .string LG], 33), (w.heap.size + 1, #[.int .i64 0, .int .i64 0, .int .i64 0, .string ⟨#[]⟩, .string ⟨#[]⟩, .string ⟨#[]⟩], 33)]) := HD3.out.set 0 rfl 5 (by simp) (.string LG) rfl; clear hb3)
      | (have hBA := HDx; refine gate_ld 33 (.tmp 3) rfl ?_; clear hBA; refine wpl_load_blk rfl 33 (.tmp 3) rfl (w.heap.size) rfl (HDx.out.blk 0 rfl) Tryz.underlying33 rfl infoCmdB rfl ?_)
      | (have hBA := HDx; refine gate_st 33 (.tmp 4) _ rfl ?_; clear hBA; refine wpl_store_blk rfl 33 (.tmp 4) _ rfl (w.heap.size + 1) rfl rfl (HDx.out.blk 1 rfl) infoCmdB rfl rfl (by simp [Value.oneCell']) ?_))
    have hR := HDx.out.row 1 rfl #[.int .i64 c.cl, .int .i64 c.sq, .int .i64 c.op, .string c.ky, .string c.vl, .string LG] (noU8_of rfl)
    rw [HB.out]
    exact bodyPost_ret (results_blk Tryz.results31 rfl (hR.blk 1 rfl) Tryz.underlying33 rfl infoCmdB rfl) rfl ⟨rfl, hR.src, hR.grown⟩
  · subst c0
    rw [if_neg (by decide), if_neg (by decide), if_neg (by decide), if_neg (by decide), if_neg (by decide), if_neg (by decide), if_neg (by decide), if_neg (by decide)] at HB
    have bqa := pickV_lt l (k + 1) 2 (by decide)
    obtain ⟨qa, hqa⟩ : ∃ qa, qa = pickV l (k + 1) 2 := ⟨_, rfl⟩
    have Hqa : Hid (qa = pickV l (k + 1) 2) := hqa
    rw [← hqa] at bqa HB
    clear hqa
    have Aqa : True := trivial
    have bqb := pickV_lt l (k + 1 + 1) 2 (by decide)
    obtain ⟨qb, hqb⟩ : ∃ qb, qb = pickV l (k + 1 + 1) 2 := ⟨_, rfl⟩
    have Hqb : Hid (qb = pickV l (k + 1 + 1) 2) := hqb
    rw [← hqb] at bqb HB
    clear hqb
    have Aqb : True := trivial
    have bqc := pickV_lt l (k + 1 + 1 + 1) 2 (by decide)
    obtain ⟨qc, hqc⟩ : ∃ qc, qc = pickV l (k + 1 + 1 + 1) 2 := ⟨_, rfl⟩
    have Hqc : Hid (qc = pickV l (k + 1 + 1 + 1) 2) := hqc
    rw [← hqc] at bqc HB
    clear hqc
    have Aqc : True := trivial
    have bqd := pickV_lt l (k + 1 + 1 + 1 + 1) 2 (by decide)
    obtain ⟨qd, hqd⟩ : ∃ qd, qd = pickV l (k + 1 + 1 + 1 + 1) 2 := ⟨_, rfl⟩
    have Hqd : Hid (qd = pickV l (k + 1 + 1 + 1 + 1) 2) := hqd
    rw [← hqd] at bqd HB
    clear hqd
    have Aqd : True := trivial
    have bqe := pickV_lt l (k + 1 + 1 + 1 + 1 + 1) 2 (by decide)
    obtain ⟨qe, hqe⟩ : ∃ qe, qe = pickV l (k + 1 + 1 + 1 + 1 + 1) 2 := ⟨_, rfl⟩
    have Hqe : Hid (qe = pickV l (k + 1 + 1 + 1 + 1 + 1) 2) := hqe
    rw [← hqe] at bqe HB
    clear hqe
    have Aqe : True := trivial
    have HLqc : Hid (∀ u : World, Calls Tryz.prog 57 #[.int .i64 (qc : Int), .int .u8 107] u fun e w' => e = .returned (.string (longV qc 107)) ∧ Below u.heap.size u w') := fun u => l1long_gen qc 107 (by omega) (by decide) u
    generalize longV qc 107 = LC at *
    have HLqd : Hid (∀ u : World, Calls Tryz.prog 57 #[.int .i64 (qd : Int), .int .u8 118] u fun e w' => e = .returned (.string (longV qd 118)) ∧ Below u.heap.size u w') := fun u => l1long_gen qd 118 (by omega) (by decide) u
    generalize longV qd 118 = LD at *
    have HLqe : Hid (∀ u : World, Calls Tryz.prog 57 #[.int .i64 (qe : Int), .int .u8 111] u fun e w' => e = .returned (.string (longV qe 111)) ∧ Below u.heap.size u w') := fun u => l1long_gen qe 111 (by omega) (by decide) u
    generalize longV qe 111 = LE at *
    go_enter Tryz.func31, Tryz.ntmps31
    go_wp2_with (first
      | (go_at_call 23; clear A1; refine (HD0.out.pick1 9 hL (by omega) (by decide) (by decide)).mono ?_; rintro e w1 ⟨rfl, hd_⟩; rw [← Hp.out]; have HDw1 : Hid (Dr w w1 g v l (k + 1) [(w.heap.size, #[.int .i64 c.cl, .int .i64 c.sq, .int .i64 c.op, .string c.ky, .string c.vl, .string c.ol], 33), (w.heap.size + 1, #[.int .i64 0, .int .i64 0, .int .i64 0, .string ⟨#[]⟩, .string ⟨#[]⟩, .string ⟨#[]⟩], 33)]) := hd_; have cew1 := (hd_.blk 0 rfl).cell; have few1 := (hd_.blk 0 rfl).free; clear hd_)
      | (go_at_call 23; clear Aqa; refine (HDw1.out.pick1 2 hL (by omega) (by decide) (by decide)).mono ?_; rintro e w2 ⟨rfl, hd_⟩; rw [← Hqa.out]; have HDw2 : Hid (Dr w w2 g v l (k + 1 + 1) [(w.heap.size, #[.int .i64 c.cl, .int .i64 c.sq, .int .i64 c.op, .string c.ky, .string c.vl, .string c.ol], 33), (w.heap.size + 1, #[.int .i64 0, .int .i64 0, .int .i64 0, .string ⟨#[]⟩, .string ⟨#[]⟩, .string ⟨#[]⟩], 33)]) := hd_; have cew2 := (hd_.blk 0 rfl).cell; have few2 := (hd_.blk 0 rfl).free; clear hd_)
      | (go_at_call 23; clear Aqb; refine (HDw2.out.pick1 2 hL (by omega) (by decide) (by decide)).mono ?_; rintro e w3 ⟨rfl, hd_⟩; rw [← Hqb.out]; have HDw3 : Hid (Dr w w3 g v l (k + 1 + 1 + 1) [(w.heap.size, #[.int .i64 c.cl, .int .i64 c.sq, .int .i64 c.op, .string c.ky, .string c.vl, .string c.ol], 33), (w.heap.size + 1, #[.int .i64 0, .int .i64 0, .int .i64 0, .string ⟨#[]⟩, .string ⟨#[]⟩, .string ⟨#[]⟩], 33)]) := hd_; have cew3 := (hd_.blk 0 rfl).cell; have few3 := (hd_.blk 0 rfl).free; clear hd_)
      | (go_at_call 23; clear Aqc; refine (HDw3.out.pick1 2 hL (by omega) (by decide) (by decide)).mono ?_; rintro e w4 ⟨rfl, hd_⟩; rw [← Hqc.out]; have HDw4 : Hid (Dr w w4 g v l (k + 1 + 1 + 1 + 1) [(w.heap.size, #[.int .i64 c.cl, .int .i64 c.sq, .int .i64 c.op, .string c.ky, .string c.vl, .string c.ol], 33), (w.heap.size + 1, #[.int .i64 0, .int .i64 0, .int .i64 0, .string ⟨#[]⟩, .string ⟨#[]⟩, .string ⟨#[]⟩], 33)]) := hd_; have cew4 := (hd_.blk 0 rfl).cell; have few4 := (hd_.blk 0 rfl).free; clear hd_)
      | (go_at_call 57; refine (HLqc.out _).mono ?_; rintro e w5 ⟨rfl, hb_⟩; have HDw5 : Hid (Dr w w5 g v l (k + 1 + 1 + 1 + 1) [(w.heap.size, #[.int .i64 c.cl, .int .i64 c.sq, .int .i64 c.op, .string c.ky, .string c.vl, .string c.ol], 33), (w.heap.size + 1, #[.int .i64 0, .int .i64 0, .int .i64 0, .string ⟨#[]⟩, .string ⟨#[]⟩, .string ⟨#[]⟩], 33)]) := HDw4.out.below hb_; clear hb_ HLqc)
      | (go_at_call 23; clear Aqd; refine (HDw5.out.pick1 2 hL (by omega) (by decide) (by decide)).mono ?_; rintro e w6 ⟨rfl, hd_⟩; rw [← Hqd.out]; have HDw6 : Hid (Dr w w6 g v l (k + 1 + 1 + 1 + 1 + 1) [(w.heap.size, #[.int .i64 c.cl, .int .i64 c.sq, .int .i64 c.op, .string c.ky, .string c.vl, .string c.ol], 33), (w.heap.size + 1, #[.int .i64 0, .int .i64 0, .int .i64 0, .string ⟨#[]⟩, .string ⟨#[]⟩, .string ⟨#[]⟩], 33)]) := hd_; have cew6 := (hd_.blk 0 rfl).cell; have few6 := (hd_.blk 0 rfl).free; clear hd_)
      | (go_at_call 57; refine (HLqd.out _).mono ?_; rintro e w7 ⟨rfl, hb_⟩; have HDw7 : Hid (Dr w w7 g v l (k + 1 + 1 + 1 + 1 + 1) [(w.heap.size, #[.int .i64 c.cl, .int .i64 c.sq, .int .i64 c.op, .string c.ky, .string c.vl, .string c.ol], 33), (w.heap.size + 1, #[.int .i64 0, .int .i64 0, .int .i64 0, .string ⟨#[]⟩, .string ⟨#[]⟩, .string ⟨#[]⟩], 33)]) := HDw6.out.below hb_; clear hb_ HLqd)
      | (go_at_call 23; clear Aqe; refine (HDw7.out.pick1 2 hL (by omega) (by decide) (by decide)).mono ?_; rintro e w8 ⟨rfl, hd_⟩; rw [← Hqe.out]; have HDw8 : Hid (Dr w w8 g v l (k + 1 + 1 + 1 + 1 + 1 + 1) [(w.heap.size, #[.int .i64 c.cl, .int .i64 c.sq, .int .i64 c.op, .string c.ky, .string c.vl, .string c.ol], 33), (w.heap.size + 1, #[.int .i64 0, .int .i64 0, .int .i64 0, .string ⟨#[]⟩, .string ⟨#[]⟩, .string ⟨#[]⟩], 33)]) := hd_; have cew8 := (hd_.blk 0 rfl).cell; have few8 := (hd_.blk 0 rfl).free; clear hd_)
      | (go_at_call 57; refine (HLqe.out _).mono ?_; rintro e w9 ⟨rfl, hb_⟩; have HDw9 : Hid (Dr w w9 g v l (k + 1 + 1 + 1 + 1 + 1 + 1) [(w.heap.size, #[.int .i64 c.cl, .int .i64 c.sq, .int .i64 c.op, .string c.ky, .string c.vl, .string c.ol], 33), (w.heap.size + 1, #[.int .i64 0, .int .i64 0, .int .i64 0, .string ⟨#[]⟩, .string ⟨#[]⟩, .string ⟨#[]⟩], 33)]) := HDw8.out.below hb_; clear hb_ HLqe)
      | (have hBA := HDw9; refine gate_st 33 (.tmp 3) _ rfl ?_; clear hBA; refine wpl_store_blk rfl 33 (.tmp 3) _ rfl (w.heap.size) rfl rfl (HDw9.out.blk 0 rfl) infoCmdB rfl rfl (by simp [Value.oneCell']) ?_; have HDx : Hid (Dr w (w9.setRow w.heap.size #[.int .i64 (qa : Int), .int .i64 (qb : Int), .int .i64 0, .string LC, .string LD, .string LE]) g v l (k + 1 + 1 + 1 + 1 + 1 + 1) [(w.heap.size, #[.int .i64 (qa : Int), .int .i64 (qb : Int), .int .i64 0, .string LC, .string LD, .string LE], 33), (w.heap.size + 1, #[.int .i64 0, .int .i64 0, .int .i64 0, .string ⟨#[]⟩, .string ⟨#[]⟩, .string ⟨#[]⟩], 33)]) := HDw9.out.row 0 rfl #[.int .i64 (qa : Int), .int .i64 (qb : Int), .int .i64 0, .string LC, .string LD, .string LE] (noU8_of rfl))
      | (have hBA := HDx; refine gate_ld 33 (.tmp 3) rfl ?_; clear hBA; refine wpl_load_blk rfl 33 (.tmp 3) rfl (w.heap.size) rfl (HDx.out.blk 0 rfl) Tryz.underlying33 rfl infoCmdB rfl ?_)
      | (have hBA := HDx; refine gate_st 33 (.tmp 4) _ rfl ?_; clear hBA; refine wpl_store_blk rfl 33 (.tmp 4) _ rfl (w.heap.size + 1) rfl rfl (HDx.out.blk 1 rfl) infoCmdB rfl rfl (by simp [Value.oneCell']) ?_))
    have hR := HDx.out.row 1 rfl #[.int .i64 (qa : Int), .int .i64 (qb : Int), .int .i64 0, .string LC, .string LD, .string LE] (noU8_of rfl)
    rw [HB.out]
    exact bodyPost_ret (results_blk Tryz.results31 rfl (hR.blk 1 rfl) Tryz.underlying33 rfl infoCmdB rfl) rfl ⟨rfl, hR.src, hR.grown⟩
end Go.Proofs.YtafmjckpbcijoaaGreatDoor
