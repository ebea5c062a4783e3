/-
  spec.l1badReply.
-/
import Derived.Test.YtafmjckpbcijoaaGreatDoorDrBc
namespace Go.Proofs.YtafmjckpbcijoaaGreatDoor
open Go.RowKit
set_option linter.unusedVariables false
set_option linter.unusedSimpArgs false

structure RepD where
  cl : Int
  sq : Int
  st : Int
  cd : Int
  vl : ByteArray
  ld : Int
/-- a reply with one field spoilt, and where the draws stand -/
def badY (l : List Int) (k : Nat) (c : RepD) : RepD × Nat :=
  if pickV l k 6 = 0 then ({ c with cl := ((pickV l (k + 1) 12 : Nat) : Int) - 2 }, k + 1 + 1)
  else if pickV l k 6 = 1 then ({ c with sq := ((pickV l (k + 1 + 1) 2 : Nat) : Int) * 1073741825 }, k + 1 + 1 + 1)
  else if pickV l k 6 = 2 then ({ c with st := ((pickV l (k + 1 + 1) 5 : Nat) : Int) - 1 }, k + 1 + 1 + 1)
  else if pickV l k 6 = 3 then ({ c with cd := ((pickV l (k + 1) 12 : Nat) : Int) - 2 }, k + 1 + 1)
  else if pickV l k 6 = 4 then ({ c with vl := longV (64 + pickV l (k + 1 + 1) 2) 118 }, k + 1 + 1 + 1)
  else ({ c with ld := ((pickV l (k + 1) 12 : Nat) : Int) - 2 }, k + 1 + 1)
theorem infoRepB : (Tryz.prog.info? 38).map (·.size) = some 6 := by kernel_rfl
set_option maxHeartbeats 16000000 in
set_option maxRecDepth 100000 in
theorem l1badReply_any (g : Nat) (w : World) (v : Value) (l : List Int) (k : Nat) (c : RepD) (hL : l.length ≤ 1048576) (hk : k ≤ 500000000) (h : Src w g v l k) :
    Calls Tryz.prog 33 #[.pointer (some ⟨g, 0, none⟩), .agg #[.int .i64 c.cl, .int .i64 c.sq, .int .i64 c.st, .int .i64 c.cd, .string c.vl, .int .i64 c.ld]] w fun r w' => r = .returned (.agg #[.int .i64 (badY l k c).1.cl, .int .i64 (badY l k c).1.sq, .int .i64 (badY l k c).1.st, .int .i64 (badY l k c).1.cd, .string (badY l k c).1.vl, .int .i64 (badY l k c).1.ld]) ∧ Src w' g v l (badY l k c).2 ∧ w.grownBy w' (some g) := by
  have hg0 : g < w.heap.size := h.lt
  have HD0 : Hid (Dr w ((w.alloc (.cells #[.int .i64 c.cl, .int .i64 c.sq, .int .i64 c.st, .int .i64 c.cd, .string c.vl, .int .i64 c.ld] 38)).alloc (.cells #[.int .i64 0, .int .i64 0, .int .i64 0, .int .i64 0, .string ⟨#[]⟩, .int .i64 0] 38)) g v l k [(w.heap.size, #[.int .i64 c.cl, .int .i64 c.sq, .int .i64 c.st, .int .i64 c.cd, .string c.vl, .int .i64 c.ld], 38), (w.heap.size + 1, #[.int .i64 0, .int .i64 0, .int .i64 0, .int .i64 0, .string ⟨#[]⟩, .int .i64 0], 38)]) := by
    have hX := ((Dr.start h).new #[.int .i64 c.cl, .int .i64 c.sq, .int .i64 c.st, .int .i64 c.cd, .string c.vl, .int .i64 c.ld] 38 (noU8_of rfl)).new #[.int .i64 0, .int .i64 0, .int .i64 0, .int .i64 0, .string ⟨#[]⟩, .int .i64 0] 38 (noU8_of rfl)
    have hY : Dr w ((w.alloc (.cells #[.int .i64 c.cl, .int .i64 c.sq, .int .i64 c.st, .int .i64 c.cd, .string c.vl, .int .i64 c.ld] 38)).alloc (.cells #[.int .i64 0, .int .i64 0, .int .i64 0, .int .i64 0, .string ⟨#[]⟩, .int .i64 0] 38)) g v l k [(w.heap.size, #[.int .i64 c.cl, .int .i64 c.sq, .int .i64 c.st, .int .i64 c.cd, .string c.vl, .int .i64 c.ld], 38), (w.heap.size + 1, #[.int .i64 0, .int .i64 0, .int .i64 0, .int .i64 0, .string ⟨#[]⟩, .int .i64 0], 38)] := by simpa using hX
    exact hY
  clear h
  have hB : badY l k c = badY l k c := rfl
  conv at hB => rhs; unfold badY
  have HB : Hid (badY l k c = _) := hB
  generalize badY l k c = R at *
  clear hB
  have b6 := pickV_lt l k 6 (by decide)
  obtain ⟨p, hp⟩ : ∃ p, p = pickV l k 6 := ⟨_, rfl⟩
  rw [← hp] at b6 HB
  have Hp : Hid (p = pickV l k 6) := hp
  clear hp
  have b12 := pickV_lt l (k + 1) 12 (by decide)
  obtain ⟨q, hq⟩ : ∃ q, q = pickV l (k + 1) 12 := ⟨_, rfl⟩
  rw [← hq] at b12 HB
  have Hq : Hid (q = pickV l (k + 1) 12) := hq
  clear hq
  have A1 : True := trivial
  have A2 : True := trivial
  rcases (show p = 0 ∨ p = 1 ∨ p = 2 ∨ p = 3 ∨ p = 4 ∨ p = 5 by omega) with c0 | c0 | c0 | c0 | c0 | c0
  · subst c0
    rw [if_pos rfl] at HB
    go_enter Tryz.func33, Tryz.ntmps33
    go_wp2_with (first
      | (go_at_call 23; clear A1; refine (HD0.out.pick1 6 hL (by omega) (by decide) (by decide)).mono ?_; rintro e w1 ⟨rfl, hd_⟩; rw [← Hp.out]; have HDw1 : Hid (Dr w w1 g v l (k + 1) [(w.heap.size, #[.int .i64 c.cl, .int .i64 c.sq, .int .i64 c.st, .int .i64 c.cd, .string c.vl, .int .i64 c.ld], 38), (w.heap.size + 1, #[.int .i64 0, .int .i64 0, .int .i64 0, .int .i64 0, .string ⟨#[]⟩, .int .i64 0], 38)]) := hd_; have cew1 := (hd_.blk 0 rfl).cell; have few1 := (hd_.blk 0 rfl).free; clear hd_)
      | (go_at_call 23; clear A2; refine (HDw1.out.pick1 12 hL (by omega) (by decide) (by decide)).mono ?_; rintro e w2 ⟨rfl, hd_⟩; rw [← Hq.out]; have HDw2 : Hid (Dr w w2 g v l (k + 1 + 1) [(w.heap.size, #[.int .i64 c.cl, .int .i64 c.sq, .int .i64 c.st, .int .i64 c.cd, .string c.vl, .int .i64 c.ld], 38), (w.heap.size + 1, #[.int .i64 0, .int .i64 0, .int .i64 0, .int .i64 0, .string ⟨#[]⟩, .int .i64 0], 38)]) := hd_; have cew2 := (hd_.blk 0 rfl).cell; have few2 := (hd_.blk 0 rfl).free; have HDx : Hid (Dr w (w2.setCell ⟨w.heap.size, 0, none⟩ (.int .i64 ((q : Int) - 2))) g v l (k + 1 + 1) [(w.heap.size, #[.int .i64 ((q : Int) - 2), .int .i64 c.sq, .int .i64 c.st, .int .i64 c.cd, .string c.vl, .int .i64 c.ld], 38), (w.heap.size + 1, #[.int .i64 0, .int .i64 0, .int .i64 0, .int .i64 0, .string ⟨#[]⟩, .int .i64 0], 38)]) := hd_.set 0 rfl 0 (by simp) (.int .i64 ((q : Int) - 2)) rfl; clear hd_)
      | (have hBA := HDx; refine gate_ld 38 (.tmp 3) rfl ?_; clear hBA; refine wpl_load_blk rfl 38 (.tmp 3) rfl (w.heap.size) rfl (HDx.out.blk 0 rfl) Tryz.underlying38 rfl infoRepB rfl ?_)
      | (have hBA := HDx; refine gate_st 38 (.tmp 4) _ rfl ?_; clear hBA; refine wpl_store_blk rfl 38 (.tmp 4) _ rfl (w.heap.size + 1) rfl rfl (HDx.out.blk 1 rfl) infoRepB rfl rfl (by simp [Value.oneCell']) ?_))
    have hR := HDx.out.row 1 rfl #[.int .i64 ((q : Int) - 2), .int .i64 c.sq, .int .i64 c.st, .int .i64 c.cd, .string c.vl, .int .i64 c.ld] (noU8_of rfl)
    rw [HB.out]
    exact bodyPost_ret (results_blk Tryz.results33 rfl (hR.blk 1 rfl) Tryz.underlying38 rfl infoRepB rfl) rfl ⟨rfl, hR.src, hR.grown⟩
  · subst c0
    rw [if_neg (by decide), if_pos rfl] at HB
    have br := pickV_lt l (k + 1 + 1) 2 (by decide)
    obtain ⟨r, hr⟩ : ∃ r, r = pickV l (k + 1 + 1) 2 := ⟨_, rfl⟩
    have Hr : Hid (r = pickV l (k + 1 + 1) 2) := hr
    rw [← hr] at br HB
    clear hr
    have hw : IntKind.i64.wrap ((r : Int) * 1073741825) = (r : Int) * 1073741825 := (by rw [IntKind.wrap_i64]; omega)
    go_enter Tryz.func33, Tryz.ntmps33
    go_wp2_with (first
      | (go_at_call 23; clear A1; refine (HD0.out.pick1 6 hL (by omega) (by decide) (by decide)).mono ?_; rintro e w1 ⟨rfl, hd_⟩; rw [← Hp.out]; have HDw1 : Hid (Dr w w1 g v l (k + 1) [(w.heap.size, #[.int .i64 c.cl, .int .i64 c.sq, .int .i64 c.st, .int .i64 c.cd, .string c.vl, .int .i64 c.ld], 38), (w.heap.size + 1, #[.int .i64 0, .int .i64 0, .int .i64 0, .int .i64 0, .string ⟨#[]⟩, .int .i64 0], 38)]) := hd_; have cew1 := (hd_.blk 0 rfl).cell; have few1 := (hd_.blk 0 rfl).free; clear hd_)
      | (go_at_call 23; clear A2; refine (HDw1.out.pick1 12 hL (by omega) (by decide) (by decide)).mono ?_; rintro e w2 ⟨rfl, hd_⟩; rw [← Hq.out]; have HDw2 : Hid (Dr w w2 g v l (k + 1 + 1) [(w.heap.size, #[.int .i64 c.cl, .int .i64 c.sq, .int .i64 c.st, .int .i64 c.cd, .string c.vl, .int .i64 c.ld], 38), (w.heap.size + 1, #[.int .i64 0, .int .i64 0, .int .i64 0, .int .i64 0, .string ⟨#[]⟩, .int .i64 0], 38)]) := hd_; have cew2 := (hd_.blk 0 rfl).cell; have few2 := (hd_.blk 0 rfl).free; clear hd_)
      | (go_at_call 23; refine (HDw2.out.pick1 2 hL (by omega) (by decide) (by decide)).mono ?_; rintro e w3 ⟨rfl, hd_⟩; rw [← Hr.out]; have HDw3 : Hid (Dr w w3 g v l (k + 1 + 1 + 1) [(w.heap.size, #[.int .i64 c.cl, .int .i64 c.sq, .int .i64 c.st, .int .i64 c.cd, .string c.vl, .int .i64 c.ld], 38), (w.heap.size + 1, #[.int .i64 0, .int .i64 0, .int .i64 0, .int .i64 0, .string ⟨#[]⟩, .int .i64 0], 38)]) := hd_; have cew3 := (hd_.blk 0 rfl).cell; have few3 := (hd_.blk 0 rfl).free; have HDx : Hid (Dr w (w3.setCell ⟨w.heap.size, 1, none⟩ (.int .i64 ((r : Int) * 1073741825))) g v l (k + 1 + 1 + 1) [(w.heap.size, #[.int .i64 c.cl, .int .i64 ((r : Int) * 1073741825), .int .i64 c.st, .int .i64 c.cd, .string c.vl, .int .i64 c.ld], 38), (w.heap.size + 1, #[.int .i64 0, .int .i64 0, .int .i64 0, .int .i64 0, .string ⟨#[]⟩, .int .i64 0], 38)]) := hd_.set 0 rfl 1 (by simp) (.int .i64 ((r : Int) * 1073741825)) rfl; clear hd_)
      | (have hBA := HDx; refine gate_ld 38 (.tmp 3) rfl ?_; clear hBA; refine wpl_load_blk rfl 38 (.tmp 3) rfl (w.heap.size) rfl (HDx.out.blk 0 rfl) Tryz.underlying38 rfl infoRepB rfl ?_)
      | (have hBA := HDx; refine gate_st 38 (.tmp 4) _ rfl ?_; clear hBA; refine wpl_store_blk rfl 38 (.tmp 4) _ rfl (w.heap.size + 1) rfl rfl (HDx.out.blk 1 rfl) infoRepB rfl rfl (by simp [Value.oneCell']) ?_))
    have hR := HDx.out.row 1 rfl #[.int .i64 c.cl, .int .i64 ((r : Int) * 1073741825), .int .i64 c.st, .int .i64 c.cd, .string c.vl, .int .i64 c.ld] (noU8_of rfl)
    rw [HB.out]
    exact bodyPost_ret (results_blk Tryz.results33 rfl (hR.blk 1 rfl) Tryz.underlying38 rfl infoRepB rfl) rfl ⟨rfl, hR.src, hR.grown⟩
  · subst c0
    rw [if_neg (by decide), if_neg (by decide), if_pos rfl] at HB
    have br := pickV_lt l (k + 1 + 1) 5 (by decide)
    obtain ⟨r, hr⟩ : ∃ r, r = pickV l (k + 1 + 1) 5 := ⟨_, rfl⟩
    have Hr : Hid (r = pickV l (k + 1 + 1) 5) := hr
    rw [← hr] at br HB
    clear hr
    have hw : IntKind.i64.wrap ((r : Int) - 1) = (r : Int) - 1 := (by rw [IntKind.wrap_i64]; omega)
    go_enter Tryz.func33, Tryz.ntmps33
    go_wp2_with (first
      | (go_at_call 23; clear A1; refine (HD0.out.pick1 6 hL (by omega) (by decide) (by decide)).mono ?_; rintro e w1 ⟨rfl, hd_⟩; rw [← Hp.out]; have HDw1 : Hid (Dr w w1 g v l (k + 1) [(w.heap.size, #[.int .i64 c.cl, .int .i64 c.sq, .int .i64 c.st, .int .i64 c.cd, .string c.vl, .int .i64 c.ld], 38), (w.heap.size + 1, #[.int .i64 0, .int .i64 0, .int .i64 0, .int .i64 0, .string ⟨#[]⟩, .int .i64 0], 38)]) := hd_; have cew1 := (hd_.blk 0 rfl).cell; have few1 := (hd_.blk 0 rfl).free; clear hd_)
      | (go_at_call 23; clear A2; refine (HDw1.out.pick1 12 hL (by omega) (by decide) (by decide)).mono ?_; rintro e w2 ⟨rfl, hd_⟩; rw [← Hq.out]; have HDw2 : Hid (Dr w w2 g v l (k + 1 + 1) [(w.heap.size, #[.int .i64 c.cl, .int .i64 c.sq, .int .i64 c.st, .int .i64 c.cd, .string c.vl, .int .i64 c.ld], 38), (w.heap.size + 1, #[.int .i64 0, .int .i64 0, .int .i64 0, .int .i64 0, .string ⟨#[]⟩, .int .i64 0], 38)]) := hd_; have cew2 := (hd_.blk 0 rfl).cell; have few2 := (hd_.blk 0 rfl).free; clear hd_)
      | (go_at_call 23; refine (HDw2.out.pick1 5 hL (by omega) (by decide) (by decide)).mono ?_; rintro e w3 ⟨rfl, hd_⟩; rw [← Hr.out]; have HDw3 : Hid (Dr w w3 g v l (k + 1 + 1 + 1) [(w.heap.size, #[.int .i64 c.cl, .int .i64 c.sq, .int .i64 c.st, .int .i64 c.cd, .string c.vl, .int .i64 c.ld], 38), (w.heap.size + 1, #[.int .i64 0, .int .i64 0, .int .i64 0, .int .i64 0, .string ⟨#[]⟩, .int .i64 0], 38)]) := hd_; have cew3 := (hd_.blk 0 rfl).cell; have few3 := (hd_.blk 0 rfl).free; have HDx : Hid (Dr w (w3.setCell ⟨w.heap.size, 2, none⟩ (.int .i64 ((r : Int) - 1))) g v l (k + 1 + 1 + 1) [(w.heap.size, #[.int .i64 c.cl, .int .i64 c.sq, .int .i64 ((r : Int) - 1), .int .i64 c.cd, .string c.vl, .int .i64 c.ld], 38), (w.heap.size + 1, #[.int .i64 0, .int .i64 0, .int .i64 0, .int .i64 0, .string ⟨#[]⟩, .int .i64 0], 38)]) := hd_.set 0 rfl 2 (by simp) (.int .i64 ((r : Int) - 1)) rfl; clear hd_)
      | (have hBA := HDx; refine gate_ld 38 (.tmp 3) rfl ?_; clear hBA; refine wpl_load_blk rfl 38 (.tmp 3) rfl (w.heap.size) rfl (HDx.out.blk 0 rfl) Tryz.underlying38 rfl infoRepB rfl ?_)
      | (have hBA := HDx; refine gate_st 38 (.tmp 4) _ rfl ?_; clear hBA; refine wpl_store_blk rfl 38 (.tmp 4) _ rfl (w.heap.size + 1) rfl rfl (HDx.out.blk 1 rfl) infoRepB rfl rfl (by simp [Value.oneCell']) ?_))
    have hR := HDx.out.row 1 rfl #[.int .i64 c.cl, .int .i64 c.sq, .int .i64 ((r : Int) - 1), .int .i64 c.cd, .string c.vl, .int .i64 c.ld] (noU8_of rfl)
    rw [HB.out]
    exact bodyPost_ret (results_blk Tryz.results33 rfl (hR.blk 1 rfl) Tryz.underlying38 rfl infoRepB rfl) rfl ⟨rfl, hR.src, hR.grown⟩
  · subst c0
    rw [if_neg (by decide), if_neg (by decide), if_neg (by decide), if_pos rfl] at HB
    go_enter Tryz.func33, Tryz.ntmps33
    go_wp2_with (first
      | (go_at_call 23; clear A1; refine (HD0.out.pick1 6 hL (by omega) (by decide) (by decide)).mono ?_; rintro e w1 ⟨rfl, hd_⟩; rw [← Hp.out]; have HDw1 : Hid (Dr w w1 g v l (k + 1) [(w.heap.size, #[.int .i64 c.cl, .int .i64 c.sq, .int .i64 c.st, .int .i64 c.cd, .string c.vl, .int .i64 c.ld], 38), (w.heap.size + 1, #[.int .i64 0, .int .i64 0, .int .i64 0, .int .i64 0, .string ⟨#[]⟩, .int .i64 0], 38)]) := hd_; have cew1 := (hd_.blk 0 rfl).cell; have few1 := (hd_.blk 0 rfl).free; clear hd_)
      | (go_at_call 23; clear A2; refine (HDw1.out.pick1 12 hL (by omega) (by decide) (by decide)).mono ?_; rintro e w2 ⟨rfl, hd_⟩; rw [← Hq.out]; have HDw2 : Hid (Dr w w2 g v l (k + 1 + 1) [(w.heap.size, #[.int .i64 c.cl, .int .i64 c.sq, .int .i64 c.st, .int .i64 c.cd, .string c.vl, .int .i64 c.ld], 38), (w.heap.size + 1, #[.int .i64 0, .int .i64 0, .int .i64 0, .int .i64 0, .string ⟨#[]⟩, .int .i64 0], 38)]) := hd_; have cew2 := (hd_.blk 0 rfl).cell; have few2 := (hd_.blk 0 rfl).free; have HDx : Hid (Dr w (w2.setCell ⟨w.heap.size, 3, none⟩ (.int .i64 ((q : Int) - 2))) g v l (k + 1 + 1) [(w.heap.size, #[.int .i64 c.cl, .int .i64 c.sq, .int .i64 c.st, .int .i64 ((q : Int) - 2), .string c.vl, .int .i64 c.ld], 38), (w.heap.size + 1, #[.int .i64 0, .int .i64 0, .int .i64 0, .int .i64 0, .string ⟨#[]⟩, .int .i64 0], 38)]) := hd_.set 0 rfl 3 (by simp) (.int .i64 ((q : Int) - 2)) rfl; clear hd_)
      | (have hBA := HDx; refine gate_ld 38 (.tmp 3) rfl ?_; clear hBA; refine wpl_load_blk rfl 38 (.tmp 3) rfl (w.heap.size) rfl (HDx.out.blk 0 rfl) Tryz.underlying38 rfl infoRepB rfl ?_)
      | (have hBA := HDx; refine gate_st 38 (.tmp 4) _ rfl ?_; clear hBA; refine wpl_store_blk rfl 38 (.tmp 4) _ rfl (w.heap.size + 1) rfl rfl (HDx.out.blk 1 rfl) infoRepB rfl rfl (by simp [Value.oneCell']) ?_))
    have hR := HDx.out.row 1 rfl #[.int .i64 c.cl, .int .i64 c.sq, .int .i64 c.st, .int .i64 ((q : Int) - 2), .string c.vl, .int .i64 c.ld] (noU8_of rfl)
    rw [HB.out]
    exact bodyPost_ret (results_blk Tryz.results33 rfl (hR.blk 1 rfl) Tryz.underlying38 rfl infoRepB rfl) rfl ⟨rfl, hR.src, hR.grown⟩
  · subst c0
    rw [if_neg (by decide), if_neg (by decide), if_neg (by decide), if_neg (by decide), if_pos rfl] at HB
    have br := pickV_lt l (k + 1 + 1) 2 (by decide)
    obtain ⟨r, hr⟩ : ∃ r, r = pickV l (k + 1 + 1) 2 := ⟨_, rfl⟩
    have Hr : Hid (r = pickV l (k + 1 + 1) 2) := hr
    rw [← hr] at br HB
    clear hr
    have HLg : Hid (∀ u : World, Calls Tryz.prog 57 #[.int .i64 (64 + (r : Int)), .int .u8 118] u fun e w' => e = .returned (.string (longV (64 + r) 118)) ∧ Below u.heap.size u w') := fun u => l1long_gen (64 + r) 118 (by omega) (by decide) u
    generalize longV (64 + r) 118 = LG at *
    go_enter Tryz.func33, Tryz.ntmps33
    go_wp2_with (first
      | (go_at_call 23; clear A1; refine (HD0.out.pick1 6 hL (by omega) (by decide) (by decide)).mono ?_; rintro e w1 ⟨rfl, hd_⟩; rw [← Hp.out]; have HDw1 : Hid (Dr w w1 g v l (k + 1) [(w.heap.size, #[.int .i64 c.cl, .int .i64 c.sq, .int .i64 c.st, .int .i64 c.cd, .string c.vl, .int .i64 c.ld], 38), (w.heap.size + 1, #[.int .i64 0, .int .i64 0, .int .i64 0, .int .i64 0, .string ⟨#[]⟩, .int .i64 0], 38)]) := hd_; have cew1 := (hd_.blk 0 rfl).cell; have few1 := (hd_.blk 0 rfl).free; clear hd_)
      | (go_at_call 23; clear A2; refine (HDw1.out.pick1 12 hL (by omega) (by decide) (by decide)).mono ?_; rintro e w2 ⟨rfl, hd_⟩; rw [← Hq.out]; have HDw2 : Hid (Dr w w2 g v l (k + 1 + 1) [(w.heap.size, #[.int .i64 c.cl, .int .i64 c.sq, .int .i64 c.st, .int .i64 c.cd, .string c.vl, .int .i64 c.ld], 38), (w.heap.size + 1, #[.int .i64 0, .int .i64 0, .int .i64 0, .int .i64 0, .string ⟨#[]⟩, .int .i64 0], 38)]) := hd_; have cew2 := (hd_.blk 0 rfl).cell; have few2 := (hd_.blk 0 rfl).free; clear hd_)
      | (go_at_call 23; refine (HDw2.out.pick1 2 hL (by omega) (by decide) (by decide)).mono ?_; rintro e w3 ⟨rfl, hd_⟩; rw [← Hr.out]; have HDw3 : Hid (Dr w w3 g v l (k + 1 + 1 + 1) [(w.heap.size, #[.int .i64 c.cl, .int .i64 c.sq, .int .i64 c.st, .int .i64 c.cd, .string c.vl, .int .i64 c.ld], 38), (w.heap.size + 1, #[.int .i64 0, .int .i64 0, .int .i64 0, .int .i64 0, .string ⟨#[]⟩, .int .i64 0], 38)]) := hd_; have cew3 := (hd_.blk 0 rfl).cell; have few3 := (hd_.blk 0 rfl).free; clear hd_)
      | (go_at_call 57; refine (HLg.out _).mono ?_; rintro e w4 ⟨rfl, hb4⟩; have HD4 : Hid (Dr w w4 g v l (k + 1 + 1 + 1) [(w.heap.size, #[.int .i64 c.cl, .int .i64 c.sq, .int .i64 c.st, .int .i64 c.cd, .string c.vl, .int .i64 c.ld], 38), (w.heap.size + 1, #[.int .i64 0, .int .i64 0, .int .i64 0, .int .i64 0, .string ⟨#[]⟩, .int .i64 0], 38)]) := HDw3.out.below hb4; have ce4 := (HD4.out.blk 0 rfl).cell; have fe4 := (HD4.out.blk 0 rfl).free; have HDx : Hid (Dr w (w4.setCell ⟨w.heap.size, 4, none⟩ (.string LG)) g v l (k + 1 + 1 + 1) [(w.heap.size, #[.int .i64 c.cl, .int .i64 c.sq, .int .i64 c.st, .int .i64 c.cd, .string LG, .int .i64 c.ld], 38), (w.heap.size + 1, #[.int .i64 0, .int .i64 0, .int .i64 0, .int .i64 0, .string ⟨#[]⟩, .int .i64 0], 38)]) := HD4.out.set 0 rfl 4 (by simp) (.string LG) rfl; clear hb4)
      | (have hBA := HDx; refine gate_ld 38 (.tmp 3) rfl ?_; clear hBA; refine wpl_load_blk rfl 38 (.tmp 3) rfl (w.heap.size) rfl (HDx.out.blk 0 rfl) Tryz.underlying38 rfl infoRepB rfl ?_)
      | (have hBA := HDx; refine gate_st 38 (.tmp 4) _ rfl ?_; clear hBA; refine wpl_store_blk rfl 38 (.tmp 4) _ rfl (w.heap.size + 1) rfl rfl (HDx.out.blk 1 rfl) infoRepB rfl rfl (by simp [Value.oneCell']) ?_))
    have hR := HDx.out.row 1 rfl #[.int .i64 c.cl, .int .i64 c.sq, .int .i64 c.st, .int .i64 c.cd, .string LG, .int .i64 c.ld] (noU8_of rfl)
    rw [HB.out]
    exact bodyPost_ret (results_blk Tryz.results33 rfl (hR.blk 1 rfl) Tryz.underlying38 rfl infoRepB rfl) rfl ⟨rfl, hR.src, hR.grown⟩
  · subst c0
    rw [if_neg (by decide), if_neg (by decide), if_neg (by decide), if_neg (by decide), if_neg (by decide)] at HB
    go_enter Tryz.func33, Tryz.ntmps33
    go_wp2_with (first
      | (go_at_call 23; clear A1; refine (HD0.out.pick1 6 hL (by omega) (by decide) (by decide)).mono ?_; rintro e w1 ⟨rfl, hd_⟩; rw [← Hp.out]; have HDw1 : Hid (Dr w w1 g v l (k + 1) [(w.heap.size, #[.int .i64 c.cl, .int .i64 c.sq, .int .i64 c.st, .int .i64 c.cd, .string c.vl, .int .i64 c.ld], 38), (w.heap.size + 1, #[.int .i64 0, .int .i64 0, .int .i64 0, .int .i64 0, .string ⟨#[]⟩, .int .i64 0], 38)]) := hd_; have cew1 := (hd_.blk 0 rfl).cell; have few1 := (hd_.blk 0 rfl).free; clear hd_)
      | (go_at_call 23; clear A2; refine (HDw1.out.pick1 12 hL (by omega) (by decide) (by decide)).mono ?_; rintro e w2 ⟨rfl, hd_⟩; rw [← Hq.out]; have HDw2 : Hid (Dr w w2 g v l (k + 1 + 1) [(w.heap.size, #[.int .i64 c.cl, .int .i64 c.sq, .int .i64 c.st, .int .i64 c.cd, .string c.vl, .int .i64 c.ld], 38), (w.heap.size + 1, #[.int .i64 0, .int .i64 0, .int .i64 0, .int .i64 0, .string ⟨#[]⟩, .int .i64 0], 38)]) := hd_; have cew2 := (hd_.blk 0 rfl).cell; have few2 := (hd_.blk 0 rfl).free; have HDx : Hid (Dr w (w2.setCell ⟨w.heap.size, 5, none⟩ (.int .i64 ((q : Int) - 2))) g v l (k + 1 + 1) [(w.heap.size, #[.int .i64 c.cl, .int .i64 c.sq, .int .i64 c.st, .int .i64 c.cd, .string c.vl, .int .i64 ((q : Int) - 2)], 38), (w.heap.size + 1, #[.int .i64 0, .int .i64 0, .int .i64 0, .int .i64 0, .string ⟨#[]⟩, .int .i64 0], 38)]) := hd_.set 0 rfl 5 (by simp) (.int .i64 ((q : Int) - 2)) rfl; clear hd_)
      | (have hBA := HDx; refine gate_ld 38 (.tmp 3) rfl ?_; clear hBA; refine wpl_load_blk rfl 38 (.tmp 3) rfl (w.heap.size) rfl (HDx.out.blk 0 rfl) Tryz.underlying38 rfl infoRepB rfl ?_)
      | (have hBA := HDx; refine gate_st 38 (.tmp 4) _ rfl ?_; clear hBA; refine wpl_store_blk rfl 38 (.tmp 4) _ rfl (w.heap.size + 1) rfl rfl (HDx.out.blk 1 rfl) infoRepB rfl rfl (by simp [Value.oneCell']) ?_))
    have hR := HDx.out.row 1 rfl #[.int .i64 c.cl, .int .i64 c.sq, .int .i64 c.st, .int .i64 c.cd, .string c.vl, .int .i64 ((q : Int) - 2)] (noU8_of rfl)
    rw [HB.out]
    exact bodyPost_ret (results_blk Tryz.results33 rfl (hR.blk 1 rfl) Tryz.underlying38 rfl infoRepB rfl) rfl ⟨rfl, hR.src, hR.grown⟩
end Go.Proofs.YtafmjckpbcijoaaGreatDoor
