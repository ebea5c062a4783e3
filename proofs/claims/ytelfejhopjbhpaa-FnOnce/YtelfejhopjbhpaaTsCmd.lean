/-
  spec.l5apply whole, spec.ApplyCmd.
-/
import Derived.Test.YtelfejhopjbhpaaTsApply
import Derived.Test.YtelfejhopjbhpaaTsOk
import Derived.Test.YtelfejhopjbhpaaCmd
namespace Go.Proofs.Ytelfejhopjbhpaa
open Go.RowKit Go.Maps
set_option linter.unusedVariables false
set_option linter.unusedSimpArgs false

theorem l5apply_any (vv uu : Value) (ps : List Pr) (ss : List Se) (cl sq op : Int) (k v o : ByteArray) (w : World) (hv : Ps w vv ps) (hu : Ss w uu ss) (hP : PsOk ps) (hS : SsOk ss) (hm : ss.length ≤ 1000000) (hop : 0 ≤ op ∧ op ≤ 4) (hcl : op ≠ 0 → 1 ≤ cl ∧ cl ≤ 8) :
    Calls Try.prog 30 #[.agg #[vv, uu], .agg #[.int .i64 cl, .int .i64 sq, .int .i64 op, .string k, .string v, .string o]] w fun e w' => AnsT w w' e (applyC ps ss cl sq op k v o) := by
  obtain ⟨a, cap, rfl⟩ : ∃ a cap, vv = .slice a ps.length cap := by obtain ⟨_, a, cap, e, _⟩ := hv; exact ⟨a, cap, e⟩
  obtain ⟨a2, cap2, rfl⟩ : ∃ a cap, uu = .slice a ss.length cap := by obtain ⟨_, a, cap, e, _⟩ := hu; exact ⟨a, cap, e⟩
  have hn := hP.len
  have hcp : CpIn a cap a2 cap2 ps ss w := fun u hb => l5copy_any _ _ ps ss u (hv.below hb) (hu.below hb) (by omega) hm
  by_cases h0 : op = 0
  · subst h0
    rw [applyC, if_pos rfl]
    exact apNone a cap a2 cap2 ps ss cl sq k v o w hcp
  have hc := hcl h0
  have H : ApIn a cap a2 cap2 ps ss cl sq k v w := ⟨hcp,
    fun u hb => l5session_any _ _ ss cl u ⟨_, _, _, rfl⟩ (hu.below hb) (by omega),
    fun u hb => l5value_any _ _ ps k u (hv.below hb) ⟨_, _, _, rfl⟩ (by omega),
    fun u hb => by rw [← withR_put]; exact l5with_put _ ps k v u (hv.below hb) (by omega),
    fun u hb => by rw [← withR_del ps k v]; exact l5with_del _ ps k v u (hv.below hb) (by omega),
    fun r t u hb => l5withSession_any _ ss ⟨cl, sq, r, t⟩ u (hu.below hb) hS hc⟩
  by_cases h1 : sq < (sesOf ss cl).sq
  · rw [applyC, if_neg h0, if_pos h1]
    exact apOld a cap a2 cap2 ps ss cl sq op k v o w H h0 h1
  by_cases h2 : (sesOf ss cl).sq = sq
  · rw [applyC, if_neg h0, if_neg h1, if_pos h2]
    exact apSame a cap a2 cap2 ps ss cl sq op k v o w H h0 h2
  have h3 : (sesOf ss cl).sq < sq := by omega
  rw [applyC, if_neg h0, if_neg h1, if_neg h2]
  rcases (show op = 1 ∨ op = 2 ∨ op = 3 ∨ op = 4 by omega) with rfl | rfl | rfl | rfl
  · cases hp : prOf ps k with
    | none => rw [show carry ps 1 k v o = (2, tx0, ps) by simp [carry, hp]]; exact apGet0 a cap a2 cap2 ps ss cl sq k v o w H h3 hp
    | some p => rw [show carry ps 1 k v o = (1, p.v, ps) by simp [carry, hp]]; exact apGet1 a cap a2 cap2 ps ss cl sq k v o w H h3 p hp
  · cases hp : prOf ps k with
    | none =>
      by_cases hl : ps.length < 256
      · rw [show carry ps 2 k v o = (1, tx0, kPut prK ⟨k, v⟩ ps) by simp [carry, hp, show ¬ ps.length = 256 by omega]]; exact apPut0 a cap a2 cap2 ps ss cl sq k v o w H h3 hp hl
      · rw [show carry ps 2 k v o = (4, tx0, ps) by simp [carry, hp, show ps.length = 256 by omega]]; exact apPutF a cap a2 cap2 ps ss cl sq k v o w H h3 hp hl
    | some p => rw [show carry ps 2 k v o = (1, tx0, kPut prK ⟨k, v⟩ ps) by simp [carry, hp]]; exact apPut1 a cap a2 cap2 ps ss cl sq k v o w H h3 p hp
  · cases hp : prOf ps k with
    | none => rw [show carry ps 3 k v o = (2, tx0, ps) by simp [carry, hp]]; exact apDel0 a cap a2 cap2 ps ss cl sq k v o w H h3 hp
    | some p => rw [show carry ps 3 k v o = (1, p.v, kDel prK (txK k) ps) by simp [carry, hp]]; exact apDel1 a cap a2 cap2 ps ss cl sq k v o w H h3 p hp
  · cases hp : prOf ps k with
    | none => rw [show carry ps 4 k v o = (2, tx0, ps) by simp [carry, hp]]; exact apCas0 a cap a2 cap2 ps ss cl sq k v o w H h3 hp
    | some p =>
      by_cases ho : p.v = o
      · rw [show carry ps 4 k v o = (1, tx0, kPut prK ⟨k, v⟩ ps) by simp [carry, hp, ho]]; exact apCas1 a cap a2 cap2 ps ss cl sq k v o w H h3 p hp ho
      · rw [show carry ps 4 k v o = (3, p.v, ps) by simp [carry, hp, ho]]; exact apCasD a cap a2 cap2 ps ss cl sq k v o w H h3 p hp ho

/-- spec.ApplyCmd -/
theorem cmdF_ok {cl sq op : Int} {k v o : Int} (h : cmdF cl sq op k v o = 0) : (0 ≤ op ∧ op ≤ 4) ∧ (op ≠ 0 → 1 ≤ cl ∧ cl ≤ 8) := by
  unfold cmdF at h
  split at h
  · omega
  · split at h
    · omega
    · split at h
      · omega
      · omega
set_option maxHeartbeats 4000000 in
set_option maxRecDepth 100000 in
theorem sApplyCmd_any (vv uu : Value) (ps : List Pr) (ss : List Se) (cl sq op : Int) (k v o : ByteArray) (w : World) (hv : Ps w vv ps) (hu : Ss w uu ss) (ht : ∀ p ∈ ps, p.k.size ≤ 1048576 ∧ p.v.size ≤ 1048576) (hs : ∀ p ∈ ss, p.v.size ≤ 1048576) (hn : ps.length ≤ 1048576) (hm : ss.length ≤ 1048576)
    (hk : k.size ≤ 1048576) (hvs : v.size ≤ 1048576) (hos : o.size ≤ 1048576) :
    Calls Try.prog 20 #[.agg #[vv, uu], .agg #[.int .i64 cl, .int .i64 sq, .int .i64 op, .string k, .string v, .string o]] w fun e w' => AnsT w w' e (applyA ps ss cl sq op k v o) := by
  obtain ⟨a, cap, rfl⟩ : ∃ a cap, vv = .slice a ps.length cap := by obtain ⟨_, a, cap, e, _⟩ := hv; exact ⟨a, cap, e⟩
  obtain ⟨a2, cap2, rfl⟩ : ∃ a cap, uu = .slice a ss.length cap := by obtain ⟨_, a, cap, e, _⟩ := hu; exact ⟨a, cap, e⟩
  have hb0 : Hid (Below w.heap.size w (((w.alloc (.cells #[.slice a ps.length cap, .slice a2 ss.length cap2] 29)).alloc (.cells #[.int .i64 cl, .int .i64 sq, .int .i64 op, .string k, .string v, .string o] 33)).alloc (.cells #[.int .i64 0, .int .i64 0, .string ⟨#[]⟩, .slice none 0 0, .slice none 0 0] 37))) := (((Below.refl _ _).alloc (Nat.le_refl _) _).alloc (by simp) _).alloc (by simp; omega) _
  have HCF : Hid (∀ u : World, Calls Try.prog 49 #[.agg #[.int .i64 cl, .int .i64 sq, .int .i64 op, .string k, .string v, .string o]] u fun e w' => e = .returned (.int .i64 (cmdF cl sq op k.size v.size o.size)) ∧ Below u.heap.size u w') := fun u => specCmdFault_any cl sq op k v o (by unfold maxLen; omega) (by unfold maxLen; omega) (by unfold maxLen; omega) u
  by_cases hok : PsOk ps ∧ SsOk ss
  case neg =>
    rw [applyA_no hok]
    have HF : Hid (∀ u, Below w.heap.size w u → Calls Try.prog 48 #[.agg #[.slice a ps.length cap, .slice a2 ss.length cap2]] u fun e w' => e = .returned (.bool false) ∧ Below u.heap.size u w') := fun u hb => (l5tableOk_any _ _ ps ss u (hv.below hb) (hu.below hb) ht hs hn (by omega)).mono fun e w'' ⟨h, hb⟩ => ⟨by rcases h.bool with ⟨h, _⟩ | ⟨_, h⟩; exact absurd h hok; exact h, hb⟩
    clear hv hu ht hs hok HCF
    go_enter Try.func20, Try.ntmps20
    go_wp2_with (first
      | (go_at_call 48; refine (HF.out _ hb0.out).mono ?_; rintro e w1 ⟨rfl, hb1⟩; have hz1 : w.heap.size + 3 ≤ w1.heap.size := (by have := hb1.size; simp at this; omega); have HB1 : Hid (Below w.heap.size w w1) := hb0.out.trans (hb1.mono (by simp; omega)); have BX1 : Hid (Blk w1 (w.heap.size) #[.slice a ps.length cap, .slice a2 ss.length cap2] 29) := (((Blk.new w _ _).alloc _).alloc _).below hb1 (by simp; omega); have BC1 : Hid (Blk w1 (w.heap.size + 1) #[.int .i64 cl, .int .i64 sq, .int .i64 op, .string k, .string v, .string o] 33) := ((Blk.new' (w.alloc _) _ _ (by simp)).alloc _).below hb1 (by simp); have BR1 : Hid (Blk w1 (w.heap.size + 1 + 1) #[.int .i64 0, .int .i64 0, .string ⟨#[]⟩, .slice none 0 0, .slice none 0 0] 37) := (Blk.new' ((w.alloc _).alloc _) _ _ (by simp)).below hb1 (by simp); have x0 : w1.cell? ⟨w.heap.size, 0, none⟩ = some (.slice a ps.length cap) := BX1.out.cell 0; have x1 : w1.cell? ⟨w.heap.size, 1, none⟩ = some (.slice a2 ss.length cap2) := BX1.out.cell 1; have c0 : w1.cell? ⟨w.heap.size + 1, 0, none⟩ = some (.int .i64 cl) := BC1.out.cell 0; have c1 : w1.cell? ⟨w.heap.size + 1, 1, none⟩ = some (.int .i64 sq) := BC1.out.cell 1; have c2 : w1.cell? ⟨w.heap.size + 1, 2, none⟩ = some (.int .i64 op) := BC1.out.cell 2; have c3 : w1.cell? ⟨w.heap.size + 1, 3, none⟩ = some (.string k) := BC1.out.cell 3; have c4 : w1.cell? ⟨w.heap.size + 1, 4, none⟩ = some (.string v) := BC1.out.cell 4; have c5 : w1.cell? ⟨w.heap.size + 1, 5, none⟩ = some (.string o) := BC1.out.cell 5;  clear hb1)
      | (have hBA := BR1; refine gate_st 37 (.tmp 4) _ rfl ?_; clear hBA; have BS : Blk w1 (w.heap.size + 1 + 1) #[.int .i64 0, .int .i64 0, .string ⟨#[]⟩, .slice none 0 0, .slice none 0 0] 37 := BR1.out; refine wpl_store_blk rfl 37 (.tmp 4) _ rfl (w.heap.size + 1 + 1) rfl rfl BS infoAns rfl rfl (by simp [Value.oneCell']) ?_))
    refine bodyPost_ret (results_blk Try.results20 rfl (BS.row _) Try.underlying37 rfl infoAns rfl) rfl ⟨none, 0, none, 0, rfl, ⟨OwnG.nil _ _ _ _ _, OwnG.nil _ _ _ _ _, fun k e => by cases e⟩, below_row HB1.out (by omega) _⟩
  rw [applyA_yes hok, applyI]
  have HF : Hid (∀ u, Below w.heap.size w u → Calls Try.prog 48 #[.agg #[.slice a ps.length cap, .slice a2 ss.length cap2]] u fun e w' => e = .returned (.bool true) ∧ Below u.heap.size u w') := fun u hb => (l5tableOk_any _ _ ps ss u (hv.below hb) (hu.below hb) ht hs hn (by omega)).mono fun e w'' ⟨h, hb⟩ => ⟨by rcases h.bool with ⟨_, h⟩ | ⟨h, _⟩; exact h; exact absurd hok h, hb⟩
  have hpl := hok.1.len
  have hsl := hok.2.len
  by_cases hc : cmdF cl sq op k.size v.size o.size = 0
  case neg =>
    rw [if_neg hc]
    have HCP : Hid (CpIn a cap a2 cap2 ps ss w) := fun u hb => l5copy_any _ _ ps ss u (hv.below hb) (hu.below hb) (by omega) (by omega)
    have hcd : (cmdF cl sq op k.size v.size o.size != 0) = true := by simpa using hc
    generalize cmdF cl sq op k.size v.size o.size = cf at *
    clear hv hu ht hs hok hc
    go_enter Try.func20, Try.ntmps20
    go_wp2_with (first
      | (go_at_call 48; refine (HF.out _ hb0.out).mono ?_; rintro e w1 ⟨rfl, hb1⟩; have hz1 : w.heap.size + 3 ≤ w1.heap.size := (by have := hb1.size; simp at this; omega); have HB1 : Hid (Below w.heap.size w w1) := hb0.out.trans (hb1.mono (by simp; omega)); have BX1 : Hid (Blk w1 (w.heap.size) #[.slice a ps.length cap, .slice a2 ss.length cap2] 29) := (((Blk.new w _ _).alloc _).alloc _).below hb1 (by simp; omega); have BC1 : Hid (Blk w1 (w.heap.size + 1) #[.int .i64 cl, .int .i64 sq, .int .i64 op, .string k, .string v, .string o] 33) := ((Blk.new' (w.alloc _) _ _ (by simp)).alloc _).below hb1 (by simp); have BR1 : Hid (Blk w1 (w.heap.size + 1 + 1) #[.int .i64 0, .int .i64 0, .string ⟨#[]⟩, .slice none 0 0, .slice none 0 0] 37) := (Blk.new' ((w.alloc _).alloc _) _ _ (by simp)).below hb1 (by simp); have x0 : w1.cell? ⟨w.heap.size, 0, none⟩ = some (.slice a ps.length cap) := BX1.out.cell 0; have x1 : w1.cell? ⟨w.heap.size, 1, none⟩ = some (.slice a2 ss.length cap2) := BX1.out.cell 1; have c0 : w1.cell? ⟨w.heap.size + 1, 0, none⟩ = some (.int .i64 cl) := BC1.out.cell 0; have c1 : w1.cell? ⟨w.heap.size + 1, 1, none⟩ = some (.int .i64 sq) := BC1.out.cell 1; have c2 : w1.cell? ⟨w.heap.size + 1, 2, none⟩ = some (.int .i64 op) := BC1.out.cell 2; have c3 : w1.cell? ⟨w.heap.size + 1, 3, none⟩ = some (.string k) := BC1.out.cell 3; have c4 : w1.cell? ⟨w.heap.size + 1, 4, none⟩ = some (.string v) := BC1.out.cell 4; have c5 : w1.cell? ⟨w.heap.size + 1, 5, none⟩ = some (.string o) := BC1.out.cell 5;  clear hb1)
      | (go_at_call 49; refine (HCF.out _).mono ?_; rintro e w2 ⟨rfl, hb⟩; have hz2 : w1.heap.size ≤ w2.heap.size := hb.size; have HB2 : Hid (Below w.heap.size w w2) := HB1.out.trans (hb.mono (by omega)); clear x0 x1 c0 c1 c2 c3 c4 c5; have BX2 : Hid (Blk w2 (w.heap.size) #[.slice a ps.length cap, .slice a2 ss.length cap2] 29) := BX1.out.below hb (by omega); have BC2 : Hid (Blk w2 (w.heap.size + 1) #[.int .i64 cl, .int .i64 sq, .int .i64 op, .string k, .string v, .string o] 33) := BC1.out.below hb (by omega); have BR2 : Hid (Blk w2 (w.heap.size + 1 + 1) #[.int .i64 0, .int .i64 0, .string ⟨#[]⟩, .slice none 0 0, .slice none 0 0] 37) := BR1.out.below hb (by omega); have x0 : w2.cell? ⟨w.heap.size, 0, none⟩ = some (.slice a ps.length cap) := BX2.out.cell 0; have x1 : w2.cell? ⟨w.heap.size, 1, none⟩ = some (.slice a2 ss.length cap2) := BX2.out.cell 1; have c0 : w2.cell? ⟨w.heap.size + 1, 0, none⟩ = some (.int .i64 cl) := BC2.out.cell 0; have c1 : w2.cell? ⟨w.heap.size + 1, 1, none⟩ = some (.int .i64 sq) := BC2.out.cell 1; have c2 : w2.cell? ⟨w.heap.size + 1, 2, none⟩ = some (.int .i64 op) := BC2.out.cell 2; have c3 : w2.cell? ⟨w.heap.size + 1, 3, none⟩ = some (.string k) := BC2.out.cell 3; have c4 : w2.cell? ⟨w.heap.size + 1, 4, none⟩ = some (.string v) := BC2.out.cell 4; have c5 : w2.cell? ⟨w.heap.size + 1, 5, none⟩ = some (.string o) := BC2.out.cell 5;  clear hb)
      | (go_at_call 50; refine (HCP.out _ HB2.out).mono ?_; rintro e w3 ⟨va, vc, ua, uc, rfl, hT, hb⟩; have HT : Hid (TabO w3 w2.heap.size (.slice va ps.length vc) (.slice ua ss.length uc) ps ss) := hT; have hz3 : w2.heap.size ≤ w3.heap.size := hb.size; have HB3 : Hid (Below w.heap.size w w3) := HB2.out.trans (hb.mono (by omega)); have BR3 : Hid (Blk w3 (w.heap.size + 1 + 1) #[.int .i64 0, .int .i64 0, .string ⟨#[]⟩, .slice none 0 0, .slice none 0 0] 37) := BR2.out.below hb (by omega); clear hT hb)
      | (have hBA := BR3; refine gate_st 37 (.tmp 4) _ rfl ?_; clear hBA; have BS : Blk w3 (w.heap.size + 1 + 1) #[.int .i64 0, .int .i64 0, .string ⟨#[]⟩, .slice none 0 0, .slice none 0 0] 37 := BR3.out; refine wpl_store_blk rfl 37 (.tmp 4) _ rfl (w.heap.size + 1 + 1) rfl rfl BS infoAns rfl rfl (by simp [Value.oneCell']) ?_))
    refine bodyPost_ret (results_blk Try.results20 rfl (BS.row _) Try.underlying37 rfl infoAns rfl) rfl ⟨va, vc, ua, uc, rfl, HT.out.keep (by omega) fun k h1 _ => setRow_other _ _ _ _ (by omega), below_row HB3.out (by omega) _⟩
  rw [if_pos hc]
  have HAP : Hid (∀ u, Below w.heap.size w u → Calls Try.prog 30 #[.agg #[.slice a ps.length cap, .slice a2 ss.length cap2], .agg #[.int .i64 cl, .int .i64 sq, .int .i64 op, .string k, .string v, .string o]] u fun e w' => AnsT u w' e (applyC ps ss cl sq op k v o)) := fun u hb => l5apply_any _ _ ps ss cl sq op k v o u (hv.below hb) (hu.below hb) hok.1 hok.2 (by omega) (cmdF_ok hc).1 (cmdF_ok hc).2
  rw [hc] at HCF
  generalize applyC ps ss cl sq op k v o = x at HAP ⊢
  obtain ⟨X0, X1, X2, x3, x4⟩ := x
  unfold AnsT at HAP
  dsimp only at HAP
  clear hv hu ht hs hok hc
  go_enter Try.func20, Try.ntmps20
  go_wp2_with (first
    | (go_at_call 48; refine (HF.out _ hb0.out).mono ?_; rintro e w1 ⟨rfl, hb1⟩; have hz1 : w.heap.size + 3 ≤ w1.heap.size := (by have := hb1.size; simp at this; omega); have HB1 : Hid (Below w.heap.size w w1) := hb0.out.trans (hb1.mono (by simp; omega)); have BX1 : Hid (Blk w1 (w.heap.size) #[.slice a ps.length cap, .slice a2 ss.length cap2] 29) := (((Blk.new w _ _).alloc _).alloc _).below hb1 (by simp; omega); have BC1 : Hid (Blk w1 (w.heap.size + 1) #[.int .i64 cl, .int .i64 sq, .int .i64 op, .string k, .string v, .string o] 33) := ((Blk.new' (w.alloc _) _ _ (by simp)).alloc _).below hb1 (by simp); have BR1 : Hid (Blk w1 (w.heap.size + 1 + 1) #[.int .i64 0, .int .i64 0, .string ⟨#[]⟩, .slice none 0 0, .slice none 0 0] 37) := (Blk.new' ((w.alloc _).alloc _) _ _ (by simp)).below hb1 (by simp); have x0 : w1.cell? ⟨w.heap.size, 0, none⟩ = some (.slice a ps.length cap) := BX1.out.cell 0; have x1 : w1.cell? ⟨w.heap.size, 1, none⟩ = some (.slice a2 ss.length cap2) := BX1.out.cell 1; have c0 : w1.cell? ⟨w.heap.size + 1, 0, none⟩ = some (.int .i64 cl) := BC1.out.cell 0; have c1 : w1.cell? ⟨w.heap.size + 1, 1, none⟩ = some (.int .i64 sq) := BC1.out.cell 1; have c2 : w1.cell? ⟨w.heap.size + 1, 2, none⟩ = some (.int .i64 op) := BC1.out.cell 2; have c3 : w1.cell? ⟨w.heap.size + 1, 3, none⟩ = some (.string k) := BC1.out.cell 3; have c4 : w1.cell? ⟨w.heap.size + 1, 4, none⟩ = some (.string v) := BC1.out.cell 4; have c5 : w1.cell? ⟨w.heap.size + 1, 5, none⟩ = some (.string o) := BC1.out.cell 5;  clear hb1)
    | (go_at_call 49; refine (HCF.out _).mono ?_; rintro e w2 ⟨rfl, hb⟩; have hz2 : w1.heap.size ≤ w2.heap.size := hb.size; have HB2 : Hid (Below w.heap.size w w2) := HB1.out.trans (hb.mono (by omega)); clear x0 x1 c0 c1 c2 c3 c4 c5; have BX2 : Hid (Blk w2 (w.heap.size) #[.slice a ps.length cap, .slice a2 ss.length cap2] 29) := BX1.out.below hb (by omega); have BC2 : Hid (Blk w2 (w.heap.size + 1) #[.int .i64 cl, .int .i64 sq, .int .i64 op, .string k, .string v, .string o] 33) := BC1.out.below hb (by omega); have BR2 : Hid (Blk w2 (w.heap.size + 1 + 1) #[.int .i64 0, .int .i64 0, .string ⟨#[]⟩, .slice none 0 0, .slice none 0 0] 37) := BR1.out.below hb (by omega); have x0 : w2.cell? ⟨w.heap.size, 0, none⟩ = some (.slice a ps.length cap) := BX2.out.cell 0; have x1 : w2.cell? ⟨w.heap.size, 1, none⟩ = some (.slice a2 ss.length cap2) := BX2.out.cell 1; have c0 : w2.cell? ⟨w.heap.size + 1, 0, none⟩ = some (.int .i64 cl) := BC2.out.cell 0; have c1 : w2.cell? ⟨w.heap.size + 1, 1, none⟩ = some (.int .i64 sq) := BC2.out.cell 1; have c2 : w2.cell? ⟨w.heap.size + 1, 2, none⟩ = some (.int .i64 op) := BC2.out.cell 2; have c3 : w2.cell? ⟨w.heap.size + 1, 3, none⟩ = some (.string k) := BC2.out.cell 3; have c4 : w2.cell? ⟨w.heap.size + 1, 4, none⟩ = some (.string v) := BC2.out.cell 4; have c5 : w2.cell? ⟨w.heap.size + 1, 5, none⟩ = some (.string o) := BC2.out.cell 5;  clear hb)
    | (go_at_call 30; refine (HAP.out _ HB2.out).mono ?_; rintro e w3 ⟨va, vc, ua, uc, rfl, hT, hb⟩; have HT : Hid (TabO w3 w2.heap.size (.slice va x3.length vc) (.slice ua x4.length uc) x3 x4) := hT; have hz3 : w2.heap.size ≤ w3.heap.size := hb.size; have HB3 : Hid (Below w.heap.size w w3) := HB2.out.trans (hb.mono (by omega)); have BR3 : Hid (Blk w3 (w.heap.size + 1 + 1) #[.int .i64 0, .int .i64 0, .string ⟨#[]⟩, .slice none 0 0, .slice none 0 0] 37) := BR2.out.below hb (by omega); clear hT hb)
    | (have hBA := BR3; refine gate_st 37 (.tmp 4) _ rfl ?_; clear hBA; have BS : Blk w3 (w.heap.size + 1 + 1) #[.int .i64 0, .int .i64 0, .string ⟨#[]⟩, .slice none 0 0, .slice none 0 0] 37 := BR3.out; refine wpl_store_blk rfl 37 (.tmp 4) _ rfl (w.heap.size + 1 + 1) rfl rfl BS infoAns rfl rfl (by simp [Value.oneCell']) ?_))
  refine bodyPost_ret (results_blk Try.results20 rfl (BS.row _) Try.underlying37 rfl infoAns rfl) rfl ⟨va, vc, ua, uc, rfl, HT.out.keep (by omega) fun k h1 _ => setRow_other _ _ _ _ (by omega), below_row HB3.out (by omega) _⟩
end Go.Proofs.Ytelfejhopjbhpaa
