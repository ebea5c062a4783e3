/-
  spec.l3drawBag.
-/
import Derived.Test.YtfcmffdljfljkaaDrBgB
import Derived.Test.YtfcmffdljfljkaaMgOk
import Derived.Test.YtfcmffdljfljkaaSpecEncMsg
import Derived.Deep.RegionWith
namespace Go.Proofs.Ytfcmffdljfljkaa
open Go.RowKit
set_option linter.unusedVariables false
set_option linter.unusedSimpArgs false

theorem encMsg_lenB (ki fr td tm li lt cm ok hi : Int) (l : List Ent) : (encMsg ki fr td tm li lt cm ok hi l).length ≤ 12000 := by
  unfold encMsg
  split
  · next hF =>
    obtain ⟨⟨a1, a2⟩, ⟨a3, a4⟩, ⟨a5, a6⟩, ⟨a7, a8⟩, ⟨a9, a10⟩, ⟨a11, a12⟩, ⟨a13, a14⟩, ⟨a15, a16⟩, ⟨a17, a18⟩, hl32, hall⟩ := msgF_ok hF
    obtain ⟨_, hlen⟩ := msgL_len ki.toNat fr.toNat td.toNat tm.toNat li.toNat lt.toNat cm.toNat ok.toNat hi.toNat l (by simp; omega) hl32 hall
    simp [frameL, wordL]; omega
  · simp
theorem pkTo_k (l : List Int) (k : Nat) (fr : Int) : (pkTo l k fr).2 ≤ k + 3 := by unfold pkTo; split <;> (dsimp only; omega)
theorem pkBs_ok (l : List Int) (k i : Nat) : (pkBs l k i).2 ≤ k + 702 ∧ (pkBs l k i).1.length ≤ 12000 := by
  have h := (msgD_ok l (k + 1 + 1)).2.2.2.2.2
  unfold pkBs
  split
  · exact ⟨by dsimp only; omega, encMsg_lenB _ _ _ _ _ _ _ _ _ _⟩
  · exact ⟨by dsimp only; omega, by simp⟩
theorem pkDr_ok (l : List Int) (s : Int × List Pkt × Nat) (i : Nat) : s.1 ≤ (pkDr l s i).1 ∧ (pkDr l s i).1 ≤ s.1 + 2 * i ∧ (pkDr l s i).2.2 ≤ s.2.2 + 710 * i ∧ (pkDr l s i).2.1.length = s.2.1.length + i := by
  induction i with
  | zero =>
    have e : pkDr l s 0 = s := rfl
    rw [e]
    omega
  | succ i ih =>
    have e : pkDr l s (i + 1) = pkSt l i (pkDr l s i) := rfl
    rw [e]
    generalize pkDr l s i = t at *
    obtain ⟨N, P, k⟩ := t
    dsimp only at ih
    unfold pkSt
    dsimp only
    have h1 := pkTo_k l (k + 1) (1 + ((pickV l k 7 : Nat) : Int))
    have h2 := (pkBs_ok l (pkTo l (k + 1) (1 + ((pickV l k 7 : Nat) : Int))).2 i).1
    have h3 := pickV_lt l (pkBs l (pkTo l (k + 1) (1 + ((pickV l k 7 : Nat) : Int))).2 i).2 2 (by decide)
    refine ⟨by omega, by omega, by omega, ?_⟩
    rw [List.length_append]
    simp
    omega
/-- what l3drawBag draws: the next number, the packets, the walls, and where the draws stand -/
def bagD (l : List Int) (k sz : Nat) : Int × List Pkt × List Int × Nat :=
  ((pkDr l (1 + ((pickV l k 3 : Nat) : Int), [], k + 1 + 1) (pickV l (k + 1) (3 + sz / 20))).1, (pkDr l (1 + ((pickV l k 3 : Nat) : Int), [], k + 1 + 1) (pickV l (k + 1) (3 + sz / 20))).2.1,
   (waDr l (pkDr l (1 + ((pickV l k 3 : Nat) : Int), [], k + 1 + 1) (pickV l (k + 1) (3 + sz / 20))).2.2 7).1, (waDr l (pkDr l (1 + ((pickV l k 3 : Nat) : Int), [], k + 1 + 1) (pickV l (k + 1) (3 + sz / 20))).2.2 7).2)

set_option maxHeartbeats 16000000 in
set_option maxRecDepth 100000 in
theorem l3drawBag_any (g : Nat) (w : World) (v : Value) (l : List Int) (k sz : Nat) (hL : l.length ≤ 1048576) (hk : k ≤ 1000) (hsz : sz ≤ 400) (h : Src w g v l k) :
    Calls Try.prog 69 #[.pointer (some ⟨g, 0, none⟩), .int .i64 (sz : Nat)] w fun r w' => ∃ va vc ua uc L, r = .returned (.agg #[.int .i64 (bagD l k sz).1, .slice va L.length vc, .slice ua (bagD l k sz).2.2.1.length uc]) ∧ cont L = (bagD l k sz).2.1 ∧ OwnP w' w.heap.size (.slice va L.length vc) L ∧ OwnI w' w.heap.size (.slice ua (bagD l k sz).2.2.1.length uc) (bagD l k sz).2.2.1 ∧ (∀ q, (Value.slice ua (bagD l k sz).2.2.1.length uc).ownBlock = some q → (Value.slice va L.length vc).ownBlock ≠ some q ∧ ∀ p ∈ L, p.2.ownBlock ≠ some q) ∧ Src w' g v l (bagD l k sz).2.2.2 ∧ w.grownBy w' (some g) := by
  have hg0 := h.lt
  have HBY : Hid (∀ j, 0 ≤ nextV l j ∧ nextV l j ≤ 255) := fun j => h.byte j
  have HD0 : Hid (Dr w (w.alloc (.cells #[.int .i64 0, .slice none 0 0, .slice none 0 0] 29)) g v l k [(w.heap.size, #[.int .i64 0, .slice none 0 0, .slice none 0 0], 29)]) := (Dr.start h).new #[.int .i64 0, .slice none 0 0, .slice none 0 0] 29 (noU8_of rfl)
  have b3 := pickV_lt l k 3 (by decide)
  have bn := pickV_lt l (k + 1) (3 + sz / 20) (by omega)
  unfold bagD
  obtain ⟨p3, hp3⟩ : ∃ p, p = pickV l k 3 := ⟨_, rfl⟩
  obtain ⟨m, hm⟩ : ∃ m, m = 3 + sz / 20 := ⟨_, rfl⟩
  obtain ⟨n, hn⟩ : ∃ n, n = pickV l (k + 1) m := ⟨_, rfl⟩
  rw [← hm] at bn ⊢
  rw [← hn] at bn ⊢
  rw [← hp3] at b3 ⊢
  have Hp3 : Hid (p3 = pickV l k 3) := hp3
  have Hn : Hid (n = pickV l (k + 1) m) := hn
  have hmb : 3 ≤ m ∧ m ≤ 23 := by omega
  have hq : (sz : Int).tdiv 20 = ((sz / 20 : Nat) : Int) := by rw [Int.tdiv_eq_ediv_of_nonneg (by omega)]; omega
  have hwm : IntKind.i64.wrap (3 + ((sz / 20 : Nat) : Int)) = (m : Int) := by rw [IntKind.wrap_i64] <;> omega
  have hmz : 3 + (sz : Int) / 20 = (m : Int) := by omega
  have hwq : IntKind.i64.wrap ((sz / 20 : Nat) : Int) = ((sz / 20 : Nat) : Int) := by rw [IntKind.wrap_i64] <;> omega
  obtain ⟨N0, hN0⟩ : ∃ z : Int, z = 1 + (p3 : Int) := ⟨_, rfl⟩
  rw [← hN0]
  have hN0b : 1 ≤ N0 ∧ N0 ≤ 3 := by omega
  have hwN : IntKind.i64.wrap (1 + (p3 : Int)) = N0 := by rw [IntKind.wrap_i64] <;> omega
  obtain ⟨S, hS⟩ : ∃ S, S = pkDr l (N0, [], k + 1 + 1) := ⟨_, rfl⟩
  rw [← hS]
  have HS0 : Hid (S 0 = (N0, [], k + 1 + 1)) := (by rw [hS]; rfl : S 0 = (N0, [], k + 1 + 1))
  have HSS : Hid (∀ i, S (i + 1) = pkSt l i (S i)) := fun i => (by rw [hS]; rfl : S (i + 1) = pkSt l i (S i))
  have HSb : Hid (∀ i, 1 ≤ (S i).1 ∧ (S i).1 ≤ 3 + 2 * i ∧ (S i).2.2 ≤ k + 2 + 710 * i) := fun i => (by
    have := pkDr_ok l (N0, [], k + 1 + 1) i
    rw [← hS] at this
    dsimp only at this
    omega : 1 ≤ (S i).1 ∧ (S i).1 ≤ 3 + 2 * i ∧ (S i).2.2 ≤ k + 2 + 710 * i)
  clear hS hp3 hn hN0 hm
  go_enter Try.func69, Try.ntmps69
  have G0 : True := trivial
  go_upto_region 3 with (first
    | (go_at_call 71; clear G0; refine (HD0.out.pick1 3 hL (by omega) (by decide) (by decide)).mono ?_; rintro r w1 ⟨rfl, hd⟩; rw [← Hp3.out]; have HD1 : Hid (Dr w (w1.alloc (.cells #[.int .i64 N0, .slice none 0 0, .slice none 0 0] 29)) g v l (k + 1) [(w.heap.size, #[.int .i64 0, .slice none 0 0, .slice none 0 0], 29), (w1.heap.size, #[.int .i64 N0, .slice none 0 0, .slice none 0 0], 29)]) := hd.new #[.int .i64 N0, .slice none 0 0, .slice none 0 0] 29 (noU8_of rfl); clear hd)
    | (go_at_call 71; refine (HD1.out.pick1 m hL (by omega) (by omega) (by omega)).mono ?_; rintro r w2 ⟨rfl, hd⟩; rw [← Hn.out]; have HD2 : Hid (Dr w w2 g v l (k + 1 + 1) [(w.heap.size, #[.int .i64 0, .slice none 0 0, .slice none 0 0], 29), (w1.heap.size, #[.int .i64 N0, .slice none 0 0, .slice none 0 0], 29)]) := hd; clear hd HD1))
  generalize hq1 : w1.heap.size = q at HD2 ⊢
  clear hq1
  go_wp2
  go_loopw [7] (fun iv wr => ∃ (i : Nat) (ra : Option Addr) (rc : Nat) (L : List Pk), i ≤ n ∧ iv = .int .i64 i ∧ i = L.length ∧ cont L = (S i).2.1 ∧ OwnP wr w.heap.size (.slice ra i rc) L ∧ Dr w wr g v l (S i).2.2 [(w.heap.size, #[.int .i64 0, .slice none 0 0, .slice none 0 0], 29), (q, #[.int .i64 (S i).1, .slice ra i rc, .slice none 0 0], 29)]) (fun iv _ => n - (intOf iv).toNat)
  case atStart =>
    refine ⟨0, none, 0, [], Nat.zero_le _, rfl, rfl, by rw [HS0.out]; rfl, OwnP.nil _ _, ?_⟩
    rw [HS0.out]
    exact HD2.out
  case round =>
    obtain ⟨i, ra, rc, L, hi, rfl, hiL, hcL, hoL, hdr⟩ := hrel
    have HcL : Hid (cont L = (S i).2.1) := hcL
    have HoL : Hid (OwnP wr w.heap.size (.slice ra i rc) L) := hoL
    have HiL : Hid (i = L.length) := hiL
    have hSb := HSb.out i
    have HSn : Hid (S (i + 1) = pkSt l i (S i)) := HSS.out i
    obtain ⟨N, P, K, hSi⟩ : ∃ N P K, S i = (N, P, K) := ⟨_, _, _, rfl⟩
    rw [hSi] at hdr hSb HSn HcL
    have HSi : Hid (S i = (N, P, K)) := hSi
    dsimp only at hdr hSb HcL
    have HDr : Hid (Dr w wr g v l K [(w.heap.size, #[.int .i64 0, .slice none 0 0, .slice none 0 0], 29), (q, #[.int .i64 N, .slice ra i rc, .slice none 0 0], 29)]) := hdr
    clear hcL hoL hiL hdr hSi HD2 HS0
    by_cases hlt : i < n
    case neg =>
      have hin : i = n := by omega
      subst hin
      have hn' : ¬ (i : Int) < (i : Int) := by omega
      obtain ⟨Wd, hWd⟩ : ∃ f, f = waDr l K := ⟨_, rfl⟩
      have HW0 : Hid (Wd 0 = ([], K)) := (by rw [hWd]; rfl : Wd 0 = ([], K))
      have HWS : Hid (∀ j, Wd (j + 1) = (if pickV l (Wd j).2 6 = 0 then (Wd j).1 ++ [((j + 1 : Nat) : Int)] else (Wd j).1, (Wd j).2 + 1)) := fun j => (by rw [hWd]; rfl : Wd (j + 1) = (if pickV l (Wd j).2 6 = 0 then (Wd j).1 ++ [((j + 1 : Nat) : Int)] else (Wd j).1, (Wd j).2 + 1))
      have HWk : Hid (∀ j, (Wd j).2 = K + j ∧ (Wd j).1.length ≤ j) := fun j => (by rw [hWd]; exact waDr_k l K j : (Wd j).2 = K + j ∧ (Wd j).1.length ≤ j)
      have HFin : Hid ((S i).1 = N ∧ (S i).2.1 = P ∧ waDr l (S i).2.2 7 = Wd 7) := (by rw [HSi.out, hWd]; exact ⟨rfl, rfl, rfl⟩ : (S i).1 = N ∧ (S i).2.1 = P ∧ waDr l (S i).2.2 7 = Wd 7)
      have hKb : K ≤ 20000 := by omega
      clear hWd HSn HSS HSb
      obtain ⟨W1, hW1⟩ : ∃ W, W = wr := ⟨_, rfl⟩
      subst hW1
      go_wp2
      go_loopw [11] (fun jv wr => ∃ (j : Nat) (ua : Option Addr) (nw uc : Nat), j ≤ 7 ∧ jv = .int .i64 ((j + 1 : Nat) : Int) ∧ nw = (Wd j).1.length ∧ OwnP wr w.heap.size (.slice ra i rc) L ∧ OwnI wr w.heap.size (.slice ua nw uc) (Wd j).1 ∧ Dr w wr g v l (Wd j).2 [(w.heap.size, #[.int .i64 0, .slice none 0 0, .slice none 0 0], 29), (q, #[.int .i64 N, .slice ra i rc, .slice ua nw uc], 29)]) (fun jv _ => 8 - (intOf jv).toNat)
      case atStart =>
        refine ⟨0, none, 0, 0, by omega, rfl, by rw [HW0.out]; rfl, HoL.out, ?_, ?_⟩
        · rw [HW0.out]; exact OwnI.nil _ _
        · rw [HW0.out]; exact HDr.out
      case round =>
        obtain ⟨j, ua, nw, uc, hj, rfl, hnw, hop, hoi, hdr⟩ := hrel
        have hwk := HWk.out j
        have HWn : Hid (Wd (j + 1) = (if pickV l (Wd j).2 6 = 0 then (Wd j).1 ++ [((j + 1 : Nat) : Int)] else (Wd j).1, (Wd j).2 + 1)) := HWS.out j
        obtain ⟨WL, KW, hWj⟩ : ∃ a b, Wd j = (a, b) := ⟨_, _, rfl⟩
        rw [hWj] at hwk HWn hdr hoi hnw
        dsimp only at hwk hdr hoi hnw
        have HWn' : Hid (Wd (j + 1) = (if pickV l KW 6 = 0 then WL ++ [((j + 1 : Nat) : Int)] else WL, KW + 1)) := HWn.out
        have HP : Hid (OwnP wr w.heap.size (.slice ra i rc) L) := hop
        have HI : Hid (OwnI wr w.heap.size (.slice ua nw uc) WL) := hoi
        have HD : Hid (Dr w wr g v l KW [(w.heap.size, #[.int .i64 0, .slice none 0 0, .slice none 0 0], 29), (q, #[.int .i64 N, .slice ra i rc, .slice ua nw uc], 29)]) := hdr
        have Hnw : Hid (nw = WL.length) := hnw
        have hnw7 : nw ≤ 7 := by omega
        have HWj : Hid (Wd j = (WL, KW)) := hWj
        clear hop hoi hdr hnw hWj HWn
        by_cases hj7 : j < 7
        case neg =>
          have h7 : j = 7 := by omega
          subst h7
          have cq := (HD.out.blk 1 rfl).cell
          go_wp2_with (first
            | (have hBA := HD; refine gate_ld 29 (.tmp 5) rfl ?_; clear hBA; refine wpl_load_blk rfl 29 (.tmp 5) rfl q rfl (HD.out.blk 1 rfl) Try.underlying29 rfl infoBagB rfl ?_)
            | (have hBA := HD; refine gate_st 29 (.tmp 4) _ rfl ?_; clear hBA; refine wpl_store_blk rfl 29 (.tmp 4) _ rfl (w.heap.size) rfl rfl (HD.out.blk 0 rfl) infoBagB rfl rfl (by simp [Value.oneCell']) ?_))
          have hb0 := HD.out.blk 0 rfl
          have hfin := HFin.out
          rw [HWj.out] at hfin
          have hpost : ∀ {e : Ending} {w' : World}, True := fun {_} {_} => trivial
          refine bodyPost_ret (results_blk Try.results69 rfl (hb0.row _) Try.underlying29 rfl infoBagB rfl) rfl ?_
          rw [hfin.1, hfin.2.1, hfin.2.2]
          have hoi := HI.out
          have hop := HP.out
          have hd := HD.out
          have hnw := Hnw.out
          subst hnw
          have hiL := HiL.out
          subst hiL
          refine ⟨ra, rc, ua, uc, L, rfl, HcL.out, hop.rowB hb0 (by decide) (by decide), hoi.rowB hb0 (by decide), fun q' e' => ⟨fun e2 => ownsRow.neRow hoi hop.row (by decide) q' e' e2, fun p hp e2 => ownsRow.neRow hoi (hop.bytes p hp).1.2 (by decide) q' e' e2⟩, (hd.row 0 rfl _ (noU8_of rfl)).src, (hd.row 0 rfl _ (noU8_of rfl)).grown⟩
        have hj7' : ((j + 1 : Nat) : Int) ≤ 7 := by omega
        have b6 := pickV_lt l KW 6 (by decide)
        obtain ⟨c6, hc6⟩ : ∃ p, p = pickV l KW 6 := ⟨_, rfl⟩
        rw [← hc6] at b6 HWn'
        have Hc6 : Hid (c6 = pickV l KW 6) := hc6
        clear hc6
        have hwj : IntKind.i64.wrap ((j : Int) + 1 + 1) = (j : Int) + 1 + 1 := by rw [IntKind.wrap_i64] <;> omega
        have hj7'' : (j : Int) + 1 ≤ 7 := by omega
        go_upto_if 77 with (go_at_call 71; refine (l1pick_any g _ v l KW 6 hL (by omega) (by decide) (by decide) HD.out.src).mono ?_; rintro r w3 ⟨rfl, hs, hgr⟩; rw [← Hc6.out]; have HD3 : Hid (Dr w w3 g v l (KW + 1) [(w.heap.size, #[.int .i64 0, .slice none 0 0, .slice none 0 0], 29), (q, #[.int .i64 N, .slice ra i rc, .slice ua nw uc], 29)]) := HD.out.call hs hgr; have HP3 : Hid (OwnP w3 w.heap.size (.slice ra i rc) L) := HP.out.grownD hgr hg0; have HI3 : Hid (OwnI w3 w.heap.size (.slice ua nw uc) WL) := HI.out.grown hgr hg0; clear hs hgr)
        by_cases cz : c6 = 0
        · rw [if_pos cz] at HWn'
          subst cz
          have cq3 := (HD3.out.blk 1 rfl).cell
          have HIa : Hid (OwnI (w3.alloc (.cells #[.int .i64 ((j : Int) + 1)] 3)) w.heap.size (.slice ua nw uc) WL) := HI3.out.below ((Below.refl _ _).alloc (Nat.le_refl _) _)
          have HPa : Hid (OwnP (w3.alloc (.cells #[.int .i64 ((j : Int) + 1)] 3)) w.heap.size (.slice ra i rc) L) := HP3.out.below ((Below.refl _ _).alloc (Nat.le_refl _) _)
          have HZ3 : Hid (w.heap.size ≤ w3.heap.size) := HD3.out.size
          have HWl : Hid (WL.length ≤ 1000000) := (by rw [← Hnw.out]; omega : WL.length ≤ 1000000)
          have hc0 : (w3.alloc (.cells #[.int .i64 ((j : Int) + 1)] 3)).cell? ⟨w3.heap.size, 0, none⟩ = some (.int .i64 ((j : Int) + 1)) := by simp
          have HC0 : Hid ((w3.alloc (.cells #[.int .i64 ((j : Int) + 1)] 3)).cell? ⟨w3.heap.size, 0, none⟩ = some (.int .i64 ((j : Int) + 1))) := hc0
          clear hc0
          go_wp2_with (at_builtin; refine wpl_appendI rfl (.tmp 79) (.tmp 81) rfl ((j : Int) + 1) HIa.out rfl w3.heap.size 1 HC0.out rfl HWl.out (by have := HZ3.out; simp; omega) ?_; intro v4 w4 ho4 hg4; have hd4 : Dr w w4 g v l (KW + 1) [(w.heap.size, #[.int .i64 0, .slice none 0 0, .slice none 0 0], 29), (q, #[.int .i64 N, .slice ra i rc, .slice ua nw uc], 29)] := (HD3.out.other _).grew hg4 (fun q' e' => (World.ownsRow.lt HIa.out q' e').1) (fun y hy => (by rcases List.mem_cons.1 hy with e | hy; exact (by rw [e]; exact ownsRow.neBlk HIa.out ((HD3.out.other _).blk 0 rfl) (by decide)); rw [List.mem_singleton.1 hy]; exact ownsRow.neBlk HIa.out ((HD3.out.other _).blk 1 rfl) (by decide))); have hp4 : OwnP w4 w.heap.size (.slice ra i rc) L := HPa.out.grewB hg4 (fun k' e' e2 => ownsRow.neRow HPa.out.row HIa.out (by decide) k' e' e2) (fun p hp k' e' e2 => ownsRow.neRow (HPa.out.bytes p hp).1.2 HIa.out (by decide) k' e' e2); obtain ⟨ub, ud, rfl⟩ := OwnI.shape ho4; have hln : (WL ++ [(j : Int) + 1]).length = nw + 1 := (by rw [List.length_append, ← Hnw.out]; rfl); rw [hln] at ho4; rw [hln]; have HI4 : Hid (OwnI w4 w.heap.size (.slice ub (nw + 1) ud) (WL ++ [(j : Int) + 1])) := ho4; have HP4 : Hid (OwnP w4 w.heap.size (.slice ra i rc) L) := hp4; have HD4 : Hid (Dr w w4 g v l (KW + 1) [(w.heap.size, #[.int .i64 0, .slice none 0 0, .slice none 0 0], 29), (q, #[.int .i64 N, .slice ra i rc, .slice ua nw uc], 29)]) := hd4; have cq4 := (hd4.blk 1 rfl).cell; have fq4 := (hd4.blk 1 rfl).free; clear ho4 hp4 hd4 hg4 hln)
          go_roundw
          case rel =>
            refine ⟨j + 1, ub, nw + 1, ud, by omega, by go_num, ?_, HP4.out.setB (HD4.out.blk 1 rfl) (by decide) (by decide) _, ?_, ?_⟩
            · rw [HWn'.out, List.length_append, ← Hnw.out]; rfl
            · rw [HWn'.out]
              exact OwnI.setB HI4.out (HD4.out.blk 1 rfl) (by decide) _
            · rw [HWn'.out]
              exact HD4.out.set 1 rfl 2 (by simp) _ rfl
          case measure => simp [intOf]; omega
        · rw [if_neg cz] at HWn'
          have cz' : ((c6 : Int) == 0) = false := by rw [beq_eq_false_iff_ne]; omega
          go_wp2_with fail
          go_roundw
          case rel =>
            refine ⟨j + 1, ua, nw, uc, by omega, by go_num, by rw [HWn'.out]; exact Hnw.out, HP3.out, by rw [HWn'.out]; exact HI3.out, by rw [HWn'.out]; exact HD3.out⟩
          case measure => simp [intOf]; omega
    have hlt' : (i : Int) < (n : Int) := by omega
    have bf := pickV_lt l K 7 (by decide)
    have b6 := pickV_lt l (K + 1) 6 (by decide)
    have b5 := pickV_lt l (K + 1 + 1) 5 (by decide)
    have b8 := pickV_lt l (K + 1 + 1 + 1) 8 (by decide)
    have hkt := pkTo_k l (K + 1) (1 + ((pickV l K 7 : Nat) : Int))
    have hto : pkTo l (K + 1) (1 + ((pickV l K 7 : Nat) : Int)) = if pickV l (K + 1 + 1) 5 = 0 then (11 + ((pickV l (K + 1 + 1 + 1) 8 : Nat) : Int), K + 1 + 1 + 1 + 1) else (1 + (1 + ((pickV l K 7 : Nat) : Int) + ((pickV l (K + 1) 6 : Nat) : Int)) % 7, K + 1 + 1 + 1) := rfl
    have hst := HSn.out
    unfold pkSt at hst
    dsimp only at hst
    obtain ⟨f7, hf7⟩ : ∃ p, p = pickV l K 7 := ⟨_, rfl⟩
    obtain ⟨t6, ht6⟩ : ∃ p, p = pickV l (K + 1) 6 := ⟨_, rfl⟩
    obtain ⟨c5, hc5⟩ : ∃ p, p = pickV l (K + 1 + 1) 5 := ⟨_, rfl⟩
    obtain ⟨t8, ht8⟩ : ∃ p, p = pickV l (K + 1 + 1 + 1) 8 := ⟨_, rfl⟩
    rw [← hf7] at hto hst bf hkt
    rw [← ht6] at hto b6
    rw [← hc5] at hto b5
    rw [← ht8] at hto b8
    obtain ⟨FR, hFR⟩ : ∃ z : Int, z = 1 + (f7 : Int) := ⟨_, rfl⟩
    rw [← hFR] at hto hst hkt
    have hFRb : 1 ≤ FR ∧ FR ≤ 7 := by omega
    have hwf : IntKind.i64.wrap (1 + (f7 : Int)) = FR := by rw [IntKind.wrap_i64] <;> omega
    obtain ⟨TO, K1, hTK⟩ : ∃ TO K1, pkTo l (K + 1) FR = (TO, K1) := ⟨_, _, rfl⟩
    rw [hTK] at hto hst hkt
    dsimp only at hst hkt
    have HTO : Hid ((TO, K1) = if c5 = 0 then (11 + (t8 : Int), K + 1 + 1 + 1 + 1) else (1 + (FR + (t6 : Int)) % 7, K + 1 + 1 + 1)) := hto
    have hbs := pkBs_ok l K1 i
    have hbe : pkBs l K1 i = if pickV l (K1 + 1) 3 = 0 then (encMsg (msgD l (K1 + 1 + 1)).ki (msgD l (K1 + 1 + 1)).fr (msgD l (K1 + 1 + 1)).td (msgD l (K1 + 1 + 1)).tm (msgD l (K1 + 1 + 1)).li (msgD l (K1 + 1 + 1)).lt (msgD l (K1 + 1 + 1)).cm (msgD l (K1 + 1 + 1)).ok (msgD l (K1 + 1 + 1)).hi (msgD l (K1 + 1 + 1)).es, (msgD l (K1 + 1 + 1)).k) else ([nextV l K1, (i : Int)], K1 + 1 + 1) := rfl
    obtain ⟨BS, K2, hBK⟩ : ∃ BS K2, pkBs l K1 i = (BS, K2) := ⟨_, _, rfl⟩
    rw [hBK] at hst hbs hbe
    dsimp only at hst hbs
    have HBE : Hid ((BS, K2) = if pickV l (K1 + 1) 3 = 0 then (encMsg (msgD l (K1 + 1 + 1)).ki (msgD l (K1 + 1 + 1)).fr (msgD l (K1 + 1 + 1)).td (msgD l (K1 + 1 + 1)).tm (msgD l (K1 + 1 + 1)).li (msgD l (K1 + 1 + 1)).lt (msgD l (K1 + 1 + 1)).cm (msgD l (K1 + 1 + 1)).ok (msgD l (K1 + 1 + 1)).hi (msgD l (K1 + 1 + 1)).es, (msgD l (K1 + 1 + 1)).k) else ([nextV l K1, (i : Int)], K1 + 1 + 1)) := hbe
    have b2 := pickV_lt l K2 2 (by decide)
    obtain ⟨n2, hn2⟩ : ∃ p, p = pickV l K2 2 := ⟨_, rfl⟩
    rw [← hn2] at hst b2
    have HST : Hid (S (i + 1) = (N + 1 + (n2 : Int), P ++ [⟨N, FR, TO, BS⟩], K2 + 1)) := hst
    have Hf7 : Hid (f7 = pickV l K 7) := hf7
    have Ht6 : Hid (t6 = pickV l (K + 1) 6) := ht6
    have Hc5 : Hid (c5 = pickV l (K + 1 + 1) 5) := hc5
    have Ht8 : Hid (t8 = pickV l (K + 1 + 1 + 1) 8) := ht8
    have Hn2 : Hid (n2 = pickV l K2 2) := hn2
    have hw6 : IntKind.i64.wrap (FR + (t6 : Int)) = FR + (t6 : Int) := by rw [IntKind.wrap_i64] <;> omega
    have ht7 : (FR + (t6 : Int)).tmod 7 = (FR + (t6 : Int)) % 7 := Int.tmod_eq_emod_of_nonneg (by omega)
    obtain ⟨T0, hT0⟩ : ∃ z : Int, z = 1 + (FR + (t6 : Int)) % 7 := ⟨_, rfl⟩
    rw [← hT0] at HTO
    have hw7 : IntKind.i64.wrap (1 + (FR + (t6 : Int)) % 7) = T0 := by rw [IntKind.wrap_i64] <;> omega
    have hKb : K ≤ 20000 := by omega
    clear hto hst hbe hTK hBK hf7 ht6 hc5 ht8 hn2 hFR hT0 HSn HSi
    have G1 : True := trivial
    have G2 : True := trivial
    go_upto_if 37 with (first
      | (go_at_call 71; clear G1; refine (l1pick_any g _ v l K 7 hL (by omega) (by decide) (by decide) HDr.out.src).mono ?_; rintro r w3 ⟨rfl, hs, hgr⟩; rw [← Hf7.out]; have HD3 : Hid (Dr w w3 g v l (K + 1) [(w.heap.size, #[.int .i64 0, .slice none 0 0, .slice none 0 0], 29), (q, #[.int .i64 N, .slice ra i rc, .slice none 0 0], 29)]) := HDr.out.call hs hgr; have HO3 : Hid (OwnP w3 w.heap.size (.slice ra i rc) L) := HoL.out.grownD hgr hg0; clear hs hgr)
      | (go_at_call 71; clear G2; refine (l1pick_any g _ v l (K + 1) 6 hL (by omega) (by decide) (by decide) HD3.out.src).mono ?_; rintro r w4 ⟨rfl, hs, hgr⟩; rw [← Ht6.out]; have HD4 : Hid (Dr w w4 g v l (K + 1 + 1) [(w.heap.size, #[.int .i64 0, .slice none 0 0, .slice none 0 0], 29), (q, #[.int .i64 N, .slice ra i rc, .slice none 0 0], 29)]) := HD3.out.call hs hgr; have HO4 : Hid (OwnP w4 w.heap.size (.slice ra i rc) L) := HO3.out.grownD hgr hg0; clear hs hgr)
      | (go_at_call 71; refine (l1pick_any g _ v l (K + 1 + 1) 5 hL (by omega) (by decide) (by decide) HD4.out.src).mono ?_; rintro r w5 ⟨rfl, hs, hgr⟩; rw [← Hc5.out]; have HD5 : Hid (Dr w w5 g v l (K + 1 + 1 + 1) [(w.heap.size, #[.int .i64 0, .slice none 0 0, .slice none 0 0], 29), (q, #[.int .i64 N, .slice ra i rc, .slice none 0 0], 29)]) := HD4.out.call hs hgr; have HO5 : Hid (OwnP w5 w.heap.size (.slice ra i rc) L) := HO4.out.grownD hgr hg0; clear hs hgr))
    go_cut [9, 37] (fun s _ wx => s = .int .i64 TO ∧ OwnP wx w.heap.size (.slice ra i rc) L ∧ Dr w wx g v l K1 [(w.heap.size, #[.int .i64 0, .slice none 0 0, .slice none 0 0], 29), (q, #[.int .i64 N, .slice ra i rc, .slice none 0 0], 29)])
    case first =>
      by_cases cz : c5 = 0
      · subst cz
        have hx := HTO.out
        rw [if_pos rfl] at hx
        injection hx with hxa hxb
        have hw8 : IntKind.i64.wrap (11 + (t8 : Int)) = TO := by rw [IntKind.wrap_i64] <;> omega
        have HKK : Hid (K + 1 + 1 + 1 + 1 = K1) := hxb.symm
        clear hxa hxb HTO
        go_wp2_with (go_at_call 71; refine (l1pick_any g _ v l (K + 1 + 1 + 1) 8 hL (by omega) (by decide) (by decide) HD5.out.src).mono ?_; rintro r w6 ⟨rfl, hs, hgr⟩; rw [← Ht8.out]; have HD6 : Hid (Dr w w6 g v l (K + 1 + 1 + 1 + 1) [(w.heap.size, #[.int .i64 0, .slice none 0 0, .slice none 0 0], 29), (q, #[.int .i64 N, .slice ra i rc, .slice none 0 0], 29)]) := HD5.out.call hs hgr; have HO6 : Hid (OwnP w6 w.heap.size (.slice ra i rc) L) := HO5.out.grownD hgr hg0; clear hs hgr)
        go_meet
        exact ⟨rfl, HO6.out, by rw [← HKK.out]; exact HD6.out⟩
      · have hx := HTO.out
        rw [if_neg cz] at hx
        injection hx with hxa hxb
        subst hxa hxb
        have cz' : ((c5 : Int) == 0) = false := by rw [beq_eq_false_iff_ne]; omega
        go_wp2_with fail
        go_meet
        exact ⟨rfl, HO5.out, HD5.out⟩
    case rest =>
      obtain ⟨rfl, ho6, hd6⟩ := hcut
      have HO6 : Hid (OwnP wc w.heap.size (.slice ra i rc) L) := ho6
      have HD6 : Hid (Dr w wc g v l K1 [(w.heap.size, #[.int .i64 0, .slice none 0 0, .slice none 0 0], 29), (q, #[.int .i64 N, .slice ra i rc, .slice none 0 0], 29)]) := hd6
      clear ho6 hd6 HTO HD5 HO5 HD4 HO4 HD3 HO3 HDr HoL
      obtain ⟨W6, hW6⟩ : ∃ W6, W6 = wc := ⟨_, rfl⟩
      subst hW6
      have HLts : Hid ((∀ k, (Value.slice ra i rc).ownBlock = some k → k < W6.heap.size) ∧ ∀ p' ∈ L, ∀ k, p'.2.ownBlock = some k → k < W6.heap.size) := HO6.out.lts
      have hx8 := HBY.out K1
      have b3c := pickV_lt l (K1 + 1) 3 (by decide)
      obtain ⟨x, hx⟩ : ∃ x, x = nextV l K1 := ⟨_, rfl⟩
      obtain ⟨c3, hc3⟩ : ∃ p, p = pickV l (K1 + 1) 3 := ⟨_, rfl⟩
      rw [← hx] at hx8 HBE
      rw [← hc3] at b3c HBE
      have Hx : Hid (x = nextV l K1) := hx
      have Hc3 : Hid (c3 = pickV l (K1 + 1) 3) := hc3
      have hok := msgD_ok l (K1 + 1 + 1)
      have HDm : Hid (∀ u : World, Src u g v l (K1 + 1 + 1) → Calls Try.prog 101 #[.pointer (some ⟨g, 0, none⟩)] u fun r w' => ∃ ea ec, r = .returned (.agg #[.int .i64 (msgD l (K1 + 1 + 1)).ki, .int .i64 (msgD l (K1 + 1 + 1)).fr, .int .i64 (msgD l (K1 + 1 + 1)).td, .int .i64 (msgD l (K1 + 1 + 1)).tm, .int .i64 (msgD l (K1 + 1 + 1)).li, .int .i64 (msgD l (K1 + 1 + 1)).lt, .int .i64 (msgD l (K1 + 1 + 1)).cm, .int .i64 (msgD l (K1 + 1 + 1)).ok, .int .i64 (msgD l (K1 + 1 + 1)).hi, .slice ea (msgD l (K1 + 1 + 1)).es.length ec]) ∧ OwnE w' u.heap.size (.slice ea (msgD l (K1 + 1 + 1)).es.length ec) (msgD l (K1 + 1 + 1)).es ∧ Src w' g v l (msgD l (K1 + 1 + 1)).k ∧ u.grownBy w' (some g)) := fun u hu => l1drawMsg_any g u v l (K1 + 1 + 1) hL (by omega) hu
      generalize msgD l (K1 + 1 + 1) = M at *
      obtain ⟨ne, hne⟩ : ∃ ne, ne = M.es.length := ⟨_, rfl⟩
      rw [← hne] at HDm hok
      have Hne : Hid (ne = M.es.length) := hne
      have hE32 : ne ≤ 32 := hok.2.2.2.2.1
      clear hne hok hx hc3
      have HEm : Hid (∀ (u : World) (ea : Option Addr) (ec B0 : Nat), OwnE u B0 (.slice ea ne ec) M.es → Calls Try.prog 24 #[.agg #[.int .i64 M.ki, .int .i64 M.fr, .int .i64 M.td, .int .i64 M.tm, .int .i64 M.li, .int .i64 M.lt, .int .i64 M.cm, .int .i64 M.ok, .int .i64 M.hi, .slice ea ne ec]] u fun r w' => ∃ v', r = .returned v' ∧ Own w' u.heap.size v' (encMsg M.ki M.fr M.td M.tm M.li M.lt M.cm M.ok M.hi M.es) ∧ Below u.heap.size u w') := fun u ea ec B0 ho => specEncodeMsg_any _ _ _ _ _ _ _ _ _ _ M.es u (ho.es (by rw [← Hne.out]; unfold maxLen; omega)) (by rw [← Hne.out]; omega)
      generalize encMsg M.ki M.fr M.td M.tm M.li M.lt M.cm M.ok M.hi M.es = BM at *
      generalize M.k = KM at *
      obtain ⟨nb, hnb⟩ : ∃ n, n = BS.length := ⟨_, rfl⟩
      rw [← hnb] at hbs
      have Hnb : Hid (nb = BS.length) := hnb
      clear hnb
      have hwx : IntKind.u8.wrap x = x := by simp [IntKind.wrap, IntKind.signed, IntKind.bits]; omega
      have hwi : IntKind.u8.wrap (i : Int) = (i : Int) := by simp [IntKind.wrap, IntKind.signed, IntKind.bits]; omega
      have HLit : Hid (∀ y ∈ [x, (i : Int)], 0 ≤ y ∧ y ≤ 255) := fun y hy => (by simp at hy; omega : 0 ≤ y ∧ y ≤ 255)
      go_upto_if 49 with (first
        | (go_at_call 73; refine (l1next_any g _ v l K1 hL (by omega) HD6.out.src).mono ?_; rintro r w7 ⟨rfl, hs, hgr⟩; rw [← Hx.out]; have HD7 : Hid (Dr w w7 g v l (K1 + 1) [(w.heap.size, #[.int .i64 0, .slice none 0 0, .slice none 0 0], 29), (q, #[.int .i64 N, .slice ra i rc, .slice none 0 0], 29)]) := HD6.out.call hs hgr; have HO7 : Hid (OwnP w7 w.heap.size (.slice ra i rc) L) := HO6.out.grownD hgr hg0; have hz7 := hgr.size; clear hs hgr)
        | (go_at_call 71; refine (l1pick_any g _ v l (K1 + 1) 3 hL (by omega) (by decide) (by decide) (HD7.out.other (.cells #[.int .u8 x, .int .u8 (i : Int)] 5)).src).mono ?_; rintro r w8 ⟨rfl, hs, hgr⟩; rw [← Hc3.out]; have HD8 : Hid (Dr w w8 g v l (K1 + 1 + 1) [(w.heap.size, #[.int .i64 0, .slice none 0 0, .slice none 0 0], 29), (q, #[.int .i64 N, .slice ra i rc, .slice none 0 0], 29)]) := (HD7.out.other (.cells #[.int .u8 x, .int .u8 (i : Int)] 5)).call hs hgr; have HO8 : Hid (OwnP w8 w.heap.size (.slice ra i rc) L) := (HO7.out.below ((Below.refl _ _).alloc (Nat.le_refl _) _)).grownD hgr hg0; have HB8 : Hid (Own w8 W6.heap.size (.slice (some ⟨w7.heap.size, 0, none⟩) 2 2) [x, (i : Int)]) := ((Own.lit w7 [x, (i : Int)] #[.int .u8 x, .int .u8 (i : Int)] rfl HLit.out (by simp [maxLen])).grownL hgr (Nat.lt_of_lt_of_le hg0 HD7.out.size)).le hz7; have HZ8 : Hid (W6.heap.size ≤ w8.heap.size) := (by have h1 := hgr.size; simp at h1; omega : W6.heap.size ≤ w8.heap.size); clear hs hgr))
      go_cut [10, 49] (fun s _ wx => ∃ ba bc, s = .slice ba nb bc ∧ Own wx W6.heap.size (.slice ba nb bc) BS ∧ OwnP wx w.heap.size (.slice ra i rc) L ∧ Dr w wx g v l K2 [(w.heap.size, #[.int .i64 0, .slice none 0 0, .slice none 0 0], 29), (q, #[.int .i64 N, .slice ra i rc, .slice none 0 0], 29)])
      case first =>
        by_cases cz : c3 = 0
        · subst cz
          have hx := HBE.out
          rw [if_pos rfl] at hx
          injection hx with hxa hxb
          have HBB : Hid (BM = BS) := hxa.symm
          have HKK : Hid (KM = K2) := hxb.symm
          clear hxa hxb HBE
          go_wp2_with (first
            | (go_at_call 101; refine (HDm.out _ HD8.out.src).mono ?_; rintro r w9 ⟨ea, ec, rfl, ho9, hs, hgr⟩; rw [HKK.out] at hs; have HD9 : Hid (Dr w w9 g v l K2 [(w.heap.size, #[.int .i64 0, .slice none 0 0, .slice none 0 0], 29), (q, #[.int .i64 N, .slice ra i rc, .slice none 0 0], 29)]) := HD8.out.call hs hgr; have HO9 : Hid (OwnP w9 w.heap.size (.slice ra i rc) L) := HO8.out.grownD hgr hg0; have HE9 : Hid (OwnE w9 w8.heap.size (.slice ea ne ec) M.es) := ho9; have hz9 := hgr.size; clear hs hgr ho9)
            | (go_at_call 24; refine (HEm.out _ ea ec _ HE9.out).mono ?_; rintro r w10 ⟨v10, rfl, ho10, hb10⟩; rw [HBB.out] at ho10; obtain ⟨a10, c10, rfl⟩ := ho10.shape; rw [← Hnb.out] at ho10; rw [← Hnb.out]; have HB10 : Hid (Own w10 w9.heap.size (.slice a10 nb c10) BS) := ho10; have HD10 : Hid (Dr w w10 g v l K2 [(w.heap.size, #[.int .i64 0, .slice none 0 0, .slice none 0 0], 29), (q, #[.int .i64 N, .slice ra i rc, .slice none 0 0], 29)]) := HD9.out.below hb10; have HO10 : Hid (OwnP w10 w.heap.size (.slice ra i rc) L) := HO9.out.below hb10; clear ho10 hb10))
          go_meet
          exact ⟨a10, c10, rfl, HB10.out.le (Nat.le_trans HZ8.out hz9), HO10.out, HD10.out⟩
        · have hx := HBE.out
          rw [if_neg cz] at hx
          injection hx with hxa hxb
          have HBB : Hid ([x, (i : Int)] = BS) := hxa.symm
          have hnn : 2 = nb := by rw [Hnb.out, hxa]; rfl
          subst hnn
          have HKK : Hid (K1 + 1 + 1 = K2) := hxb.symm
          clear hxa hxb HBE
          have cz' : ((c3 : Int) == 0) = false := by rw [beq_eq_false_iff_ne]; omega
          go_wp2_with fail
          go_meet
          exact ⟨_, _, rfl, by rw [← HBB.out]; exact HB8.out, HO8.out, by rw [← HKK.out]; exact HD8.out⟩
      case rest =>
        obtain ⟨ba, bc, rfl, hb9, ho9, hd9⟩ := hcut
        have HB9 : Hid (Own wc W6.heap.size (.slice ba nb bc) BS) := hb9
        have HO9 : Hid (OwnP wc w.heap.size (.slice ra i rc) L) := ho9
        have HD9 : Hid (Dr w wc g v l K2 [(w.heap.size, #[.int .i64 0, .slice none 0 0, .slice none 0 0], 29), (q, #[.int .i64 N, .slice ra i rc, .slice none 0 0], 29)]) := hd9
        clear hb9 ho9 hd9 HB8 HO8 HD8 HO7 HD7 HBE HDm HEm
        obtain ⟨W9, hW9⟩ : ∃ W9, W9 = wc := ⟨_, rfl⟩
        subst hW9
        have cq9 := (HD9.out.blk 1 rfl).cell
        have HZ6 : Hid (w.heap.size ≤ W6.heap.size) := HD6.out.size
        have HZ9 : Hid (w.heap.size ≤ W9.heap.size) := HD9.out.size
        have HOa : Hid (OwnP (W9.alloc (.cells #[.int .i64 N, .int .i64 FR, .int .i64 TO, .slice ba nb bc] 60)) w.heap.size (.slice ra i rc) L) := HO9.out.below ((Below.refl _ _).alloc (Nat.le_refl _) _)
        have HBa : Hid (Own (W9.alloc (.cells #[.int .i64 N, .int .i64 FR, .int .i64 TO, .slice ba nb bc] 60)) W6.heap.size (.slice ba nb bc) BS) := HB9.out.below ((Below.refl _ _).alloc (Nat.le_refl _) _)
        have hL2 : L.length ≤ 1100000 := by have := HiL.out; omega
        have HL2 : Hid (L.length ≤ 1100000) := hL2
        have HBl : Hid (BS.length ≤ maxLen) := (by rw [← Hnb.out]; unfold maxLen; omega : BS.length ≤ maxLen)
        clear hL2
        go_upto_region 14 with (at_builtin; refine wpl_appendP rfl (.tmp 54) (.tmp 61) rfl (⟨N, FR, TO, BS⟩, .slice ba nb bc) HOa.out rfl W9.heap.size 1 (pkAt_new W9 N FR TO BS (.slice ba nb bc)) rfl HBa.out HBl.out HZ6.out HLts.out rfl HL2.out (by have := HZ9.out; simp; omega) ?_; intro v10 w10 ho10 hg10; have hd10 : Dr w w10 g v l K2 [(w.heap.size, #[.int .i64 0, .slice none 0 0, .slice none 0 0], 29), (q, #[.int .i64 N, .slice ra i rc, .slice none 0 0], 29)] := (HD9.out.other _).grew hg10 (fun q' e' => (HOa.out.row.lt q' e').1) (fun y hy => (by rcases List.mem_cons.1 hy with e | hy; exact (by rw [e]; exact HOa.out.neBlk ((HD9.out.other _).blk 0 rfl) (by decide)); rw [List.mem_singleton.1 hy]; exact HOa.out.neBlk ((HD9.out.other _).blk 1 rfl) (by decide))); obtain ⟨sa, sc, rfl⟩ := ho10.shape; have hln : (L ++ [((⟨N, FR, TO, BS⟩ : Pkt), Value.slice ba nb bc)]).length = i + 1 := (by rw [List.length_append, ← HiL.out]; rfl); rw [hln] at ho10; rw [hln]; have HO10 : Hid (OwnP w10 w.heap.size (.slice sa (i + 1) sc) (L ++ [((⟨N, FR, TO, BS⟩ : Pkt), Value.slice ba nb bc)])) := ho10; have HD10 : Hid (Dr w w10 g v l K2 [(w.heap.size, #[.int .i64 0, .slice none 0 0, .slice none 0 0], 29), (q, #[.int .i64 N, .slice ra i rc, .slice none 0 0], 29)]) := hd10; have cq10 := (hd10.blk 1 rfl).cell; have fq10 := (hd10.blk 1 rfl).free; clear ho10 hd10 hg10 hln)
        have HD11 : Hid (Dr w (w10.setCell ⟨q, 1, none⟩ (.slice sa (i + 1) sc)) g v l K2 [(w.heap.size, #[.int .i64 0, .slice none 0 0, .slice none 0 0], 29), (q, #[.int .i64 N, .slice sa (i + 1) sc, .slice none 0 0], 29)]) := HD10.out.set 1 rfl 1 (by simp) (.slice sa (i + 1) sc) rfl
        have HO11 : Hid (OwnP (w10.setCell ⟨q, 1, none⟩ (.slice sa (i + 1) sc)) w.heap.size (.slice sa (i + 1) sc) (L ++ [((⟨N, FR, TO, BS⟩ : Pkt), Value.slice ba nb bc)])) := HO10.out.setB (HD10.out.blk 1 rfl) (by decide) (by decide) _
        obtain ⟨W11, hW11⟩ : ∃ W, W = w10.setCell ⟨q, 1, none⟩ (.slice sa (i + 1) sc) := ⟨_, rfl⟩
        rw [← hW11] at HD11 HO11 ⊢
        clear hW11 HD10 HO10 HD9 HO9 HB9 HOa HBa cq9 HD6 HO6
        have hwa : IntKind.i64.wrap (N + 1) = N + 1 := by rw [IntKind.wrap_i64] <;> omega
        have hwb : IntKind.i64.wrap (N + 1 + (n2 : Int)) = N + 1 + (n2 : Int) := by rw [IntKind.wrap_i64] <;> omega
        have hK2b : K2 ≤ 30000 := by omega
        have cq11 := (HD11.out.blk 1 rfl).cell
        have fq11 := (HD11.out.blk 1 rfl).free
        go_region_with (go_at_call 71; refine (l1pick_any g _ v l K2 2 hL (by omega) (by decide) (by decide) HD11.out.drew.src).mono ?_; rintro r w12 ⟨rfl, hs, hgr⟩; rw [← Hn2.out]; have HD12 : Hid (Dr w w12 g v l (K2 + 1) [(w.heap.size, #[.int .i64 0, .slice none 0 0, .slice none 0 0], 29), (q, #[.int .i64 N, .slice sa (i + 1) sc, .slice none 0 0], 29)]) := HD11.out.drew.call hs hgr; have HO12 : Hid (OwnP w12 w.heap.size (.slice sa (i + 1) sc) (L ++ [((⟨N, FR, TO, BS⟩ : Pkt), Value.slice ba nb bc)])) := (HO11.out.below ((Below.refl _ _).drew)).grownD hgr hg0; have cq12 := (HD12.out.blk 1 rfl).cell; have fq12 := (HD12.out.blk 1 rfl).free; clear hs hgr)
        all_goals go_wp2_with fail
        all_goals have HO13 := HO12.out.setB (j := 0) (HD12.out.blk 1 rfl) (by decide) (by decide) (.int .i64 (N + 1 + (n2 : Int)))
        all_goals have HD13 := HD12.out.set 1 rfl 0 (by simp) (.int .i64 (N + 1 + (n2 : Int))) rfl
        all_goals go_roundw
        all_goals first
          | (simp [intOf]; omega)
          | (refine ⟨i + 1, sa, sc, L ++ [((⟨N, FR, TO, BS⟩ : Pkt), Value.slice ba nb bc)], by omega, by go_num, by rw [List.length_append, ← HiL.out]; rfl, ?_, HO13, ?_⟩
             · rw [HST.out]
               unfold cont
               rw [List.map_append]
               have := HcL.out
               unfold cont at this
               rw [this]
               rfl
             · rw [HST.out]
               exact HD13)
end Go.Proofs.Ytfcmffdljfljkaa
