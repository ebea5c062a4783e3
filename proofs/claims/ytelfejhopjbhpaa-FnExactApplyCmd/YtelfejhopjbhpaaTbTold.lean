/-
  (impl.table).told.
-/
import Derived.Test.YtelfejhopjbhpaaTbOf
namespace Go.Proofs.Ytelfejhopjbhpaa
open Go.RowKit Go.Maps
set_option linter.unusedVariables false
set_option linter.unusedSimpArgs false

theorem zeroPr (w : World) : (zeroValue 76).run Try.prog w = .ok (.agg #[.string ⟨#[]⟩, .string ⟨#[]⟩]) w := by kernel_rfl
theorem zeroSe (w : World) : (zeroValue 78).run Try.prog w = .ok (.agg #[.int .i64 0, .int .i64 0, .int .i64 0, .string ⟨#[]⟩]) w := by kernel_rfl

section
variable {α : Type} {kd : α → Lit} {vl : α → Value} {ops : Array Oper} {rest : List Oper} {o : Oper} {a : Act} {Q : Exit → Act → World → Prop}
/-- m[x] -/
theorem wpl_look (w : World) (hg : o.guard = none) (m x : Operand) (t : TypeId) (hop : o.op = Op.lookup t m x false) (k e : TypeId) (K : Keyed Try.prog k) (ht : Try.prog.underlying t = some (.map k e)) {z : Value} (hz : (zeroValue e).run Try.prog w = .ok z w)
    (b n : Nat) (l : List α) (hm : a.eval m = .map (some b)) (hown : w.ownsMap Try.prog k heldE b n (kMap kd vl l)) (key : Value) (kl : Lit) (hx : a.eval x = key) (hkey : keyOf Try.prog k key = some kl) (V : Value) (hV : (l.find? fun a => (kd a).sameKey kl).elim z vl = V)
    (hK : wpList Try.prog ops Q rest (a.put o.dst V) w) : wpList Try.prog ops Q (o :: rest) a w := by
  refine wpList_plain hg fun K' hK' => ?_
  obtain ⟨v, ps, hrun, hv⟩ := hown.lookup (zd := .held z) (zp := []) K ht hz rfl hkey
  rw [atKey_kMap, hV] at hv
  obtain rfl : v = V := by
    simp only [heldE, Option.some.injEq, Prod.mk.injEq, DataW.held.injEq] at hv
    exact hv.1
  unfold Oper.wp
  simp [execOp, hop, hm, hx, hrun, Result.andThen]
  exact hK' _ _ hK
/-- v, ok := m[x] -/
theorem wpl_lookOk (w : World) (hg : o.guard = none) (m x : Operand) (t : TypeId) (hop : o.op = Op.lookup t m x true) (k e : TypeId) (K : Keyed Try.prog k) (ht : Try.prog.underlying t = some (.map k e)) {z : Value} (hz : (zeroValue e).run Try.prog w = .ok z w)
    (b n : Nat) (l : List α) (hm : a.eval m = .map (some b)) (hown : w.ownsMap Try.prog k heldE b n (kMap kd vl l)) (key : Value) (kl : Lit) (hx : a.eval x = key) (hkey : keyOf Try.prog k key = some kl) (V : Value) (hV : (l.find? fun a => (kd a).sameKey kl).elim z vl = V) (c : Bool) (hc : (l.any fun a => (kd a).sameKey kl) = c)
    (hK : wpList Try.prog ops Q rest (a.put o.dst (.tuple #[V, .bool c])) w) : wpList Try.prog ops Q (o :: rest) a w := by
  refine wpList_plain hg fun K' hK' => ?_
  obtain ⟨v, ps, hrun, hv⟩ := hown.look_ok (zd := .held z) (zp := []) K ht hz rfl hkey
  rw [atKey_kMap, hV] at hv
  obtain rfl : v = V := by
    simp only [heldE, Option.some.injEq, Prod.mk.injEq, DataW.held.injEq] at hv
    exact hv.1
  rw [has_kMap, hc] at hrun
  unfold Oper.wp
  simp [execOp, hop, hm, hx, hrun, Result.andThen]
  exact hK' _ _ hK
end

theorem grown_app {W wr w2 w3 : World} {p : Nat} {v v' : Value} (hG : W.grownBy wr (some p)) (h1 : Below wr.heap.size wr w2) (hg : Grew w2 v w3 v') (hv : ∀ k, v.ownBlock = some k → W.heap.size ≤ k) (o : Nat) (x : Value) : W.grownBy (w3.setCell ⟨p, o, none⟩ x) (some p) := by
  have hs := hG.size
  have hs1 := h1.size
  have hs2 := hg.g.size
  refine ⟨hg.g.os.trans (h1.os.trans hG.os), hg.g.tape.trans (h1.tape.trans hG.tape), hg.g.output.trans (h1.output.trans hG.output), by simp [World.setCell]; omega, fun j hj hne => ?_⟩
  rw [Below.heap_setCell _ _ _ _ (fun e => hne (by simp only [] at e; rw [e])), hg.block (by omega) (fun e => by have := hv j e; omega), h1.block j (by omega), hG.block j hj hne]
theorem Blk.grewG {w w' : World} {v v' : Value} {b : Nat} {C : Array Value} {t : TypeId} (h : Blk w b C t) (hg : Grew w v w' v') (hne : v.ownBlock ≠ some b) : Blk w' b C t := h.keep (hg.block h.lt hne)
theorem stLaw : GLaw stC 1 9 108 := {
  und := Try.underlying108
  info := by
    obtain ⟨i0, hi, hz0, hz1, hz2⟩ := info_parts (show (Try.prog.info? 9).map (fun i => (i.zero, i.size, i.bytes)) = some (some (.string ⟨#[]⟩), 1, 16) by kernel_rfl)
    exact ⟨i0, _, _, hi, hz0, hz1, hz2, rfl, by decide⟩
  pos := by decide
  len := fun _ => rfl
  one := fun a u hu => by
    simp only [stC, List.mem_cons, List.not_mem_nil, or_false] at hu
    subst hu; rfl }
theorem inLaw : GLaw inC 1 3 96 := {
  und := Try.underlying96
  info := by
    obtain ⟨i0, hi, hz0, hz1, hz2⟩ := info_parts (show (Try.prog.info? 3).map (fun i => (i.zero, i.size, i.bytes)) = some (some (.int .i64 0), 1, 8) by kernel_rfl)
    exact ⟨i0, _, _, hi, hz0, hz1, hz2, rfl, by decide⟩
  pos := by decide
  len := fun _ => rfl
  one := fun a u hu => by
    simp only [inC, List.mem_cons, List.not_mem_nil, or_false] at hu
    subst hu; rfl }
theorem find_pr {ps : List Pr} (hr : KRise prK ps) {k : Nat} (hk : k < ps.length) (z : Value) : (ps.find? fun a => (prK a).sameKey (txK ps[k].k)).elim z prV = .agg #[.string ps[k].k, .string ps[k].v] := by
  have h := find_at prOrd hr hk
  rw [show txK ps[k].k = prK ps[k] from rfl, h]; rfl
theorem find_se {ps : List Se} (hr : KRise seK ps) {k : Nat} (hk : k < ps.length) (z : Value) : (ps.find? fun a => (seK a).sameKey (.int .i64 ps[k].cl)).elim z seV = .agg #[.int .i64 ps[k].cl, .int .i64 ps[k].sq, .int .i64 ps[k].cd, .string ps[k].v] := by
  have h := find_at seOrd hr hk
  rw [show Lit.int .i64 ps[k].cl = seK ps[k] from rfl, h]; rfl

theorem rise_len : ∀ (l : List Se) (lo : Int), KRise seK l → (∀ s ∈ l, lo < s.cl ∧ s.cl ≤ 8) → lo ≤ 8 → (l.length : Int) ≤ 8 - lo
  | [], lo, _, _, h => by simp; omega
  | a :: r, lo, hr, ha, h => by
    have h1 := ha a (by simp)
    have h2 := rise_len r a.cl (List.Pairwise.of_cons hr) (fun s hs => ⟨by have h3 : decide (a.cl < s.cl) = true := List.rel_of_pairwise_cons hr hs; simpa using h3, (ha s (by simp [hs])).2⟩) h1.2
    rw [List.length_cons]
    omega
theorem SsOk.len {ss : List Se} (h : SsOk ss) : ss.length ≤ 8 := by
  have := rise_len ss 0 h.rise (fun s hs => by have := (h.all s hs).1; omega) (by omega)
  omega
theorem Sts.at_ {w : World} {a : Option Addr} {cap : Nat} {ps : List Pr} (h : Sl stC 1 w (.slice a ps.length cap) (ps.map (·.k))) {k : Nat} (hk : k < ps.length) : ∃ b off, a = some ⟨b, off, none⟩ ∧ w.cell? ⟨b, off + k, none⟩ = some (.string ps[k].k) := by
  obtain ⟨_, a', cap', e, hc⟩ := h
  injection e with e1 _ _
  subst e1
  obtain ⟨b, off, rfl, hj⟩ := hc k (by simpa using hk)
  have h1 := hj k (by simpa using hk) 0 _ rfl
  refine ⟨b, off, rfl, ?_⟩
  simpa using h1
theorem Ins.at_ {w : World} {a : Option Addr} {cap : Nat} {ps : List Se} (h : Sl inC 1 w (.slice a ps.length cap) (ps.map (·.cl))) {k : Nat} (hk : k < ps.length) : ∃ b off, a = some ⟨b, off, none⟩ ∧ w.cell? ⟨b, off + k, none⟩ = some (.int .i64 ps[k].cl) := by
  obtain ⟨_, a', cap', e, hc⟩ := h
  injection e with e1 _ _
  subst e1
  obtain ⟨b, off, rfl, hj⟩ := hc k (by simpa using hk)
  have h1 := hj k (by simpa using hk) 0 _ rfl
  refine ⟨b, off, rfl, ?_⟩
  simpa using h1

set_option maxHeartbeats 4000000 in
set_option maxRecDepth 100000 in
theorem told_any (b c : Nat) (ps : List Pr) (ss : List Se) (w : World) (hP : MP w b ps) (hS : MS w c ss) (hp : PsOk ps) (hs : SsOk ss) :
    Calls Try.prog 34 #[.agg #[.map (some b), .map (some c)]] w fun e w' => ∃ v u, e = .returned (.agg #[v, u]) ∧ OwnPr w' w.heap.size v ps ∧ OwnSe w' w.heap.size u ss ∧ (∀ k, u.ownBlock = some k → v.ownBlock ≠ some k) ∧ Below w.heap.size w w' := by
  have hbw := hP.lt
  have hcw := hS.lt
  have HP : Hid (MP w b ps) := hP
  have HS : Hid (MS w c ss) := hS
  have OP : Hid (PsOk ps) := hp
  have OS : Hid (SsOk ss) := hs
  have h256 := hp.len
  have hm := hs.len
  clear hP hS hp hs
  have hb0 : Hid (Below w.heap.size w (((w.alloc (.cells #[.map (some b), .map (some c)] 69)).alloc (.cells #[.slice none 0 0, .slice none 0 0] 29)).alloc (.cells #[.slice none 0 0, .slice none 0 0] 29))) := (((Below.refl _ _).alloc (Nat.le_refl _) _).alloc (by simp) _).alloc (by simp; omega) _
  obtain ⟨W0, hW0⟩ : ∃ W0, W0 = (((w.alloc (.cells #[.map (some b), .map (some c)] 69)).alloc (.cells #[.slice none 0 0, .slice none 0 0] 29)).alloc (.cells #[.slice none 0 0, .slice none 0 0] 29)) := ⟨_, rfl⟩
  have hz0 : W0.heap.size = w.heap.size + 1 + 1 + 1 := by rw [hW0]; simp
  have HK1 : Hid (Calls Try.prog 63 #[.func (.func 83) #[] #[.pointer (some ⟨w.heap.size + 1 + 1 + 1, 0, none⟩)]] (W0.alloc (.cells #[.map (some b)] 66)) fun e w' => ∃ v, e = .returned v ∧ OwnG stC 1 9 w' (w.heap.size + 1 + 1 + 1 + 1) v (ps.map (·.k)) ∧ Below (w.heap.size + 1 + 1 + 1 + 1) (W0.alloc (.cells #[.map (some b)] 66)) w') := by
    have h := sortedS_any b ps.length ps W0 (HP.out.below (by rw [hW0]; exact hb0.out)) OP.out.rise (by omega)
    rw [hz0] at h
    exact h
  rw [hW0] at HK1
  go_enter Try.func34, Try.ntmps34
  go_wp2_with (first
    | (go_at_call 64; refine (keysS_any _ _).mono ?_; rintro e w' ⟨rfl, rfl⟩)
    | (go_at_call 63; refine HK1.out.mono ?_; rintro e w1 ⟨v, rfl, ho1, hb1⟩; obtain ⟨a1, cap1, rfl⟩ := ho1.shape; rw [List.length_map]; have HO1 : Hid (OwnG stC 1 9 w1 _ (.slice a1 (ps.map (·.k)).length cap1) (ps.map (·.k))) := ho1; have HB1 : Hid (Below _ _ w1) := hb1; clear ho1 hb1))
  have hb1 := HB1.out
  have hz1 : w.heap.size + 1 + 1 + 1 + 1 ≤ w1.heap.size := by have := hb1.size; simpa using this
  have BX : Hid (Blk w1 w.heap.size #[.map (some b), .map (some c)] 69) := ((((Blk.new _ _ _).alloc _).alloc _).alloc _).below hb1 (by omega)
  have BR : Hid (Blk w1 (w.heap.size + 1) #[.slice none 0 0, .slice none 0 0] 29) := (((Blk.new' _ _ _ (by simp)).alloc _).alloc _).below hb1 (by omega)
  have BO : Hid (Blk w1 (w.heap.size + 1 + 1) #[.slice none 0 0, .slice none 0 0] 29) := ((Blk.new' _ _ _ (by simp)).alloc _).below hb1 (by omega)
  have HB : Hid (Below w.heap.size w w1) := (hb0.out.alloc (by simp; omega) _).trans (hb1.mono (by omega))
  have HT : Hid (OwnG stC 1 9 w1 (w.heap.size + 1 + 1 + 1 + 1) (.slice a1 ps.length cap1) (ps.map (·.k))) := by
    have h := HO1.out
    rwa [List.length_map] at h
  clear hb1 HB1 HO1 HK1 hW0 hz0 hb0
  go_loopw [13] (fun i wr => ∃ (k : Nat) (va : Option Addr) (vc : Nat), k ≤ ps.length ∧ i = .int .i64 k ∧ OwnPr wr w1.heap.size (.slice va k vc) (ps.take k) ∧ Blk wr (w.heap.size + 1 + 1) #[.slice va k vc, .slice none 0 0] 29 ∧ w1.grownBy wr (some (w.heap.size + 1 + 1))) (fun i _ => ps.length - (RowKit.intOf i).toNat)
  case atStart => exact ⟨0, none, 0, Nat.zero_le _, rfl, OwnG.nil _ _ _ _ _, BO.out, grownBy_refl _ _⟩
  case round =>
    obtain ⟨k, va, vc, hk, rfl, hO, hQ, hG⟩ := hrel
    have HO : Hid (OwnPr wr w1.heap.size (.slice va k vc) (ps.take k)) := hO
    have HQ : Hid (Blk wr (w.heap.size + 1 + 1) #[.slice va k vc, .slice none 0 0] 29) := hQ
    have HG : Hid (w1.grownBy wr (some (w.heap.size + 1 + 1))) := hG
    have hsz := hG.size
    have hb : Hid (Below w.heap.size w wr) := HB.out.trans ⟨hG.os, hG.tape, hG.output, hG.size, fun j hj => hG.block j (by omega) (by simp; omega)⟩
    have bX : Blk wr w.heap.size #[.map (some b), .map (some c)] 69 := BX.out.keep (hG.block _ (by omega) (by simp; omega))
    have x0 : wr.cell? ⟨w.heap.size, 0, none⟩ = some (.map (some b)) := bX.cell 0
    have x1 : wr.cell? ⟨w.heap.size, 1, none⟩ = some (.map (some c)) := bX.cell 1
    have o0 : wr.cell? ⟨w.heap.size + 1 + 1, 0, none⟩ = some (.slice va k vc) := hQ.cell 0
    have HM : Hid (MP wr b ps) := HP.out.below hb.out
    by_cases hlt : k < ps.length
    · have hT : Sl stC 1 wr (.slice a1 ps.length cap1) (ps.map (·.k)) := (HT.out.block fun j e => hG.block j (HT.out.lts j e).2 (by have := (HT.out.lts j e).1; simp; omega)).sl stLaw (by rw [List.length_map]; unfold maxLen; omega)
      obtain ⟨kb, koff, rfl, ck⟩ := Sts.at_ hT hlt
      have hkey := keyS (k := ps[k].k) (by have := (OP.out.all _ (List.getElem_mem hlt)).2.1; omega)
      have HF : Hid ((ps.find? fun a => (prK a).sameKey (txK ps[k].k)).elim (.agg #[.string ⟨#[]⟩, .string ⟨#[]⟩]) prV = .agg #[.string ps[k].k, .string ps[k].v]) := find_pr OP.out.rise hlt _
      have HTk : Hid (ps.take (k + 1) = ps.take k ++ [ps[k]]) := List.take_succ_eq_append_getElem hlt
      clear hT hO hQ hG bX
      generalize ps[k] = p at *
      have HNO : Hid ((Value.slice va k vc).ownBlock ≠ some (w.heap.size + 1 + 1)) := fun e => by have := (HO.out.lts _ e).1; omega
      have oa : ∀ (o : Obj) (j : Nat), (wr.alloc o).cell? ⟨w.heap.size + 1 + 1, j, none⟩ = wr.cell? ⟨w.heap.size + 1 + 1, j, none⟩ := fun o j => World.cell?_alloc_lt _ _ _ (by show w.heap.size + 1 + 1 < wr.heap.size; omega)
      go_wp2_with (first
        | (at_lookup; refine wpl_look _ rfl _ _ 66 rfl 9 76 lawS Try.underlying66 (zeroPr _) b ps.length ps rfl HM.out _ _ rfl hkey _ HF.out ?_)
        | (at_builtin; refine wpl_appendG prLaw rfl (.tmp 18) (.tmp 23) rfl p (HO.out.below ((Below.refl _ _).alloc (Nat.le_refl _) _)) rfl wr.heap.size 1 (range_new' wr (prC p) 76) rfl (by rw [List.length_take]; omega) (by simp; omega) ?_; intro v3 w3 ho3 hg3; obtain ⟨a3, cap3, rfl⟩ := ho3.shape; rw [← HTk.out] at ho3 hg3 ⊢; rw [List.length_take, Nat.min_eq_left (by omega)] at ho3 hg3 ⊢; have HO3 : Hid (OwnPr w3 w1.heap.size (.slice a3 (k + 1) cap3) (ps.take (k + 1))) := ho3; have HG3 : Hid (Grew _ (.slice va k vc) w3 (.slice a3 (k + 1) cap3)) := hg3; have HQ3 : Hid (Blk w3 (w.heap.size + 1 + 1) #[.slice va k vc, .slice none 0 0] 29) := (HQ.out.alloc _).grewG hg3 HNO.out; have p0 : w3.cell? ⟨w.heap.size + 1 + 1, 0, none⟩ = some (.slice va k vc) := HQ3.out.cell 0; have pf := HQ3.out.free; clear ho3 hg3))
      go_roundw
      case rel => exact ⟨k + 1, a3, cap3, by omega, by go_num, HO3.out.block (fun j e => Below.heap_setCell _ _ _ _ (by have := (HO3.out.lts j e).1; simp only []; omega)), HQ3.out.set 0 _, grown_app HG.out ((Below.refl _ _).alloc (Nat.le_refl _) _) HG3.out (fun j e => (HO.out.lts j e).1) 0 _⟩
      case measure => simp [RowKit.intOf]; omega
    · obtain rfl : k = ps.length := by omega
      rw [List.take_length] at hO
      have HOP : Hid (OwnPr wr w1.heap.size (.slice va ps.length vc) ps) := hO
      have BR2 : Hid (Blk wr (w.heap.size + 1) #[.slice none 0 0, .slice none 0 0] 29) := BR.out.keep (hG.block _ (by omega) (by simp))
      have BX2 : Hid (Blk wr w.heap.size #[.map (some b), .map (some c)] 69) := bX
      have HMS : Hid (MS wr c ss) := HS.out.below hb.out
      clear hO hQ hG bX HO HG HM o0 BR BX BO HT HB
      obtain ⟨W2, hW2⟩ : ∃ W2, W2 = wr := ⟨_, rfl⟩
      have hzw : w.heap.size + 1 + 1 + 1 + 1 ≤ W2.heap.size := by rw [hW2]; omega
      subst hW2
      have HK2 : Hid (Calls Try.prog 65 #[.func (.func 86) #[] #[.pointer (some ⟨W2.heap.size, 0, none⟩)]] (W2.alloc (.cells #[.map (some c)] 67)) fun e w' => ∃ v, e = .returned v ∧ OwnG inC 1 3 w' (W2.heap.size + 1) v (ss.map (·.cl)) ∧ Below (W2.heap.size + 1) (W2.alloc (.cells #[.map (some c)] 67)) w') := sortedI_any c ss.length ss W2 HMS.out OS.out.rise (by omega)
      go_wp2_with (first
        | (go_at_call 66; refine (keysI_any _ _).mono ?_; rintro e w' ⟨rfl, rfl⟩)
        | (go_at_call 65; refine HK2.out.mono ?_; rintro e w4 ⟨v, rfl, ho4, hb4⟩; obtain ⟨a4, cap4, rfl⟩ := ho4.shape; rw [List.length_map] at ho4 ⊢; have HO4 : Hid (OwnG inC 1 3 w4 (W2.heap.size + 1) (.slice a4 ss.length cap4) (ss.map (·.cl))) := ho4; have HB4 : Hid (Below (W2.heap.size + 1) _ w4) := hb4; clear ho4 hb4))
      have hb4 : Below W2.heap.size W2 w4 := ((Below.refl _ _).alloc (Nat.le_refl _) _).trans (HB4.out.mono (by omega))
      have hz4 : W2.heap.size + 1 ≤ w4.heap.size := by have := HB4.out.size; simpa using this
      have BX4 : Hid (Blk w4 w.heap.size #[.map (some b), .map (some c)] 69) := BX2.out.below hb4 (by omega)
      have BR4 : Hid (Blk w4 (w.heap.size + 1) #[.slice none 0 0, .slice none 0 0] 29) := BR2.out.below hb4 (by omega)
      have BQ4 : Hid (Blk w4 (w.heap.size + 1 + 1) #[.slice va ps.length vc, .slice none 0 0] 29) := HQ.out.below hb4 (by omega)
      have HP4 : Hid (OwnPr w4 w1.heap.size (.slice va ps.length vc) ps) := HOP.out.below hb4
      have HM4 : Hid (MS w4 c ss) := HMS.out.below hb4
      have hbb : Hid (Below w.heap.size w w4) := hb.out.trans (hb4.mono (by omega))
      have HLP : Hid (∀ j, (Value.slice va ps.length vc).ownBlock = some j → w1.heap.size ≤ j ∧ j < w4.heap.size) := fun j e => HP4.out.lts j e
      clear hb4 HB4 BX2 BR2 HQ HOP HMS hb HK2 HS HP x0 x1
      go_loopw [32] (fun i wr => ∃ (k : Nat) (ua : Option Addr) (uc : Nat), k ≤ ss.length ∧ i = .int .i64 k ∧ OwnSe wr w4.heap.size (.slice ua k uc) (ss.take k) ∧ Blk wr (w.heap.size + 1 + 1) #[.slice va ps.length vc, .slice ua k uc] 29 ∧ w4.grownBy wr (some (w.heap.size + 1 + 1))) (fun i _ => ss.length - (RowKit.intOf i).toNat)
      case atStart => exact ⟨0, none, 0, Nat.zero_le _, rfl, OwnG.nil _ _ _ _ _, BQ4.out, grownBy_refl _ _⟩
      case round =>
        obtain ⟨k, ua, uc, hk, rfl, hO, hQ, hG⟩ := hrel
        have HO : Hid (OwnSe wr w4.heap.size (.slice ua k uc) (ss.take k)) := hO
        have HQ : Hid (Blk wr (w.heap.size + 1 + 1) #[.slice va ps.length vc, .slice ua k uc] 29) := hQ
        have HG : Hid (w4.grownBy wr (some (w.heap.size + 1 + 1))) := hG
        have hsz := hG.size
        have hb : Hid (Below w.heap.size w wr) := hbb.out.trans ⟨hG.os, hG.tape, hG.output, hG.size, fun j hj => hG.block j (by omega) (by simp; omega)⟩
        have bX : Blk wr w.heap.size #[.map (some b), .map (some c)] 69 := BX4.out.keep (hG.block _ (by omega) (by simp; omega))
        have x1 : wr.cell? ⟨w.heap.size, 1, none⟩ = some (.map (some c)) := bX.cell 1
        have o0 : wr.cell? ⟨w.heap.size + 1 + 1, 0, none⟩ = some (.slice va ps.length vc) := hQ.cell 0
        have o1 : wr.cell? ⟨w.heap.size + 1 + 1, 1, none⟩ = some (.slice ua k uc) := hQ.cell 1
        have HM : Hid (MS wr c ss) := HM4.out.keep (hG.block _ (by omega) (by simp; omega))
        by_cases hlt : k < ss.length
        · have hT : Sl inC 1 wr (.slice a4 ss.length cap4) (ss.map (·.cl)) := (HO4.out.block fun j e => hG.block j (HO4.out.lts j e).2 (by have := (HO4.out.lts j e).1; simp; omega)).sl inLaw (by rw [List.length_map]; unfold maxLen; omega)
          obtain ⟨kb, koff, rfl, ck⟩ := Ins.at_ hT hlt
          have hcl := (OS.out.all _ (List.getElem_mem hlt)).1
          have hkey := keyI (x := ss[k].cl) (by omega) (by omega)
          have HF : Hid ((ss.find? fun a => (seK a).sameKey (.int .i64 ss[k].cl)).elim (.agg #[.int .i64 0, .int .i64 0, .int .i64 0, .string ⟨#[]⟩]) seV = .agg #[.int .i64 ss[k].cl, .int .i64 ss[k].sq, .int .i64 ss[k].cd, .string ss[k].v]) := find_se OS.out.rise hlt _
          have HTk : Hid (ss.take (k + 1) = ss.take k ++ [ss[k]]) := List.take_succ_eq_append_getElem hlt
          clear hT hO hQ hG bX hcl
          generalize ss[k] = p at *
          have HNO : Hid ((Value.slice ua k uc).ownBlock ≠ some (w.heap.size + 1 + 1)) := fun e => by have := (HO.out.lts _ e).1; omega
          have oa : ∀ (o : Obj) (j : Nat), (wr.alloc o).cell? ⟨w.heap.size + 1 + 1, j, none⟩ = wr.cell? ⟨w.heap.size + 1 + 1, j, none⟩ := fun o j => World.cell?_alloc_lt _ _ _ (by show w.heap.size + 1 + 1 < wr.heap.size; omega)
          go_wp2_with (first
            | (at_lookup; refine wpl_look _ rfl _ _ 67 rfl 3 78 lawI Try.underlying67 (zeroSe _) c ss.length ss rfl HM.out _ _ rfl hkey _ HF.out ?_)
            | (at_builtin; refine wpl_appendG seLaw rfl (.tmp 37) (.tmp 42) rfl p (HO.out.below ((Below.refl _ _).alloc (Nat.le_refl _) _)) rfl wr.heap.size 1 (range_new' wr (seC p) 78) rfl (by rw [List.length_take]; omega) (by simp; omega) ?_; intro v3 w3 ho3 hg3; obtain ⟨a3, cap3, rfl⟩ := ho3.shape; rw [← HTk.out] at ho3 hg3 ⊢; rw [List.length_take, Nat.min_eq_left (by omega)] at ho3 hg3 ⊢; have HO3 : Hid (OwnSe w3 w4.heap.size (.slice a3 (k + 1) cap3) (ss.take (k + 1))) := ho3; have HG3 : Hid (Grew _ (.slice ua k uc) w3 (.slice a3 (k + 1) cap3)) := hg3; have HQ3 : Hid (Blk w3 (w.heap.size + 1 + 1) #[.slice va ps.length vc, .slice ua k uc] 29) := (HQ.out.alloc _).grewG hg3 HNO.out; have p0 : w3.cell? ⟨w.heap.size + 1 + 1, 1, none⟩ = some (.slice ua k uc) := HQ3.out.cell 1; have pf := HQ3.out.free; clear ho3 hg3))
          go_roundw
          case rel => exact ⟨k + 1, a3, cap3, by omega, by go_num, HO3.out.block (fun j e => Below.heap_setCell _ _ _ _ (by have := (HO3.out.lts j e).1; simp only []; omega)), HQ3.out.set 1 _, grown_app HG.out ((Below.refl _ _).alloc (Nat.le_refl _) _) HG3.out (fun j e => (HO.out.lts j e).1) 1 _⟩
          case measure => simp [RowKit.intOf]; omega
        · obtain rfl : k = ss.length := by omega
          rw [List.take_length] at hO
          have HSE : Hid (OwnSe wr w4.heap.size (.slice ua ss.length uc) ss) := hO
          have HPE : Hid (OwnPr wr w1.heap.size (.slice va ps.length vc) ps) := HP4.out.block fun j e => hG.block j (HP4.out.lts j e).2 (by have := (HP4.out.lts j e).1; simp; omega)
          have BRE : Hid (Blk wr (w.heap.size + 1) #[.slice none 0 0, .slice none 0 0] 29) := BR4.out.keep (hG.block _ (by omega) (by simp))
          have r0 : wr.cell? ⟨w.heap.size + 1, 0, none⟩ = some (.slice none 0 0) := BRE.out.cell 0
          have r1 : wr.cell? ⟨w.heap.size + 1, 1, none⟩ = some (.slice none 0 0) := BRE.out.cell 1
          have fr := BRE.out.free
          clear hO hQ hG bX HO HG HM
          go_wp2
          refine bodyPost_ret (v := .agg #[.slice va ps.length vc, .slice ua ss.length uc]) (by simp [results, Try.results34, go_sem, *]) rfl ⟨_, _, rfl, ?_, ?_, ?_, ?_⟩
          · exact (HPE.out.block fun j e => by have := (HPE.out.lts j e).1; rw [Below.heap_setCell _ _ _ _ (by simp only []; omega), Below.heap_setCell _ _ _ _ (by simp only []; omega)]).le (by omega)
          · exact (HSE.out.block fun j e => by have := (HSE.out.lts j e).1; rw [Below.heap_setCell _ _ _ _ (by simp only []; omega), Below.heap_setCell _ _ _ _ (by simp only []; omega)]).le (by omega)
          · intro j e e'
            have h1 := (HSE.out.lts j e).1
            have h2 := (HLP.out j e').2
            omega
          · exact (hb.out.setCell (by simp) _).setCell (by simp) _
end Go.Proofs.Ytelfejhopjbhpaa
