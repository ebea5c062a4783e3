/-
  Commands and events in memory; maps as functions.
-/
import Derived.Test.YtnoihfincifphaaLnPure
import Derived.Test.YtnoihfincifphaaTbLook
import Derived.Test.YtnoihfincifphaaTbOf
import Derived.DeepKeys4
namespace Go.Proofs.Ytnoihfincifphaa
open Go.RowKit Go.Maps
set_option linter.unusedVariables false
set_option linter.unusedSimpArgs false

def cmC (c : Cm) : List Value := [.int .i64 c.cl, .int .i64 c.sq, .int .i64 c.op, .string c.k, .string c.v, .string c.o]
def cmV (c : Cm) : Value := .agg #[.int .i64 c.cl, .int .i64 c.sq, .int .i64 c.op, .string c.k, .string c.v, .string c.o]
def evC (e : Evn) : List Value := [.int .i64 e.kd, .int .i64 e.c.cl, .int .i64 e.c.sq, .int .i64 e.c.op, .string e.c.k, .string e.c.v, .string e.c.o, .int .i64 e.cd, .string e.v]
theorem cmV_inj {c d : Cm} (h : cmV c = cmV d) : c = d := by
  cases c; cases d
  simp [cmV] at h
  simp [h]
structure Cm.fits (c : Cm) : Prop where
  cl : (Lit.int .i64 c.cl).wf = true
  sq : (Lit.int .i64 c.sq).wf = true
  op : (Lit.int .i64 c.op).wf = true
  k : c.k.size ≤ 1048576
  v : c.v.size ≤ 1048576
  o : c.o.size ≤ 1048576
structure Evn.fits (e : Evn) : Prop where
  c : e.c.fits
  v : e.v.size ≤ 1048576

/-! ### a command as a key -/
theorem laidOutL : laidOutB Try.prog = true := by kernel_rfl
set_option maxRecDepth 100000 in
theorem rowCm : (63 : TypeId) < Try.prog.types.size := of_decide_eq_true (by kernel_rfl)
set_option maxRecDepth 100000 in
theorem wideCm : (match Try.prog.underlying 63 with | some (.array _ _) | some (.struct _) => true | _ => false) = true := by rw [Try.underlying63]
set_option maxRecDepth 100000 in
theorem lawC : Keyed Try.prog 63 := Keyed.of_law (deep_law_laid laidOutL (m := 2) (by omega) rowCm (by kernel_rfl) wideCm)
theorem cells6 : Try.prog.cellsOf 63 = 6 := by kernel_rfl
theorem cellsI : Try.prog.cellsOf 3 = 1 := by kernel_rfl
theorem cellsS : Try.prog.cellsOf 9 = 1 := by kernel_rfl
theorem keyTCm : Try.prog.keyType 63 = true := by kernel_rfl
theorem lits_int (d : Nat) (x : Int) (h : (Lit.int .i64 x).wf = true) : Try.prog.keyLits (d + 1) 3 [.int .i64 x] = some [.int .i64 x] := by
  unfold Program.keyLits
  simp [Try.underlying3, h]
theorem lits_str (d : Nat) (x : ByteArray) (h : x.size ≤ 1048576) : Try.prog.keyLits (d + 1) 9 [.string x] = some [.string x.data.toList] := by
  unfold Program.keyLits
  have : x.size ≤ maxLen := by unfold maxLen; omega
  simp [Try.underlying9, this]
set_option maxRecDepth 100000 in
theorem lits_cm (n : Nat) {c : Cm} (h : c.fits) : Try.prog.keyLits (n + 1 + 1) 63 (cmC c) = some [.int .i64 c.cl, .int .i64 c.sq, .int .i64 c.op, .string c.k.data.toList, .string c.v.data.toList, .string c.o.data.toList] := by
  rw [Program.keyLits.eq_def]
  dsimp only
  rw [Try.underlying63]
  simp [cmC, cells6, cellsI, cellsS, lits_int n _ h.cl, lits_int n _ h.sq, lits_int n _ h.op, lits_str n _ h.k, lits_str n _ h.v, lits_str n _ h.o]
theorem keyC {c : Cm} (h : c.fits) : ∃ kl, keyOf Try.prog 63 (cmV c) = some kl := by
  unfold keyOf
  rw [Try.underlying63]
  have hf : (cmV c).formed Try.prog 63 = true := by simp [cmV, Value.formed, Try.underlying63, cells6]
  have hn : ∃ n, Try.prog.types.size + 1 = n + 1 + 1 := by
    have : (63 : Nat) < Try.prog.types.size := rowCm
    exact ⟨Try.prog.types.size - 1, by omega⟩
  obtain ⟨n, hn⟩ := hn
  have hc : (cmV c).cells.toList = cmC c := rfl
  simp only [keyTCm, hf, Bool.and_self, if_true]
  rw [hn, hc, lits_cm n h]
  exact ⟨_, rfl⟩

/-! ### maps as functions -/
section
variable {κ γ : Type}
/-- the map in block b: what the keys bring -/
def FM (k : TypeId) (kv : κ → Value) (good : κ → Prop) (vl : γ → Value) (w : World) (b n : Nat) (f : κ → Option γ) : Prop :=
  ∃ D, w.ownsMap Try.prog k heldE b n D ∧ ∀ c, good c → ∃ kl, keyOf Try.prog k (kv c) = some kl ∧ Maps.has D kl = (f c).isSome ∧ ∀ z, D.atKey kl (.held z) = .held ((f c).elim z vl)
variable {k : TypeId} {kv : κ → Value} {good : κ → Prop} {vl : γ → Value} {w : World} {b n : Nat} {f : κ → Option γ}
theorem FM.made (w : World) (hk : ∀ c, good c → ∃ kl, keyOf Try.prog k (kv c) = some kl) : FM k kv good vl (w.alloc (.map #[] 0)) w.heap.size 0 (fun _ => (none : Option γ)) :=
  ⟨.map [], World.ownsMap_made w _ _ _, fun c hc => let ⟨kl, h⟩ := hk c hc; ⟨kl, h, rfl, fun z => rfl⟩⟩
theorem FM.lt (h : FM k kv good vl w b n f) : b < w.heap.size := let ⟨D, h, _⟩ := h; World.ownsMap.lt h
theorem FM.keep {w' : World} (h : FM k kv good vl w b n f) (hb : w'.heap[b]? = w.heap[b]?) : FM k kv good vl w' b n f := by
  obtain ⟨D, ⟨es, clock, hb', r⟩, h2⟩ := h
  exact ⟨D, ⟨es, clock, hb.trans hb', r⟩, h2⟩
theorem FM.below {w' : World} (h : FM k kv good vl w b n f) (hb : Below w.heap.size w w') : FM k kv good vl w' b n f := h.keep (hb.block b h.lt)
theorem FM.alloc (h : FM k kv good vl w b n f) (o : Obj) : FM k kv good vl (w.alloc o) b n f := h.keep (Below.heap_alloc _ _ _ h.lt)
theorem FM.mono {n' : Nat} (h : FM k kv good vl w b n f) (hn : n ≤ n') : FM k kv good vl w b n' f := let ⟨D, h1, h2⟩ := h; ⟨D, h1.mono hn, h2⟩
variable {ops : Array Oper} {rest : List Oper} {o : Oper} {a : Act} {Q : Exit → Act → World → Prop}
/-- m[x] = y -/
theorem wpl_fput (w : World) (hg : o.guard = none) (m x v : Operand) (t : TypeId) (hop : o.op = Op.mapUpdate t m x v) (k e : TypeId) (K : Keyed Try.prog k) (ht : Try.prog.underlying t = some (.map k e))
    (b n : Nat) (hm : a.eval m = .map (some b)) (h : FM k kv good vl w b n f) (hn : n < maxLen) (c : κ) (hc : good c) (y : γ) (hx : a.eval x = kv c) (hv : a.eval v = vl y)
    (g : κ → Option γ) (hs : ∀ d, (kv d = kv c → g d = some y) ∧ (kv d ≠ kv c → g d = f d))
    (hK : ∀ w', FM k kv good vl w' b (n + 1) g → w.grownBy w' (some b) → wpList Try.prog ops Q rest (a.put o.dst undef) w') : wpList Try.prog ops Q (o :: rest) a w := by
  obtain ⟨D, h1, h2⟩ := h
  obtain ⟨kl, hkl, _, _⟩ := h2 c hc
  refine wpList_mapUpdate_own w hg m x v t hop k e K ht heldE b n D hm h1 hn _ _ kl hx hv hkl (.held (vl y)) [] rfl fun w' ho hgr => hK w' ⟨_, ho, fun d hd => ?_⟩ hgr
  obtain ⟨kd, hkd, e1, e2⟩ := h2 d hd
  refine ⟨kd, hkd, ?_⟩
  by_cases hcd : kv d = kv c
  · obtain rfl : kd = kl := by rw [hcd, hkl] at hkd; exact (Option.some.inj hkd).symm
    rw [(hs d).1 hcd]
    exact ⟨has_put_same h1.isMap (K.key hkl) _, fun z => atKey_put_same h1.isMap (K.key hkl) _ _⟩
  · have hne : kd ≠ kl := fun e => hcd (K.inj hkd (by rw [e]; exact hkl))
    rw [(hs d).2 hcd]
    exact ⟨(has_put_other hne _).trans e1, fun z => (atKey_put_other hne _ _).trans (e2 z)⟩
/-- delete(m, x) -/
theorem wpl_fdel (w : World) (hg : o.guard = none) (m x : Operand) (t k : TypeId) (hop : o.op = Op.call { callee := Callee.builtin Builtin.delete, args := #[m, x], argTypes := #[t, k] }) (e : TypeId) (K : Keyed Try.prog k) (ht : Try.prog.underlying t = some (.map k e))
    (b n : Nat) (hm : a.eval m = .map (some b)) (h : FM k kv good vl w b n f) (c : κ) (hc : good c) (hx : a.eval x = kv c)
    (g : κ → Option γ) (hs : ∀ d, (kv d = kv c → g d = none) ∧ (kv d ≠ kv c → g d = f d))
    (hK : ∀ w', FM k kv good vl w' b n g → w.grownBy w' (some b) → wpList Try.prog ops Q rest (a.put o.dst (.tuple #[])) w') : wpList Try.prog ops Q (o :: rest) a w := by
  obtain ⟨D, h1, h2⟩ := h
  obtain ⟨kl, hkl, _, _⟩ := h2 c hc
  refine wpList_delete_own w hg m x t k hop e K ht heldE b n D hm h1 _ kl hx hkl fun w' ho hgr => hK w' ⟨_, ho, fun d hd => ?_⟩ hgr.grown
  obtain ⟨kd, hkd, e1, e2⟩ := h2 d hd
  refine ⟨kd, hkd, ?_⟩
  by_cases hcd : kv d = kv c
  · obtain rfl : kd = kl := by rw [hcd, hkl] at hkd; exact (Option.some.inj hkd).symm
    rw [(hs d).1 hcd]
    exact ⟨has_del_same, fun z => atKey_del_same _⟩
  · have hne : kd ≠ kl := fun e => hcd (K.inj hkd (by rw [e]; exact hkl))
    rw [(hs d).2 hcd]
    exact ⟨(has_del_other hne).trans e1, fun z => (atKey_del_other hne _).trans (e2 z)⟩
/-- m[x] -/
theorem wpl_flook (w : World) (hg : o.guard = none) (m x : Operand) (t : TypeId) (hop : o.op = Op.lookup t m x false) (k e : TypeId) (K : Keyed Try.prog k) (ht : Try.prog.underlying t = some (.map k e)) {z : Value} (hz : (zeroValue e).run Try.prog w = .ok z w)
    (b n : Nat) (hm : a.eval m = .map (some b)) (h : FM k kv good vl w b n f) (c : κ) (hc : good c) (hx : a.eval x = kv c) (V : Value) (hV : (f c).elim z vl = V)
    (hK : wpList Try.prog ops Q rest (a.put o.dst V) w) : wpList Try.prog ops Q (o :: rest) a w := by
  obtain ⟨D, h1, h2⟩ := h
  obtain ⟨kl, hkl, _, e2⟩ := h2 c hc
  refine wpList_plain hg fun K' hK' => ?_
  obtain ⟨v, ps, hrun, hv⟩ := h1.lookup (zd := .held z) (zp := []) K ht hz rfl hkl
  rw [e2, hV] at hv
  obtain rfl : v = V := by
    simp only [heldE, Option.some.injEq, Prod.mk.injEq, DataW.held.injEq] at hv
    exact hv.1
  unfold Oper.wp
  simp [execOp, hop, hm, hx, hrun, Result.andThen]
  exact hK' _ _ hK
/-- v, ok := m[x] -/
theorem wpl_flookOk (w : World) (hg : o.guard = none) (m x : Operand) (t : TypeId) (hop : o.op = Op.lookup t m x true) (k e : TypeId) (K : Keyed Try.prog k) (ht : Try.prog.underlying t = some (.map k e)) {z : Value} (hz : (zeroValue e).run Try.prog w = .ok z w)
    (b n : Nat) (hm : a.eval m = .map (some b)) (h : FM k kv good vl w b n f) (c : κ) (hc : good c) (hx : a.eval x = kv c) (V : Value) (hV : (f c).elim z vl = V) (q : Bool) (hq : (f c).isSome = q)
    (hK : wpList Try.prog ops Q rest (a.put o.dst (.tuple #[V, .bool q])) w) : wpList Try.prog ops Q (o :: rest) a w := by
  obtain ⟨D, h1, h2⟩ := h
  obtain ⟨kl, hkl, e1, e2⟩ := h2 c hc
  refine wpList_plain hg fun K' hK' => ?_
  obtain ⟨v, ps, hrun, hv⟩ := h1.look_ok (zd := .held z) (zp := []) K ht hz rfl hkl
  rw [e2, hV] at hv
  obtain rfl : v = V := by
    simp only [heldE, Option.some.injEq, Prod.mk.injEq, DataW.held.injEq] at hv
    exact hv.1
  rw [e1, hq] at hrun
  unfold Oper.wp
  simp [execOp, hop, hm, hx, hrun, Result.andThen]
  exact hK' _ _ hK
end
/-! ### slices of events, of commands -/
structure Evs (w : World) (v : Value) (l : List Evn) : Prop where
  sl : Sl evC 9 w v l
  fits : ∀ e ∈ l, e.fits
structure Cms (w : World) (v : Value) (l : List Cm) : Prop where
  sl : Sl cmC 6 w v l
  fits : ∀ c ∈ l, c.fits
theorem Evs.below {w w' : World} {v : Value} {l : List Evn} (h : Evs w v l) (hb : Below w.heap.size w w') : Evs w' v l := ⟨h.sl.below hb, h.fits⟩
theorem Cms.below {w w' : World} {v : Value} {l : List Cm} (h : Cms w v l) (hb : Below w.heap.size w w') : Cms w' v l := ⟨h.sl.below hb, h.fits⟩
theorem Evs.at_ {w : World} {a : Option Addr} {n cap : Nat} {l : List Evn} (h : Evs w (.slice a n cap) l) {i : Nat} (hi : i < l.length) : ∃ b off, a = some ⟨b, off, none⟩ ∧ ∀ j (hj : j < l.length), w.rangeAt b (off + j * 9) (evC l[j]) := by
  obtain ⟨⟨_, a', cap', e, hc⟩, _⟩ := h
  injection e with e1 _ _
  subst e1
  exact hc i hi
theorem Cms.at_ {w : World} {a : Option Addr} {n cap : Nat} {l : List Cm} (h : Cms w (.slice a n cap) l) {i : Nat} (hi : i < l.length) : ∃ b off, a = some ⟨b, off, none⟩ ∧ ∀ j (hj : j < l.length), w.rangeAt b (off + j * 6) (cmC l[j]) := by
  obtain ⟨⟨_, a', cap', e, hc⟩, _⟩ := h
  injection e with e1 _ _
  subst e1
  exact hc i hi
end Go.Proofs.Ytnoihfincifphaa
