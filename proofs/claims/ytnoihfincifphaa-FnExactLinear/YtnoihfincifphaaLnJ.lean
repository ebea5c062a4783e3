/-
  The judge: its maps, how they are looked into and written.
-/
import Derived.Test.YtnoihfincifphaaLnBase
import Derived.WideKeyEntry
namespace Go.Proofs.Ytnoihfincifphaa
open Go.RowKit Go.Maps
set_option linter.unusedVariables false
set_option linter.unusedSimpArgs false

section
variable {κ γ : Type} {k : TypeId} {kv : κ → Value} {good : κ → Prop} {vl : γ → Value} {w : World} {b n : Nat} {f : κ → Option γ}
theorem FM.look {t e : TypeId} {z : Value} (h : FM k kv good vl w b n f) (K : Keyed Try.prog k) (ht : Try.prog.underlying t = some (.map k e)) (hz : ∀ u, (zeroValue e).run Try.prog u = .ok z u) (c : κ) (hc : good c) (u : World) (hu : u.heap[b]? = w.heap[b]?) :
    (Instr.lookup t (.map (some b)) (kv c) false).run Try.prog u = .ok ((f c).elim z vl) u := by
  obtain ⟨D, h1, h2⟩ := h.keep hu
  obtain ⟨kl, hkl, _, e2⟩ := h2 c hc
  obtain ⟨v, ps, hrun, hv⟩ := h1.lookup (zd := .held z) (zp := []) K ht (hz u) rfl hkl
  rw [e2] at hv
  obtain rfl : v = (f c).elim z vl := by
    simp only [heldE, Option.some.injEq, Prod.mk.injEq, DataW.held.injEq] at hv
    exact hv.1
  exact hrun
theorem FM.lookOk {t e : TypeId} {z : Value} (h : FM k kv good vl w b n f) (K : Keyed Try.prog k) (ht : Try.prog.underlying t = some (.map k e)) (hz : ∀ u, (zeroValue e).run Try.prog u = .ok z u) (c : κ) (hc : good c) (u : World) (hu : u.heap[b]? = w.heap[b]?) :
    (Instr.lookup t (.map (some b)) (kv c) true).run Try.prog u = .ok (.tuple #[(f c).elim z vl, .bool (f c).isSome]) u := by
  obtain ⟨D, h1, h2⟩ := h.keep hu
  obtain ⟨kl, hkl, e1, e2⟩ := h2 c hc
  obtain ⟨v, ps, hrun, hv⟩ := h1.look_ok (zd := .held z) (zp := []) K ht (hz u) rfl hkl
  rw [e2] at hv
  obtain rfl : v = (f c).elim z vl := by
    simp only [heldE, Option.some.injEq, Prod.mk.injEq, DataW.held.injEq] at hv
    exact hv.1
  rw [← e1]
  exact hrun
theorem FM.put {t e : TypeId} (h : FM k kv good vl w b n f) (K : Keyed Try.prog k) (ht : Try.prog.underlying t = some (.map k e)) (hn : n < maxLen) (c : κ) (hc : good c) (y : γ) (g : κ → Option γ) (hs : ∀ d, (kv d = kv c → g d = some y) ∧ (kv d ≠ kv c → g d = f d)) (u : World) (hu : u.heap[b]? = w.heap[b]?) :
    ∃ u', (Instr.mapUpdate t (.map (some b)) (kv c) (vl y)).run Try.prog u = .ok () u' ∧ FM k kv good vl u' b (n + 1) g ∧ u.grownBy u' (some b) := by
  obtain ⟨D, h1, h2⟩ := h.keep hu
  obtain ⟨kl, hkl, _, _⟩ := h2 c hc
  obtain ⟨u', hrun, ho, hgr⟩ := h1.update K ht hn hkl (R := heldE) (val := vl y) (d := .held (vl y)) (ps := []) rfl
  refine ⟨u', hrun, ⟨_, ho, fun d hd => ?_⟩, hgr⟩
  obtain ⟨kd, hkd, e1, e2⟩ := h2 d hd
  refine ⟨kd, hkd, ?_⟩
  by_cases hcd : kv d = kv c
  · obtain rfl : kd = kl := by rw [hcd, hkl] at hkd; exact (Option.some.inj hkd).symm
    rw [(hs d).1 hcd]
    exact ⟨has_put_same h1.isMap (K.key hkl) _, fun z => atKey_put_same h1.isMap (K.key hkl) _ _⟩
  · have hne : kd ≠ kl := fun e => hcd (K.inj hkd (by rw [e]; exact hkl))
    rw [(hs d).2 hcd]
    exact ⟨(has_put_other hne _).trans e1, fun z => (atKey_put_other hne _ _).trans (e2 z)⟩
theorem FM.del {t e : TypeId} (h : FM k kv good vl w b n f) (K : Keyed Try.prog k) (ht : Try.prog.underlying t = some (.map k e)) (c : κ) (hc : good c) (g : κ → Option γ) (hs : ∀ d, (kv d = kv c → g d = none) ∧ (kv d ≠ kv c → g d = f d)) (ty : TypeId) (u : World) (hu : u.heap[b]? = w.heap[b]?) :
    ∃ u', (Builtin.delete_ #[t, k] ty #[.map (some b), kv c]).run Try.prog u = .ok (.tuple #[]) u' ∧ FM k kv good vl u' b n g ∧ u.grownBy u' (some b) := by
  obtain ⟨D, h1, h2⟩ := h.keep hu
  obtain ⟨kl, hkl, _, _⟩ := h2 c hc
  obtain ⟨u', hrun, ho, hgr⟩ := h1.drop K ht hkl ty
  refine ⟨u', hrun, ⟨_, ho, fun d hd => ?_⟩, hgr.grown⟩
  obtain ⟨kd, hkd, e1, e2⟩ := h2 d hd
  refine ⟨kd, hkd, ?_⟩
  by_cases hcd : kv d = kv c
  · obtain rfl : kd = kl := by rw [hcd, hkl] at hkd; exact (Option.some.inj hkd).symm
    rw [(hs d).1 hcd]
    exact ⟨has_del_same, fun z => atKey_del_same _⟩
  · have hne : kd ≠ kl := fun e => hcd (K.inj hkd (by rw [e]; exact hkl))
    rw [(hs d).2 hcd]
    exact ⟨(has_del_other hne).trans e1, fun z => (atKey_del_other hne _).trans (e2 z)⟩
end

/-! ### an entry, then a store into it: a store in two steps -/
theorem set_same {α : Type} : ∀ (l : List α) (j : Nat) (a : α), l[j]? = some a → l.set j a = l
  | [], _, _, h => by simp at h
  | b :: r, 0, a, h => by simp at h; subst h; rfl
  | b :: r, j + 1, a, h => by simp at h; simp [set_same r j a h]
theorem modify_end {α : Type} (f : α → α) (a : α) : ∀ l : List α, (l ++ [a]).modify l.length f = l ++ [f a]
  | [] => rfl
  | b :: r => by simp [List.modify_succ_cons, modify_end f a r]
theorem born_at {l : List MapEntry} (hn : (l.map (·.born)).Nodup) {j : Nat} {e0 : MapEntry} (h : l[j]? = some e0) : l.findIdx? (fun e => ((e.born : Nat) : Int) == ((e0.born : Nat) : Int)) = some j := WideElems.findIdx_born hn h
theorem born_arr (xs : Array MapEntry) (p : MapEntry → Bool) : xs.findIdx? p = xs.toList.findIdx? p := WideElems.findIdx_arr xs p
set_option maxHeartbeats 1000000 in
theorem entry_store {k t e b : Nat} {q : IntKind} {es : Array MapEntry} {clock : Nat} {R : Value → Option (DataW Value × List MemPlace)} (hd : Try.prog.underlying k = some (.int q)) (ht : Try.prog.underlying t = some (.map k e)) {z : Value} (hz : ∀ u : World, (zeroValue e).run Try.prog u = .ok z u)
    (F : WideElems.Fit Try.prog k R es clock) (x : Int) (val : Value) :
    ∃ (v0 : Value) (st : Nat) (es1 es2 : Array MapEntry) (c1 : Nat), (∀ u : World, u.heap[b]? = some (.map es clock) → (Instr.mapEntry t (.map (some b)) (.int q x)).run Try.prog u = .ok (.tuple #[v0, goInt st]) (ChangeMaps.setBlock u b (.map es1 c1))) ∧
      (∀ u : World, u.heap[b]? = some (.map es1 c1) → (Instr.entryStore t (.map (some b)) (goInt st) val).run Try.prog u = .ok () (ChangeMaps.setBlock u b (.map es2 c1))) ∧
      (∀ u : World, u.heap[b]? = some (.map es clock) → (Instr.mapUpdate t (.map (some b)) (.int q x) val).run Try.prog u = .ok () (ChangeMaps.setBlock u b (.map es2 c1))) := by
  obtain ⟨s1, s2, _⟩ := F.stamped
  have hk : MapKept.IsKey (.int q) (.int q x) := rfl
  have hks : ∀ y ∈ es.toList, MapKept.IsKey (.int q) y.key := fun y hy => by
    obtain ⟨z', hz'⟩ := F.reads y hy
    have h1 := WideElems.rd_key hz'
    rw [show keyOf Try.prog k y.key = mapKey Try.prog k y.key by simp [keyOf, hd]] at h1
    cases hyk : y.key <;> simp [hyk, mapKey, hd] at h1
    exact h1.1.1
  rcases MapKept.findNow_spec hk es.toList 0 hks with ⟨h1, h2⟩ | ⟨j, e0, h1, h2, h3⟩
  · refine ⟨z, clock, es.push ⟨.int q x, z, clock⟩, es.push ⟨.int q x, val, clock⟩, clock + 1, fun u hb => ?_, fun u hu => ?_, fun u hb => ?_⟩
    · simp [Instr.mapEntry, run_underlying ht, MapKept.run_getObj_map hb, MapKept.run_checkKey hd hk, MapKept.run_findKey hd h1, hz, MapKept.run_setObj_map _ hb, Result.andThen, ChangeMaps.setBlock]
    · have hidx : (es.push ⟨.int q x, z, clock⟩).findIdx? (fun e => ((e.born : Nat) : Int) == ((clock : Nat) : Int)) = some es.size := by
        rw [born_arr]
        exact born_at (l := (es.push ⟨.int q x, z, clock⟩).toList) (j := es.size) (e0 := ⟨.int q x, z, clock⟩) (by
          simp only [Array.toList_push, List.map_append, List.map_cons, List.map_nil]
          refine List.nodup_append.2 ⟨s2, by simp, fun a ha c hc e1 => ?_⟩
          simp only [List.mem_singleton] at hc
          obtain ⟨y, hy, rfl⟩ := List.mem_map.1 ha
          have := s1 y hy
          omega) (by simp)
      have hmod : (es.push ⟨.int q x, z, clock⟩).modify es.size (fun e => { e with val := val }) = es.push ⟨.int q x, val, clock⟩ := by
        apply Array.ext'
        rw [Array.toList_modify, Array.toList_push, Array.toList_push, ← Array.length_toList, modify_end]
      simp [Instr.entryStore, MapKept.run_getObj_map hu, asInt, asIntOf, goInt, hidx, hmod, MapKept.run_setObj_map _ hu, Result.andThen, ChangeMaps.setBlock]
    · simp [Instr.mapUpdate, run_underlying ht, MapKept.run_getObj_map hb, MapKept.run_checkKey hd hk, MapKept.run_findKey hd h1, MapKept.run_setObj_map _ hb, Result.andThen, ChangeMaps.setBlock]
  · have hj : es[j]? = some e0 := by simpa using h2
    have hsame : es.modify j (fun e => { e with key := .int q x }) = es := by
      apply Array.ext'
      rw [Array.toList_modify, ChangeMaps.modify_eq_set _ _ _ _ h2]
      have : ({ e0 with key := .int q x } : MapEntry) = e0 := by rw [← h3]
      rw [this]
      exact set_same _ _ _ h2
    refine ⟨e0.val, e0.born, es, es.modify j (fun e' => { e' with key := .int q x, val := val }), clock, fun u hb => ?_, fun u hu => ?_, fun u hb => ?_⟩
    · have h1' : (Instr.findKey k (.int q x) es.toList).run Try.prog u = .ok (some (j, e0.val)) u := by simpa using MapKept.run_findKey (w := u) hd h1
      simp [Instr.mapEntry, run_underlying ht, MapKept.run_getObj_map hb, MapKept.run_checkKey hd hk, h1', hj, h3, MapKept.run_keyThatStays hk, hsame, MapKept.run_setObj_map _ hb, Result.andThen, ChangeMaps.setBlock]
    · have hidx : es.findIdx? (fun e => ((e.born : Nat) : Int) == ((e0.born : Nat) : Int)) = some j := by
        rw [born_arr]
        exact born_at s2 h2
      have hmod : es.modify j (fun e => { e with val := val }) = es.modify j (fun e' => { e' with key := .int q x, val := val }) := by
        apply Array.ext'
        rw [Array.toList_modify, Array.toList_modify, ChangeMaps.modify_eq_set _ _ _ _ h2, ChangeMaps.modify_eq_set _ _ _ _ h2, ← h3]
      simp [Instr.entryStore, MapKept.run_getObj_map hu, asInt, asIntOf, goInt, hidx, hmod, MapKept.run_setObj_map _ hu, Result.andThen, ChangeMaps.setBlock]
    · have h1' : (Instr.findKey k (.int q x) es.toList).run Try.prog u = .ok (some (j, e0.val)) u := by simpa using MapKept.run_findKey (w := u) hd h1
      simp [Instr.mapUpdate, run_underlying ht, MapKept.run_getObj_map hb, MapKept.run_checkKey hd hk, h1', hj, h3, MapKept.run_keyThatStays hk, MapKept.run_setObj_map _ hb, Result.andThen, ChangeMaps.setBlock]
theorem FM.entry {γ : Type} {k t e : TypeId} {q : IntKind} {good : Int → Prop} {vl : γ → Value} {w : World} {b n : Nat} {f : Int → Option γ} (h : FM k (fun x : Int => .int q x) good vl w b n f) (K : Keyed Try.prog k) (hd : Try.prog.underlying k = some (.int q)) (ht : Try.prog.underlying t = some (.map k e)) {z : Value} (hz : ∀ u : World, (zeroValue e).run Try.prog u = .ok z u)
    (hn : n < maxLen) (x : Int) (hx : good x) (y : γ) (g : Int → Option γ) (hs : ∀ d, (d = x → g d = some y) ∧ (d ≠ x → g d = f d)) :
    ∃ (v0 : Value) (st : Nat) (o1 o2 : Obj), (∀ u : World, u.heap[b]? = w.heap[b]? → (Instr.mapEntry t (.map (some b)) (.int q x)).run Try.prog u = .ok (.tuple #[v0, .int .i64 st]) (ChangeMaps.setBlock u b o1)) ∧
      (∀ u : World, u.heap[b]? = some o1 → (Instr.entryStore t (.map (some b)) (.int .i64 st) (vl y)).run Try.prog u = .ok () (ChangeMaps.setBlock u b o2)) ∧
      (∀ u : World, u.heap[b]? = some o2 → FM k (fun x : Int => .int q x) good vl u b (n + 1) g) := by
  have h' := h
  obtain ⟨D, ⟨es, clock, hb, F, _⟩, _⟩ := h'
  obtain ⟨v0, st, es1, es2, c1, r1, r2, r3⟩ := entry_store (b := b) hd ht hz F x (vl y)
  refine ⟨v0, st, .map es1 c1, .map es2 c1, fun u hu => r1 u (hu.trans hb), r2, fun u hu => ?_⟩
  obtain ⟨u', hrun, hF, _⟩ := h.put K ht hn x hx y g (fun d => ⟨fun e => (hs d).1 (by injection e), fun e => (hs d).2 fun e' => e (by rw [e'])⟩) w rfl
  rw [r3 w hb] at hrun
  injection hrun with _ hrun
  refine hF.keep ?_
  rw [hu, ← hrun]
  simp [ChangeMaps.setBlock, h.lt]
end Go.Proofs.Ytnoihfincifphaa
