/-
  A history held against an order: what is looked for (pure).
-/
import Derived.Test.YtnoihfincifphaaCallFault
namespace Go.Proofs.Ytnoihfincifphaa
open Go.RowKit
set_option linter.unusedVariables false
set_option linter.unusedSimpArgs false

/-- a command -/
structure Cm where
  cl : Int
  sq : Int
  op : Int
  k : ByteArray
  v : ByteArray
  o : ByteArray
/-- an event -/
structure Evn where
  kd : Int
  c : Cm
  cd : Int
  v : ByteArray
def Cm.is (a b : Cm) : Bool := decide (a.cl = b.cl) && decide (a.sq = b.sq) && decide (a.op = b.op) && decide (a.k = b.k) && decide (a.v = b.v) && decide (a.o = b.o)
theorem Cm.is_iff {a b : Cm} : a.is b = true ↔ a = b := by
  cases a; cases b
  simp [Cm.is, and_assoc]
theorem Cm.is_self (a : Cm) : a.is a = true := Cm.is_iff.2 rfl
theorem Cm.is_no {a b : Cm} (h : a ≠ b) : a.is b = false := by
  cases e : a.is b
  · rfl
  · exact absurd (Cm.is_iff.1 e) h
/-- the fault of a command in a history -/
def cmF (c : Cm) : Int := callF c.cl c.sq c.op c.k.size c.v.size c.o.size

/-! ### whose turn it is -/
structure TSt where
  op : Int → Option Cm
  la : Int → Int
def setI {α : Type} (f : Int → α) (x : Int) (y : α) : Int → α := fun z => if z = x then y else f z
def setC {α : Type} (f : Cm → α) (x : Cm) (y : α) : Cm → α := fun z => if z.is x = true then y else f z
theorem setI_same {α : Type} (f : Int → α) (x : Int) (y : α) : setI f x y x = y := if_pos rfl
theorem setI_other {α : Type} (f : Int → α) {x z : Int} (y : α) (h : z ≠ x) : setI f x y z = f z := if_neg h
theorem setC_same {α : Type} (f : Cm → α) (x : Cm) (y : α) : setC f x y x = y := if_pos x.is_self
theorem setC_other {α : Type} (f : Cm → α) {x z : Cm} (y : α) (h : z ≠ x) : setC f x y z = f z := if_neg (by rw [Cm.is_no h]; simp)
def opIs (s : TSt) (c : Cm) : Bool := match s.op c.cl with | some d => d.is c | none => false
theorem opIs_iff {s : TSt} {c : Cm} : opIs s c = true ↔ s.op c.cl = some c := by
  unfold opIs
  cases h : s.op c.cl with
  | none => simp
  | some d => simp [Cm.is_iff]
def askOk (s : TSt) (e : Evn) : Bool := decide (e.cd = 0) && decide (e.v.size = 0) && (s.op e.c.cl).isNone && decide (e.c.sq = s.la e.c.cl + 1)
def repOk (s : TSt) (e : Evn) : Bool := decide (1 ≤ e.cd) && decide (e.cd ≤ 4) && decide (e.v.size ≤ 64) && opIs s e.c
def tOk (s : TSt) (e : Evn) : Bool := decide (cmF e.c = 0) && (if e.kd = 1 then askOk s e else if e.kd = 2 then repOk s e else false)
def tStep (s : TSt) (e : Evn) : TSt := if e.kd = 1 then ⟨setI s.op e.c.cl (some e.c), setI s.la e.c.cl e.c.sq⟩ else ⟨setI s.op e.c.cl none, s.la⟩
def tRun (l : List Evn) : TSt := l.foldl tStep ⟨fun _ => none, fun _ => 0⟩
theorem tRun_snoc (l : List Evn) (e : Evn) : tRun (l ++ [e]) = tStep (tRun l) e := by unfold tRun; rw [List.foldl_append]; rfl
theorem tOk_parts {s : TSt} {e : Evn} (h : tOk s e = true) : cmF e.c = 0 ∧ ((e.kd = 1 ∧ e.cd = 0 ∧ e.v.size = 0 ∧ s.op e.c.cl = none ∧ e.c.sq = s.la e.c.cl + 1) ∨ (e.kd = 2 ∧ (1 ≤ e.cd ∧ e.cd ≤ 4) ∧ e.v.size ≤ 64 ∧ s.op e.c.cl = some e.c)) := by
  unfold tOk at h
  simp only [Bool.and_eq_true, decide_eq_true_eq] at h
  refine ⟨h.1, ?_⟩
  have h2 := h.2
  split at h2
  · rename_i h1
    simp only [askOk, Bool.and_eq_true, decide_eq_true_eq, Option.isNone_iff_eq_none] at h2
    exact .inl ⟨h1, h2.1.1.1, h2.1.1.2, h2.1.2, h2.2⟩
  · split at h2
    · rename_i h1
      simp only [repOk, Bool.and_eq_true, decide_eq_true_eq, opIs_iff] at h2
      exact .inr ⟨h1, ⟨h2.1.1.1, h2.1.1.2⟩, h2.1.2, h2.2⟩
    · cases h2

/-! ### the first place -/
def fstOf (p : Nat → Bool) (n : Nat) : Int := match (List.range n).find? p with | some i => (i : Int) | none => -1
theorem fst_hit {p : Nat → Bool} {n i : Nat} (h : ∀ j, j < i → p j = false) (hi : i < n) (hp : p i = true) : fstOf p n = i := by
  unfold fstOf
  rw [List.find?_range_eq_some.2 ⟨hp, List.mem_range.2 hi, fun j hj => by rw [h j hj]; rfl⟩]
theorem fst_no {p : Nat → Bool} {n : Nat} (h : ∀ j, j < n → p j = false) : fstOf p n = -1 := by
  unfold fstOf
  rw [List.find?_range_eq_none.2 fun j hj => by rw [h j hj]; rfl]
theorem fst_neg {p : Nat → Bool} {n : Nat} (h : fstOf p n < 0) : ∀ j, j < n → p j = false := by
  unfold fstOf at h
  split at h
  · omega
  · rename_i h'
    intro j hj
    have := List.find?_range_eq_none.1 h' j hj
    simpa using this
theorem fst_cong {p q : Nat → Bool} {n : Nat} (h : ∀ j, j < n → p j = q j) : fstOf p n = fstOf q n := by
  by_cases hn : ∀ j, j < n → p j = false
  · rw [fst_no hn, fst_no fun j hj => by rw [← h j hj]; exact hn j hj]
  · have : ∃ i, (List.range n).find? p = some i := by
      cases e : (List.range n).find? p with
      | some i => exact ⟨i, rfl⟩
      | none => exact absurd (fun j hj => by simpa using List.find?_range_eq_none.1 e j hj) hn
    obtain ⟨i, hi⟩ := this
    obtain ⟨h1, h2, h3⟩ := List.find?_range_eq_some.1 hi
    have hin := List.mem_range.1 h2
    rw [fst_hit (fun j hj => by simpa using h3 j hj) hin h1, fst_hit (fun j hj => by rw [← h j (by omega)]; simpa using h3 j hj) hin (by rw [← h i hin]; exact h1)]

/-! ### where a command was asked and replied -/
def hitK (q : Int) (e : Evn) (c : Cm) : Bool := decide (e.kd = q) && e.c.is c
theorem hitK_iff {q : Int} {e : Evn} {c : Cm} : hitK q e c = true ↔ e.kd = q ∧ e.c = c := by unfold hitK; rw [Bool.and_eq_true, decide_eq_true_eq, Cm.is_iff]
theorem hitK_no {q : Int} {e : Evn} {c : Cm} (h : e.kd = q ∧ e.c = c → False) : ¬ hitK q e c = true := fun x => h (hitK_iff.1 x)
theorem hitK_yes {q : Int} {e : Evn} {c : Cm} (h : e.kd = q) (h2 : e.c = c) : hitK q e c = true := hitK_iff.2 ⟨h, h2⟩
def findK (q : Int) (l : List Evn) (c : Cm) : Option Nat := l.findIdx? fun e => hitK q e c
theorem findK_snoc (q : Int) (l : List Evn) (e : Evn) (c : Cm) : findK q (l ++ [e]) c = (findK q l c).or (if hitK q e c = true then some l.length else none) := by
  unfold findK
  rw [List.findIdx?_append]
  congr 1
  cases h : hitK q e c <;> simp [h]
theorem findK_lt {q : Int} {l : List Evn} {c : Cm} {a : Nat} (h : findK q l c = some a) : ∃ ha : a < l.length, l[a].kd = q ∧ l[a].c = c ∧ ∀ j (hj : j < a), ¬ (l[j].kd = q ∧ l[j].c = c) := by
  unfold findK at h
  obtain ⟨h1, h2, h3⟩ := List.findIdx?_eq_some_iff_getElem.1 h
  simp only [hitK_iff] at h2 h3
  exact ⟨h1, h2.1, h2.2, fun j hj => h3 j hj⟩
theorem findK_none {q : Int} {l : List Evn} {c : Cm} (h : findK q l c = none) : ∀ j (hj : j < l.length), ¬ (l[j].kd = q ∧ l[j].c = c) := by
  intro j hj hh
  unfold findK at h
  have := List.findIdx?_eq_none_iff.1 h l[j] (List.getElem_mem hj)
  rw [hitK_yes hh.1 hh.2] at this; cases this
theorem findK_some {q : Int} {l : List Evn} {c : Cm} {a : Nat} (ha : a < l.length) (h1 : l[a].kd = q) (h2 : l[a].c = c) (h3 : ∀ j (hj : j < a), ¬ (l[j].kd = q ∧ l[j].c = c)) : findK q l c = some a := by
  unfold findK
  refine List.findIdx?_eq_some_iff_getElem.2 ⟨ha, hitK_yes h1 h2, fun j hj => ?_⟩
  simp only [hitK_iff]
  exact h3 j hj
theorem findK_no {q : Int} {l : List Evn} {c : Cm} (h : ∀ j (hj : j < l.length), ¬ (l[j].kd = q ∧ l[j].c = c)) : findK q l c = none := by
  cases e : findK q l c with
  | none => rfl
  | some a => obtain ⟨h1, h2, h3, _⟩ := findK_lt e; exact absurd ⟨h2, h3⟩ (h a h1)

/-- what holds of a history in turn -/
structure TInv (l : List Evn) : Prop where
  a : ∀ c, (findK 1 l c).isSome = true → c.sq ≤ (tRun l).la c.cl
  b : ∀ cl c, (tRun l).op cl = some c → c.cl = cl ∧ (findK 1 l c).isSome = true ∧ findK 2 l c = none
  c : ∀ c, (findK 2 l c).isSome = true → (findK 1 l c).isSome = true
  f : ∀ c, (findK 1 l c).isSome = true → cmF c = 0
theorem TInv.nil : TInv [] := ⟨fun c h => by simp [findK] at h, fun cl c h => by simp [tRun] at h, fun c h => by simp [findK] at h, fun c h => by simp [findK] at h⟩
theorem TInv.snoc {l : List Evn} {e : Evn} (h : TInv l) (hk : tOk (tRun l) e = true) : TInv (l ++ [e]) := by
  obtain ⟨hf, ⟨k1, _, _, ho, hs⟩ | ⟨k2, _, _, ho⟩⟩ := tOk_parts hk
  · have hnew : (findK 1 l e.c).isSome = false := by
      cases x : (findK 1 l e.c).isSome
      · rfl
      · have := h.a _ x; omega
    refine ⟨fun c hc => ?_, fun cl c hc => ?_, fun c hc => ?_, fun c hc => ?_⟩
    · rw [tRun_snoc, tStep, if_pos k1]
      rw [findK_snoc] at hc
      by_cases hcc : e.c = c
      · show c.sq ≤ setI (tRun l).la e.c.cl e.c.sq c.cl
        rw [← hcc, setI_same]; exact Int.le_refl _
      · rw [if_neg (hitK_no fun x => hcc x.2), Option.or_none] at hc
        have := h.a c hc
        show c.sq ≤ setI (tRun l).la e.c.cl e.c.sq c.cl
        by_cases hcl : c.cl = e.c.cl
        · rw [hcl, setI_same]; rw [hcl] at this; omega
        · rw [setI_other _ _ hcl]; exact this
    · rw [tRun_snoc, tStep, if_pos k1] at hc
      dsimp only at hc
      by_cases hcl : cl = e.c.cl
      · rw [hcl, setI_same] at hc
        injection hc with hc
        subst hc
        refine ⟨hcl.symm, by rw [findK_snoc, if_pos (hitK_yes k1 rfl)]; cases findK 1 l e.c <;> rfl, ?_⟩
        rw [findK_snoc, if_neg (hitK_no fun x => by have := x.1; omega), Option.or_none]
        cases x : findK 2 l e.c with
        | none => rfl
        | some a => have := h.c e.c (by rw [x]; rfl); rw [this] at hnew; cases hnew
      · rw [setI_other _ _ hcl] at hc
        obtain ⟨b1, b2, b3⟩ := h.b cl c hc
        refine ⟨b1, by rw [findK_snoc]; cases y : findK 1 l c <;> simp_all, ?_⟩
        rw [findK_snoc, if_neg (hitK_no fun x => by have := x.1; omega), Option.or_none]; exact b3
    · rw [findK_snoc, if_neg (hitK_no fun x => by have := x.1; omega), Option.or_none] at hc
      have := h.c c hc
      rw [findK_snoc]; cases y : findK 1 l c <;> simp_all
    · rw [findK_snoc] at hc
      by_cases hcc : e.c = c
      · rw [← hcc]; exact hf
      · rw [if_neg (hitK_no fun x => hcc x.2), Option.or_none] at hc; exact h.f c hc
  · have h1 : ∀ c, findK 1 (l ++ [e]) c = findK 1 l c := fun c => by rw [findK_snoc, if_neg (hitK_no fun x => by have := x.1; omega), Option.or_none]
    obtain ⟨b1, b2, b3⟩ := h.b _ _ ho
    have hst : tRun (l ++ [e]) = ⟨setI (tRun l).op e.c.cl none, (tRun l).la⟩ := by rw [tRun_snoc, tStep, if_neg (by omega)]
    refine ⟨fun c hc => ?_, fun cl c hc => ?_, fun c hc => ?_, fun c hc => ?_⟩
    · rw [h1] at hc; rw [hst]; exact h.a c hc
    · rw [hst] at hc
      dsimp only at hc
      by_cases hcl : cl = e.c.cl
      · rw [hcl, setI_same] at hc; cases hc
      · rw [setI_other _ _ hcl] at hc
        obtain ⟨q1, q2, q3⟩ := h.b cl c hc
        refine ⟨q1, by rw [h1]; exact q2, ?_⟩
        rw [findK_snoc, if_neg (hitK_no fun x => hcl (by rw [← q1, ← x.2])), Option.or_none]; exact q3
    · rw [h1]
      rw [findK_snoc] at hc
      by_cases hcc : e.c = c
      · rw [← hcc]; exact b2
      · rw [if_neg (hitK_no fun x => hcc x.2), Option.or_none] at hc; exact h.c c hc
    · rw [h1] at hc; exact h.f c hc
/-- the turns, as the map holds them -/
def tn (N : Nat) (l : List Evn) (c : Cm) : Option (Nat × Nat) := (findK 1 l c).map fun a => (a, (findK 2 l c).getD N)
theorem tn_ask {N : Nat} {l : List Evn} {e : Evn} (h : TInv l) (hk : tOk (tRun l) e = true) (h1 : e.kd = 1) : tn N (l ++ [e]) = setC (tn N l) e.c (some (l.length, N)) := by
  obtain ⟨hf, ⟨k1, _, _, ho, hs⟩ | ⟨k2, _, _, ho⟩⟩ := tOk_parts hk
  · funext c
    have hnew : findK 1 l e.c = none := by
      cases x : findK 1 l e.c with
      | none => rfl
      | some a => have := h.a e.c (by rw [x]; rfl); omega
    have hnew2 : findK 2 l e.c = none := by
      cases x : findK 2 l e.c with
      | none => rfl
      | some a => have := h.c e.c (by rw [x]; rfl); rw [hnew] at this; cases this
    unfold tn
    rw [findK_snoc, findK_snoc, if_neg (hitK_no fun x => by have := x.1; omega : ¬ hitK 2 e c = true), Option.or_none]
    by_cases hcc : c = e.c
    · subst hcc
      rw [setC_same, if_pos (hitK_yes h1 rfl), hnew, hnew2]; rfl
    · rw [setC_other _ _ hcc, if_neg (hitK_no fun x => hcc x.2.symm), Option.or_none]
  · omega
theorem tn_rep {N : Nat} {l : List Evn} {e : Evn} (h : TInv l) (hk : tOk (tRun l) e = true) (h2 : e.kd = 2) : ∃ a r, tn N l e.c = some (a, r) ∧ tn N (l ++ [e]) = setC (tn N l) e.c (some (a, l.length)) := by
  obtain ⟨hf, ⟨k1, _, _, ho, hs⟩ | ⟨k2, _, _, ho⟩⟩ := tOk_parts hk
  · omega
  · obtain ⟨b1, b2, b3⟩ := h.b _ _ ho
    obtain ⟨a, ha⟩ := Option.isSome_iff_exists.1 b2
    refine ⟨a, N, by unfold tn; rw [ha, b3]; rfl, ?_⟩
    funext c
    unfold tn
    rw [findK_snoc, findK_snoc, if_neg (hitK_no fun x => by have := x.1; omega : ¬ hitK 1 e c = true), Option.or_none]
    by_cases hcc : c = e.c
    · subst hcc
      rw [setC_same, if_pos (hitK_yes h2 rfl), ha, b3]; rfl
    · rw [setC_other _ _ hcc, if_neg (hitK_no fun x => hcc x.2.symm), Option.or_none]

/-! ### the five looks -/
def evD : Evn := ⟨0, ⟨0, 0, 0, ⟨#[]⟩, ⟨#[]⟩, ⟨#[]⟩⟩, 0, ⟨#[]⟩⟩
def cmD : Cm := ⟨0, 0, 0, ⟨#[]⟩, ⟨#[]⟩, ⟨#[]⟩⟩
def evAt (es : List Evn) (i : Nat) : Evn := es[i]?.getD evD
def cmAt (os : List Cm) (i : Nat) : Cm := os[i]?.getD cmD
theorem evAt_eq {es : List Evn} {i : Nat} (h : i < es.length) : evAt es i = es[i] := by unfold evAt; rw [List.getElem?_eq_getElem h]; rfl
theorem cmAt_eq {os : List Cm} {i : Nat} (h : i < os.length) : cmAt os i = os[i] := by unfold cmAt; rw [List.getElem?_eq_getElem h]; rfl
def inCs (os : List Cm) (c : Cm) : Bool := os.any fun d => d.is c
theorem inCs_iff {os : List Cm} {c : Cm} : inCs os c = true ↔ c ∈ os := by
  unfold inCs
  rw [List.any_eq_true]
  exact ⟨fun ⟨x, hx, h⟩ => by rw [← Cm.is_iff.1 h]; exact hx, fun h => ⟨c, h, c.is_self⟩⟩
def q1 (es : List Evn) (i : Nat) : Bool := !tOk (tRun (es.take i)) (evAt es i)
def q2 (es : List Evn) (os : List Cm) (i : Nat) : Bool := (findK 1 es (cmAt os i)).isNone || inCs (os.take i) (cmAt os i)
def q3 (es : List Evn) (os : List Cm) (i : Nat) : Bool := decide ((evAt es i).kd = 2) && !inCs os (evAt es i).c
/-- what the i-th command brings: result and text -/
def q4 (es : List Evn) (os : List Cm) (rs : Nat → Int × ByteArray) (i : Nat) : Bool := match findK 2 es (cmAt os i) with
  | some r => decide ((evAt es r).cd ≠ (rs i).1) || decide ((evAt es r).v ≠ (rs i).2)
  | none => false
def askI (es : List Evn) (os : List Cm) (i : Nat) : Nat := (findK 1 es (cmAt os i)).getD 0
/-- the reply of the j-th is ahead of the asking of the i-th -/
def ear (es : List Evn) (os : List Cm) (i j : Nat) : Bool := match findK 2 es (cmAt os j) with | some r => decide (r < askI es os i) | none => false
def q5 (es : List Evn) (os : List Cm) (i : Nat) : Bool := (List.range os.length).any fun j => decide (i < j) && ear es os i j
def linA (es : List Evn) (os : List Cm) (rs : Nat → Int × ByteArray) : Int × Int :=
  if 4096 < es.length ∨ 4096 < os.length then (9, 0)
  else if 0 ≤ fstOf (q1 es) es.length then (1, fstOf (q1 es) es.length)
  else if 0 ≤ fstOf (q2 es os) os.length then (2, fstOf (q2 es os) os.length)
  else if 0 ≤ fstOf (q3 es os) es.length then (3, fstOf (q3 es os) es.length)
  else if 0 ≤ fstOf (q4 es os rs) os.length then (4, fstOf (q4 es os rs) os.length)
  else if 0 ≤ fstOf (q5 es os) os.length then (5, fstOf (q5 es os) os.length)
  else (0, 0)
theorem tinv_take {es : List Evn} : ∀ k, k ≤ es.length → (∀ j, j < k → q1 es j = false) → TInv (es.take k)
  | 0, _, _ => by simpa using TInv.nil
  | k + 1, hk, h => by
    have ih := tinv_take k (by omega) fun j hj => h j (by omega)
    have h1 := h k (by omega)
    rw [List.take_succ_eq_append_getElem (by omega)]
    refine ih.snoc ?_
    rw [q1, evAt_eq (by omega)] at h1
    simpa using h1
theorem tinv_all {es : List Evn} (h : fstOf (q1 es) es.length < 0) : TInv es := by
  have := tinv_take es.length (Nat.le_refl _) (fst_neg h)
  rwa [List.take_length] at this

/-! ### from the end -/
def repN (es : List Evn) (os : List Cm) (j : Nat) : Nat := (findK 2 es (cmAt os j)).getD es.length
def mnR (es : List Evn) (os : List Cm) : Nat → Nat
  | 0 => es.length
  | k + 1 => min (mnR es os k) (repN es os (os.length - (k + 1)))
def fdR (es : List Evn) (os : List Cm) : Nat → Int
  | 0 => -1
  | k + 1 => if mnR es os k < askI es os (os.length - (k + 1)) then ((os.length - (k + 1) : Nat) : Int) else fdR es os k
theorem mnR_lt {es : List Evn} {os : List Cm} {x : Nat} (hx : x < es.length) : ∀ k, k ≤ os.length → (mnR es os k < x ↔ ∃ j, os.length - k ≤ j ∧ j < os.length ∧ repN es os j < x)
  | 0, _ => by
    unfold mnR
    constructor
    · intro h; omega
    · rintro ⟨j, h1, h2, _⟩; omega
  | k + 1, hk => by
    have ih := mnR_lt (os := os) hx k (by omega)
    unfold mnR
    rw [show (min (mnR es os k) (repN es os (os.length - (k + 1))) < x ↔ mnR es os k < x ∨ repN es os (os.length - (k + 1)) < x) by omega, ih]
    constructor
    · rintro (⟨j, h1, h2, h3⟩ | h)
      · exact ⟨j, by omega, h2, h3⟩
      · exact ⟨_, Nat.le_refl _, by omega, h⟩
    · rintro ⟨j, h1, h2, h3⟩
      by_cases hj : j = os.length - (k + 1)
      · subst hj; exact .inr h3
      · exact .inl ⟨j, by omega, h2, h3⟩
theorem ear_iff {es : List Evn} {os : List Cm} {i j : Nat} (h : askI es os i < es.length) : ear es os i j = true ↔ repN es os j < askI es os i := by
  unfold ear repN
  cases findK 2 es (cmAt os j) with
  | none => simp; omega
  | some r => simp
theorem q5_iff {es : List Evn} {os : List Cm} {i : Nat} (hi : i < os.length) (h : askI es os i < es.length) : q5 es os i = true ↔ mnR es os (os.length - (i + 1)) < askI es os i := by
  rw [mnR_lt h _ (by omega)]
  unfold q5
  rw [List.any_eq_true]
  constructor
  · rintro ⟨j, h1, h2⟩
    simp only [Bool.and_eq_true, decide_eq_true_eq, ear_iff h] at h2
    exact ⟨j, by omega, List.mem_range.1 h1, h2.2⟩
  · rintro ⟨j, h1, h2, h3⟩
    refine ⟨j, List.mem_range.2 h2, ?_⟩
    simp only [Bool.and_eq_true, decide_eq_true_eq, ear_iff h]
    exact ⟨by omega, h3⟩
theorem fdR_eq {es : List Evn} {os : List Cm} (h : ∀ i, i < os.length → askI es os i < es.length) : ∀ k, k ≤ os.length → ((∀ i, os.length - k ≤ i → i < os.length → q5 es os i = false) ∧ fdR es os k = -1) ∨ ∃ i : Nat, os.length - k ≤ i ∧ i < os.length ∧ (∀ j, os.length - k ≤ j → j < i → q5 es os j = false) ∧ q5 es os i = true ∧ fdR es os k = i
  | 0, _ => .inl ⟨fun i h1 h2 => by omega, rfl⟩
  | k + 1, hk => by
    have hi : os.length - (k + 1) < os.length := by omega
    have e : os.length - (os.length - (k + 1) + 1) = k := by omega
    have hq := q5_iff hi (h _ hi)
    rw [e] at hq
    unfold fdR
    by_cases hm : mnR es os k < askI es os (os.length - (k + 1))
    · rw [if_pos hm]
      exact .inr ⟨_, Nat.le_refl _, hi, fun j h1 h2 => by omega, hq.2 hm, rfl⟩
    · rw [if_neg hm]
      have hf : q5 es os (os.length - (k + 1)) = false := by
        cases x : q5 es os (os.length - (k + 1))
        · rfl
        · exact absurd (hq.1 x) hm
      rcases fdR_eq h k (by omega) with ⟨h1, h2⟩ | ⟨i, h1, h2, h3, h4, h5⟩
      · refine .inl ⟨fun i a b => ?_, h2⟩
        by_cases hj : i = os.length - (k + 1)
        · rw [hj]; exact hf
        · exact h1 i (by omega) b
      · refine .inr ⟨i, by omega, h2, fun j a b => ?_, h4, h5⟩
        by_cases hj : j = os.length - (k + 1)
        · rw [hj]; exact hf
        · exact h3 j (by omega) b
theorem fdR_all {es : List Evn} {os : List Cm} (h : ∀ i, i < os.length → askI es os i < es.length) : fdR es os os.length = fstOf (q5 es os) os.length := by
  rcases fdR_eq h os.length (Nat.le_refl _) with ⟨h1, h2⟩ | ⟨i, h1, h2, h3, h4, h5⟩
  · rw [h2, fst_no fun j hj => h1 j (by omega) hj]
  · rw [h5, fst_hit (fun j hj => h3 j (by omega) hj) h2 h4]
theorem ask_lt {es : List Evn} {os : List Cm} (h : fstOf (q2 es os) os.length < 0) : ∀ i, i < os.length → askI es os i < es.length := by
  intro i hi
  have := fst_neg h i hi
  unfold q2 at this
  simp only [Bool.or_eq_false_iff, Option.isNone_eq_false_iff] at this
  obtain ⟨a, ha⟩ := Option.isSome_iff_exists.1 this.1
  unfold askI
  rw [ha]
  exact (findK_lt ha).1
end Go.Proofs.Ytnoihfincifphaa
