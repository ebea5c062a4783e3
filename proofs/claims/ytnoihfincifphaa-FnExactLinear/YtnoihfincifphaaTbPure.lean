/-
  Maps as rising lists: put, del, look-up, the keys in order.
-/
import Derived.Test.YtnoihfincifphaaGround
import Derived.Maps.OwnSet
import Derived.Sort.Walk0
import Derived.Sort.KeysCollected
import Derived.Lib.SlKeysI
namespace Go.Proofs.Ytnoihfincifphaa
open Go.RowKit Go.Maps
set_option linter.unusedVariables false
set_option linter.unusedSimpArgs false

/-- keys of one kind, in order -/
structure KOrd {α : Type} (kd : α → Lit) : Prop where
  key : ∀ a, WideAt.IsKeyLit (kd a)
  asym : ∀ a b, (kd a).before (kd b) = true → (kd b).before (kd a) = false
  trans : ∀ a b c, (kd a).before (kd b) = true → (kd b).before (kd c) = true → (kd a).before (kd c) = true
  total : ∀ a b, (kd a).before (kd b) = false → (kd b).before (kd a) = false → kd a = kd b
  same : ∀ a b, (kd a).sameKey (kd b) = true ↔ kd a = kd b

def kMap {α : Type} (kd : α → Lit) (vl : α → Value) (l : List α) : DataW Value := .map (l.map fun a => (kd a, .held (vl a)))
def KRise {α : Type} (kd : α → Lit) (l : List α) : Prop := l.Pairwise fun a b => (kd a).before (kd b) = true
/-- x in its place, in the room of the one that bears its key -/
def kPut {α : Type} (kd : α → Lit) (x : α) (l : List α) : List α := l.filter (fun a => (kd a).before (kd x)) ++ x :: l.filter (fun a => (kd x).before (kd a))
def kDel {α : Type} (kd : α → Lit) (k : Lit) (l : List α) : List α := l.filter (fun a => (kd a).before k) ++ l.filter (fun a => k.before (kd a))

section
variable {α : Type} {kd : α → Lit}
theorem KOrd.irr (O : KOrd kd) (a : α) : (kd a).before (kd a) = false := by
  cases h : (kd a).before (kd a)
  · rfl
  · rw [O.asym _ _ h] at h; cases h
theorem KOrd.same_false (O : KOrd kd) {a b : α} (h : (kd a).before (kd b) = true) : (kd a).sameKey (kd b) = false := by
  cases e : (kd a).sameKey (kd b)
  · rfl
  · rw [(O.same _ _).1 e, O.irr] at h; cases h
theorem KOrd.same_false' (O : KOrd kd) {a b : α} (h : (kd b).before (kd a) = true) : (kd a).sameKey (kd b) = false := by
  cases e : (kd a).sameKey (kd b)
  · rfl
  · rw [(O.same _ _).1 e, O.irr] at h; cases h
theorem KOrd.above (O : KOrd kd) {x a : α} {r : List α} (h : KRise kd (a :: r)) (hx : kd x = kd a ∨ (kd x).before (kd a) = true) : ∀ b ∈ r, (kd x).before (kd b) = true := fun b hb => by
  have h1 := List.rel_of_pairwise_cons h hb
  rcases hx with hx | hx
  · rw [hx]; exact h1
  · exact O.trans _ _ _ hx h1
theorem filter_above (O : KOrd kd) {x : α} {r : List α} (h : ∀ b ∈ r, (kd x).before (kd b) = true) : r.filter (fun a => (kd a).before (kd x)) = [] ∧ r.filter (fun a => (kd x).before (kd a)) = r ∧ (r.filter fun a => !(kd a).sameKey (kd x)) = r := by
  refine ⟨List.filter_eq_nil_iff.2 fun b hb => by rw [O.asym _ _ (h b hb)]; simp, List.filter_eq_self.2 fun b hb => h b hb, List.filter_eq_self.2 fun b hb => by rw [O.same_false' (h b hb)]; rfl⟩
theorem insert_rise (O : KOrd kd) (vl : α → Value) (x : α) : ∀ l : List α, KRise kd l → DataW.insert (kd x, .held (vl x)) ((l.filter fun a => !(kd a).sameKey (kd x)).map fun a => (kd a, (.held (vl a) : DataW Value))) = (kPut kd x l).map fun a => (kd a, .held (vl a))
  | [], _ => rfl
  | a :: r, h => by
    have ih := insert_rise O vl x r (List.Pairwise.of_cons h)
    cases h1 : (kd a).before (kd x)
    · cases h2 : (kd x).before (kd a)
      · have he := O.total _ _ h1 h2
        have hab := O.above h (.inl he.symm)
        obtain ⟨f1, f2, f3⟩ := filter_above O hab
        have hs : (kd a).sameKey (kd x) = true := (O.same _ _).2 he
        rw [List.filter_cons, hs, ← show kPut kd x r = kPut kd x (a :: r) by unfold kPut; rw [List.filter_cons, List.filter_cons, h1, h2]; rfl]
        exact ih
      · have hab := O.above h (.inr h2)
        obtain ⟨f1, f2, f3⟩ := filter_above O hab
        rw [List.filter_cons, O.same_false' h2, f3]
        unfold kPut
        rw [List.filter_cons, List.filter_cons, h1, h2, f1, f2]
        simp [DataW.insert, h2]
    · have h2 := O.asym _ _ h1
      rw [List.filter_cons, O.same_false h1]
      unfold kPut at ih ⊢
      rw [List.filter_cons, List.filter_cons, h1, h2]
      simp only [Bool.not_false, if_true, List.map_cons, DataW.insert, h2, Bool.false_eq_true, if_false, List.cons_append]
      rw [ih]
theorem put_rise (O : KOrd kd) (vl : α → Value) {l : List α} (h : KRise kd l) (x : α) : (kMap kd vl l).put (kd x) (.held (vl x)) = kMap kd vl (kPut kd x l) := by
  unfold kMap
  rw [DataW.put, ← insert_rise O vl x l h, List.filter_map]
  rfl
theorem kPut_above (O : KOrd kd) {l : List α} {x : α} (h : ∀ a ∈ l, (kd a).before (kd x) = true) : kPut kd x l = l ++ [x] := by
  unfold kPut
  rw [List.filter_eq_self.2 h, List.filter_eq_nil_iff.2 fun a ha => by rw [O.asym _ _ (h a ha)]; simp]
theorem filter_split (O : KOrd kd) : ∀ (l : List α) (x : α), KRise kd l → (l.filter fun a => !(kd a).sameKey (kd x)) = kDel kd (kd x) l
  | [], x, _ => rfl
  | a :: r, x, h => by
    have ih := filter_split O r x (List.Pairwise.of_cons h)
    unfold kDel at ih ⊢
    rw [List.filter_cons, List.filter_cons, List.filter_cons]
    cases h1 : (kd a).before (kd x)
    · cases h2 : (kd x).before (kd a)
      · rw [(O.same _ _).2 (O.total _ _ h1 h2)]; simpa using ih
      · obtain ⟨f1, f2, f3⟩ := filter_above O (O.above h (.inr h2))
        rw [O.same_false' h2, f1, f2, f3]; simp
    · rw [O.same_false h1, O.asym _ _ h1]; simpa using ih
theorem del_rise (O : KOrd kd) (vl : α → Value) {l : List α} (h : KRise kd l) (x : α) : (kMap kd vl l).del (kd x) = kMap kd vl (kDel kd (kd x) l) := by
  unfold kMap
  rw [DataW.del, ← filter_split O l x h, List.filter_map]
  rfl
theorem rise_put (O : KOrd kd) {l : List α} (h : KRise kd l) (x : α) : KRise kd (kPut kd x l) := by
  refine List.pairwise_append.2 ⟨h.filter _, List.pairwise_cons.2 ⟨fun b hb => (List.mem_filter.1 hb).2, h.filter _⟩, fun a ha b hb => ?_⟩
  have h1 := (List.mem_filter.1 ha).2
  rcases List.mem_cons.1 hb with rfl | hb
  · exact h1
  · exact O.trans _ _ _ h1 (List.mem_filter.1 hb).2
theorem rise_del (O : KOrd kd) {l : List α} (h : KRise kd l) (x : α) : KRise kd (kDel kd (kd x) l) := by
  refine List.pairwise_append.2 ⟨h.filter _, h.filter _, fun a ha b hb => O.trans _ _ _ (List.mem_filter.1 ha).2 (List.mem_filter.1 hb).2⟩
theorem has_kMap (vl : α → Value) (l : List α) (k : Lit) : Maps.has (kMap kd vl l) k = l.any (fun a => (kd a).sameKey k) := by
  unfold kMap
  rw [has_eq, List.any_map]
  rfl
theorem size_kMap (vl : α → Value) (l : List α) : Maps.size (kMap kd vl l) = l.length := by unfold kMap; rw [size_eq, List.length_map]
theorem atKey_kMap (vl : α → Value) (l : List α) (k : Lit) (z : Value) : (kMap kd vl l).atKey k (.held z) = .held ((l.find? fun a => (kd a).sameKey k).elim z vl) := by
  unfold kMap
  rw [DataW.atKey, List.find?_map]
  rw [show (fun p : Lit × DataW Value => p.1.sameKey k) ∘ (fun a => (kd a, (.held (vl a) : DataW Value))) = fun a => (kd a).sameKey k from rfl]
  cases l.find? fun a => (kd a).sameKey k <;> rfl
theorem find_at (O : KOrd kd) {l : List α} (h : KRise kd l) {j : Nat} (hj : j < l.length) : (l.find? fun a => (kd a).sameKey (kd l[j])) = some l[j] := by
  induction l generalizing j with
  | nil => simp at hj
  | cons a r ih =>
    cases j with
    | zero => rw [List.find?_cons]; simp [(O.same a a).2 rfl]
    | succ j =>
      have hj' : j < r.length := by simpa using hj
      have h1 := List.rel_of_pairwise_cons h (List.getElem_mem hj')
      rw [List.find?_cons, List.getElem_cons_succ, O.same_false h1]
      exact ih (List.Pairwise.of_cons h) hj'
end

/-- any value reads as itself -/
def heldE (v : Value) : Option (DataW Value × List MemPlace) := some (.held v, [])

/-! ### texts as keys -/
def txK (b : ByteArray) : Lit := .string b.data.toList
def txB (a b : ByteArray) : Bool := (txK a).before (txK b)
theorem less_before : ∀ x y : List UInt8, Op.bytesLess x y = bytesBefore x y
  | [], [] => rfl
  | _ :: _, [] => rfl
  | [], _ :: _ => rfl
  | a :: x, b :: y => by rw [Op.bytesLess, bytesBefore, less_before x y]
theorem less_tx (a b : ByteArray) : Op.bytesLess a.toList b.toList = txB a b := by
  rw [less_before, ByteArray.toList_eq, ByteArray.toList_eq]; rfl
theorem txK_inj {a b : ByteArray} (h : txK a = txK b) : a = b := by
  injection h with h
  exact WideShapes.bytes_inj h
theorem txOrd : KOrd (fun b : ByteArray => txK b) := {
  key := fun a => trivial
  asym := fun a b h => by
    cases h' : (txK b).before (txK a)
    · rfl
    · have := WideShapes.bytes_trans _ _ _ h h'
      rw [WideAt.bytes_irrefl] at this; cases this
  trans := fun a b c h1 h2 => WideShapes.bytes_trans _ _ _ h1 h2
  total := fun a b h1 h2 => by
    by_cases e : a.data.toList = b.data.toList
    · exact congrArg Lit.string e
    · rcases WideAt.bytes_total _ _ e with h | h
      · have h1' : bytesBefore a.data.toList b.data.toList = false := h1
        rw [h] at h1'; cases h1'
      · have h2' : bytesBefore b.data.toList a.data.toList = false := h2
        rw [h] at h2'; cases h2'
  same := fun a b => by
    show (a.data.toList == b.data.toList) = true ↔ _
    rw [beq_iff_eq]
    constructor
    · exact fun e => congrArg Lit.string e
    · intro e; injection e }
theorem same_tx (a b : ByteArray) : (txK a).sameKey (txK b) = decide (a = b) := by
  by_cases e : a = b
  · subst e; rw [(txOrd.same a a).2 rfl]; simp
  · rw [decide_eq_false e]
    cases h : (txK a).sameKey (txK b)
    · rfl
    · exact absurd (txK_inj ((txOrd.same a b).1 h)) e
theorem KOrd.comp {α β : Type} {kd : α → Lit} (O : KOrd kd) (f : β → α) : KOrd (fun b => kd (f b)) :=
  ⟨fun a => O.key _, fun a b => O.asym _ _, fun a b c => O.trans _ _ _, fun a b => O.total _ _, fun a b => O.same _ _⟩
theorem inOrd : KOrd (fun x : Int => Lit.int .i64 x) := {
  key := fun a => trivial
  asym := fun a b h => by
    have h' : decide (a < b) = true := h
    show decide (b < a) = false
    simp at h' ⊢; omega
  trans := fun a b c h1 h2 => by
    have h1' : decide (a < b) = true := h1
    have h2' : decide (b < c) = true := h2
    show decide (a < c) = true
    simp at h1' h2' ⊢; omega
  total := fun a b h1 h2 => by
    have h1' : decide (a < b) = false := h1
    have h2' : decide (b < a) = false := h2
    simp at h1' h2'
    rw [show a = b by omega]
  same := fun a b => by
    show decide (IntKind.i64 = IntKind.i64 ∧ a = b) = true ↔ _
    simp }
theorem before_le {x y : List UInt8} (h : bytesBefore x y = true) : x ≤ y := by
  rw [← less_before, bytesLess_eq] at h
  exact List.le_of_lt (by simpa using h)
end Go.Proofs.Ytnoihfincifphaa
