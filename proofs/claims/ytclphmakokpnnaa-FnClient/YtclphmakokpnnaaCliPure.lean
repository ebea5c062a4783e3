/-
  A client and an event as they are drawn; what a step makes of a well-formed one.
-/
import Derived.Test.YtclphmakokpnnaaCliStep
import Derived.Test.YtclphmakokpnnaaDrawD
namespace Go.Proofs.Ytclphmakokpnnaa
open Go.RowKit
set_option linter.unusedVariables false
set_option linter.unusedSimpArgs false

structure Cli where
  id : Int
  sv : Int
  rt : Int
  sq : Int
  bs : Int
  tg : Int
  wt : Int
  ccl : Int
  csq : Int
  cop : Int
  ck : ByteArray
  cv : ByteArray
  co : ByteArray
structure Cev where
  kd : Int
  ecl : Int
  esq : Int
  eop : Int
  ek : ByteArray
  ev : ByteArray
  eo : ByteArray
  rcl : Int
  rsq : Int
  rst : Int
  rcd : Int
  rv : ByteArray
  rld : Int
def Cli.B (c : Cli) : Bool := cliB c.id c.sv c.rt c.sq c.bs c.tg c.wt c.ccl c.csq c.cop c.ck c.cv c.co
def Cli.ok (c : Cli) : Prop := c.B = true ∧ c.ck.size ≤ 64 ∧ c.cv.size ≤ 64 ∧ c.co.size ≤ 64
def Cev.ok (e : Cev) (c : Cli) : Prop := (e.kd = 1 ∨ e.kd = 2 ∨ e.kd = 3) ∧ e.ek.size ≤ 64 ∧ e.ev.size ≤ 64 ∧ e.eo.size ≤ 64 ∧ e.rv.size ≤ 64 ∧ e.rcl = c.id ∧
  ((e.rst = 1 ∧ 1 ≤ e.rcd ∧ e.rcd ≤ 4 ∧ e.rld = 0) ∨ (e.rst = 2 ∧ e.rcd = 0 ∧ e.rv.size = 0 ∧ 0 ≤ e.rld ∧ e.rld ≤ 7))
def stepW (c : Cli) (e : Cev) : Value := stepV c.id c.sv c.rt c.sq c.bs c.tg c.wt c.ccl c.csq c.cop c.ck c.cv c.co e.kd e.ecl e.esq e.eop e.ek e.ev e.eo e.rcl e.rsq e.rst e.rcd e.rv e.rld
def strV : Value → ByteArray
  | .string s => s
  | _ => ⟨#[]⟩
def intV : Value → Int
  | .int _ n => n
  | _ => 0
def nextC (c : Cli) (e : Cev) : Cli :=
  match stepW c e with
  | .agg a => ⟨intV (a[3]?.getD undef), intV (a[4]?.getD undef), intV (a[5]?.getD undef), intV (a[6]?.getD undef), intV (a[7]?.getD undef), intV (a[8]?.getD undef), intV (a[9]?.getD undef), intV (a[10]?.getD undef), intV (a[11]?.getD undef), intV (a[12]?.getD undef), strV (a[13]?.getD undef), strV (a[14]?.getD undef), strV (a[15]?.getD undef)⟩
  | _ => c
/-- what a law asks of a step's answer -/
structure StepOk (c : Cli) (e : Cev) (cd sd dn : Int) (n : Cli) : Prop where
  ok : n.ok
  code0 : 0 ≤ cd
  code3 : cd ≤ 3
  send : sd = 0 ∨ sd = n.tg
  done01 : dn = 0 ∨ dn = 1
  done : dn = 1 ↔ (e.kd = 3 ∧ c.bs = 1 ∧ e.rsq = c.sq ∧ e.rcl = c.id ∧ e.rst = 1)
  taken : e.kd = 1 → cd = 0 → c.bs = 0 ∧ n.bs = 1 ∧ n.sq = c.sq + 1 ∧ n.ck = e.ek ∧ n.csq = n.sq
  stays : ¬ (e.kd = 1 ∧ cd = 0) → n.sq = c.sq
  keeps : ¬ (e.kd = 1 ∧ cd = 0) → dn = 0 → n.bs = c.bs ∧ n.ccl = c.ccl ∧ n.csq = c.csq ∧ n.cop = c.cop ∧ n.ck = c.ck ∧ n.cv = c.cv ∧ n.co = c.co
  idle : dn = 1 → n.bs = 0
  range : 0 ≤ n.sq ∧ n.sq ≤ 1073741824 ∧ 0 ≤ c.sq ∧ c.sq ≤ 1073741824
def ansV (cd sd dn : Int) (n : Cli) : Value := .agg #[.int .i64 cd, .int .i64 sd, .int .i64 dn, .int .i64 n.id, .int .i64 n.sv, .int .i64 n.rt, .int .i64 n.sq, .int .i64 n.bs, .int .i64 n.tg, .int .i64 n.wt, .int .i64 n.ccl, .int .i64 n.csq, .int .i64 n.cop, .string n.ck, .string n.cv, .string n.co]
theorem nextC_of {c : Cli} {e : Cev} {cd sd dn : Int} {n : Cli} (h : stepW c e = ansV cd sd dn n) : nextC c e = n := by
  unfold nextC
  rw [h]
  rfl

theorem cliB_parts {c : Cli} (h : c.B = true) : (1 ≤ c.id ∧ c.id ≤ 8) ∧ sizB c.sv = true ∧ (1 ≤ c.rt ∧ c.rt ≤ 1000) ∧ (0 ≤ c.sq ∧ c.sq ≤ 1073741824) ∧ (1 ≤ c.tg ∧ c.tg ≤ c.sv) ∧ (0 ≤ c.wt ∧ c.wt ≤ c.rt - 1) ∧ openB c.id c.sq c.bs c.wt c.ccl c.csq c.cop c.ck c.cv c.co = true := by
  unfold Cli.B cliB at h
  simp only [Bool.and_eq_true, inB_iff] at h
  obtain ⟨h1, h2, h3, h4, h5, h6, h7⟩ := h
  exact ⟨h1, h2, h3, h4, h5, h6, h7⟩
theorem cliB_mk {c : Cli} (h1 : 1 ≤ c.id ∧ c.id ≤ 8) (h2 : sizB c.sv = true) (h3 : 1 ≤ c.rt ∧ c.rt ≤ 1000) (h4 : 0 ≤ c.sq ∧ c.sq ≤ 1073741824) (h5 : 1 ≤ c.tg ∧ c.tg ≤ c.sv) (h6 : 0 ≤ c.wt ∧ c.wt ≤ c.rt - 1) (h7 : openB c.id c.sq c.bs c.wt c.ccl c.csq c.cop c.ck c.cv c.co = true) : c.B = true := by
  unfold Cli.B cliB
  simp only [Bool.and_eq_true, inB_iff]
  exact ⟨h1, h2, h3, h4, h5, h6, h7⟩
theorem openB_bs {id sq bs wt ccl csq cop : Int} {ck cv co : ByteArray} (h : openB id sq bs wt ccl csq cop ck cv co = true) : (bs = 0 ∧ wt = 0) ∨ (bs = 1 ∧ callF ccl csq cop ck.size cv.size co.size = 0 ∧ ccl = id ∧ csq = sq) := by
  unfold openB at h
  split at h
  · next h0 => simp only [Bool.and_eq_true, beq_iff_eq] at h; exact .inl ⟨h0, h.2⟩
  · split at h
    · next h1 => simp only [Bool.and_eq_true, beq_iff_eq] at h; exact .inr ⟨h1, h.1, h.2.1, h.2.2⟩
    · cases h
theorem openB_wait {id sq bs wt wt' ccl csq cop : Int} {ck cv co : ByteArray} (h : openB id sq bs wt ccl csq cop ck cv co = true) (hb : bs = 1) : openB id sq bs wt' ccl csq cop ck cv co = true := by
  subst hb
  unfold openB at h ⊢
  simpa using h
theorem callF_sq {cl sq op k v o : Int} (h : callF cl sq op k v o = 0) : 1 ≤ sq ∧ sq ≤ 1073741824 ∧ k ≤ 64 ∧ v ≤ 64 ∧ o ≤ 64 := by
  unfold callF at h
  split at h
  · cases h
  · next hz =>
    unfold cmdF at h hz
    repeat' split at h
    all_goals first | (exfalso; omega) | omega

theorem step_ok (c : Cli) (e : Cev) (hc : c.ok) (he : e.ok c) : ∃ cd sd dn, stepW c e = ansV cd sd dn (nextC c e) ∧ StepOk c e cd sd dn (nextC c e) := by
  suffices h : ∃ cd sd dn n, stepW c e = ansV cd sd dn n ∧ StepOk c e cd sd dn n by
    obtain ⟨cd, sd, dn, n, h1, h2⟩ := h
    rw [nextC_of h1]
    exact ⟨cd, sd, dn, h1, h2⟩
  obtain ⟨hB, hk, hv, ho⟩ := hc
  obtain ⟨hkd, ek, ev, eo, erv, hcl, hrep⟩ := he
  obtain ⟨q1, q2, q3, q4, q5, q6, q7⟩ := cliB_parts hB
  have hsv : c.sv = 3 ∨ c.sv = 5 ∨ c.sv = 7 := by simpa [sizB, or_assoc] using q2
  have hmod : 0 ≤ c.tg % c.sv ∧ c.tg % c.sv < c.sv := ⟨Int.emod_nonneg _ (by omega), Int.emod_lt_of_pos _ (by omega)⟩
  have hob := openB_bs q7
  have hBf : cliB c.id c.sv c.rt c.sq c.bs c.tg c.wt c.ccl c.csq c.cop c.ck c.cv c.co = true := hB
  unfold stepW stepV
  rw [if_neg (by rw [hBf]; simp)]
  rcases hkd with h1 | h2 | h3
  · rw [if_pos h1]
    unfold askV
    split
    · refine ⟨1, 0, 0, c, rfl, ⟨⟨hB, hk, hv, ho⟩, by omega, by omega, .inl rfl, .inl rfl, ⟨fun h => by omega, fun h => by omega⟩, fun _ h => by omega, fun _ => rfl, fun _ _ => ⟨rfl, rfl, rfl, rfl, rfl, rfl, rfl⟩, fun h => by omega, by omega⟩⟩
    · next hn =>
      split
      · refine ⟨2, 0, 0, c, rfl, ⟨⟨hB, hk, hv, ho⟩, by omega, by omega, .inl rfl, .inl rfl, ⟨fun h => by omega, fun h => by omega⟩, fun _ h => by omega, fun _ => rfl, fun _ _ => ⟨rfl, rfl, rfl, rfl, rfl, rfl, rfl⟩, fun h => by omega, by omega⟩⟩
      · next hf =>
        have hf0 : callF c.id (c.sq + 1) e.eop e.ek.size e.ev.size e.eo.size = 0 := by simpa using hf
        refine ⟨0, c.tg, 0, ⟨c.id, c.sv, c.rt, c.sq + 1, 1, c.tg, 0, c.id, c.sq + 1, e.eop, e.ek, e.ev, e.eo⟩, rfl, ⟨⟨cliB_mk q1 q2 q3 (by show 0 ≤ c.sq + 1 ∧ c.sq + 1 ≤ 1073741824; omega) q5 (by show 0 ≤ (0 : Int) ∧ (0 : Int) ≤ c.rt - 1; omega) ?_, ek, ev, eo⟩, by omega, by omega, .inr rfl, .inl rfl, ⟨fun h => by omega, fun h => by omega⟩, fun _ _ => ⟨?_, rfl, rfl, rfl, rfl⟩, fun h => absurd ⟨h1, rfl⟩ h, fun h => absurd ⟨h1, rfl⟩ h, fun h => by omega, ?_⟩⟩
        · show openB c.id (c.sq + 1) 1 0 c.id (c.sq + 1) e.eop e.ek e.ev e.eo = true
          unfold openB
          simp [hf0]
        · show c.bs = 0
          omega
        · show 0 ≤ c.sq + 1 ∧ c.sq + 1 ≤ 1073741824 ∧ _
          omega
  · rw [if_neg (by omega), if_pos h2]
    unfold pokeV
    split
    · refine ⟨3, 0, 0, c, rfl, ⟨⟨hB, hk, hv, ho⟩, by omega, by omega, .inl rfl, .inl rfl, ⟨fun h => by omega, fun h => by omega⟩, fun h _ => by omega, fun _ => rfl, fun _ _ => ⟨rfl, rfl, rfl, rfl, rfl, rfl, rfl⟩, fun h => by omega, by omega⟩⟩
    · next hb =>
      have hb1 : c.bs = 1 := by omega
      split
      · next hw =>
        exact ⟨0, 0, 0, ⟨c.id, c.sv, c.rt, c.sq, c.bs, c.tg, c.wt + 1, c.ccl, c.csq, c.cop, c.ck, c.cv, c.co⟩, rfl, ⟨⟨cliB_mk q1 q2 q3 q4 q5 (by show 0 ≤ c.wt + 1 ∧ c.wt + 1 ≤ c.rt - 1; omega) (openB_wait q7 hb1), hk, hv, ho⟩, by omega, by omega, .inl rfl, .inl rfl, ⟨fun h => by omega, fun h => by omega⟩, fun h _ => by omega, fun _ => rfl, fun _ _ => ⟨rfl, rfl, rfl, rfl, rfl, rfl, rfl⟩, fun h => by omega, ⟨q4.1, q4.2, q4⟩⟩⟩
      · exact ⟨0, c.tg % c.sv + 1, 0, ⟨c.id, c.sv, c.rt, c.sq, c.bs, c.tg % c.sv + 1, 0, c.ccl, c.csq, c.cop, c.ck, c.cv, c.co⟩, rfl, ⟨⟨cliB_mk q1 q2 q3 q4 (by show 1 ≤ c.tg % c.sv + 1 ∧ c.tg % c.sv + 1 ≤ c.sv; omega) (by show 0 ≤ (0 : Int) ∧ (0 : Int) ≤ c.rt - 1; omega) (openB_wait q7 hb1), hk, hv, ho⟩, by omega, by omega, .inr rfl, .inl rfl, ⟨fun h => by omega, fun h => by omega⟩, fun h _ => by omega, fun _ => rfl, fun _ _ => ⟨rfl, rfl, rfl, rfl, rfl, rfl, rfl⟩, fun h => by omega, ⟨q4.1, q4.2, q4⟩⟩⟩
  · rw [if_neg (by omega), if_neg (by omega), if_pos h3]
    unfold repV
    have hF : c.bs = 1 → e.rsq = c.sq → repF e.rcl e.rsq e.rst e.rcd e.rv.size e.rld = 0 := fun hb hs => by
      have hcs : 1 ≤ c.sq ∧ c.sq ≤ 1073741824 := by
        rcases hob with h | h
        · omega
        · have := callF_sq h.2.1; omega
      have i1 : inB e.rcl 1 8 = true := (inB_iff _ _ _).2 (by omega)
      have i2 : inB e.rsq 1 1073741824 = true := (inB_iff _ _ _).2 (by omega)
      unfold repF
      rcases hrep with ⟨r1, r2, r3, r4⟩ | ⟨r1, r2, r3, r4, r5⟩
      · have i3 : inB e.rst 1 2 = true := (inB_iff _ _ _).2 (by omega)
        have i4 : inB e.rcd 1 4 = true := (inB_iff _ _ _).2 (by omega)
        have i5 : inB e.rld 0 0 = true := (inB_iff _ _ _).2 (by omega)
        have h64 : ¬ (64 : Int) < (e.rv.size : Nat) := by omega
        rw [r1] at i3
        simp only [i1, i2, i3, r1, if_true, i4, i5, Bool.true_eq_false, Bool.false_eq_true, if_false, if_neg h64]
      · have i3 : inB e.rst 1 2 = true := (inB_iff _ _ _).2 (by omega)
        have i4 : inB e.rcd 0 0 = true := (inB_iff _ _ _).2 (by omega)
        have i5 : inB e.rld 0 7 = true := (inB_iff _ _ _).2 (by omega)
        have n2 : ¬ (2 : Int) = 1 := by omega
        have h64 : ¬ (0 : Int) < (e.rv.size : Nat) := by omega
        rw [r1] at i3
        simp only [i1, i2, i3, r1, if_neg n2, i4, i5, Bool.true_eq_false, Bool.false_eq_true, if_false, if_neg h64]
    split
    · next hf =>
      refine ⟨2, 0, 0, c, rfl, ⟨⟨hB, hk, hv, ho⟩, by omega, by omega, .inl rfl, .inl rfl, ⟨fun h => by omega, fun h => absurd (hF h.2.1 h.2.2.1) hf⟩, fun h _ => by omega, fun _ => rfl, fun _ _ => ⟨rfl, rfl, rfl, rfl, rfl, rfl, rfl⟩, fun h => by omega, by omega⟩⟩
    · split
      · refine ⟨3, 0, 0, c, rfl, ⟨⟨hB, hk, hv, ho⟩, by omega, by omega, .inl rfl, .inl rfl, ⟨fun h => by omega, fun h => by omega⟩, fun h _ => by omega, fun _ => rfl, fun _ _ => ⟨rfl, rfl, rfl, rfl, rfl, rfl, rfl⟩, fun h => by omega, by omega⟩⟩
      · next hx =>
        have hb1 : c.bs = 1 := by omega
        split
        · next hs =>
          exact ⟨0, 0, 1, ⟨c.id, c.sv, c.rt, c.sq, 0, c.tg, 0, 0, 0, 0, ⟨#[]⟩, ⟨#[]⟩, ⟨#[]⟩⟩, rfl, ⟨⟨cliB_mk q1 q2 q3 q4 q5 (by show 0 ≤ (0 : Int) ∧ (0 : Int) ≤ c.rt - 1; omega) (by show openB c.id c.sq 0 0 0 0 0 ⟨#[]⟩ ⟨#[]⟩ ⟨#[]⟩ = true; unfold openB zcB; rw [emptyL]; rfl), by simp [ByteArray.size], by simp [ByteArray.size], by simp [ByteArray.size]⟩, by omega, by omega, .inl rfl, .inr rfl, ⟨fun _ => ⟨h3, hb1, by omega, by omega, hs⟩, fun _ => rfl⟩, fun h _ => by omega, fun _ => rfl, fun _ h => by omega, fun _ => rfl, ⟨q4.1, q4.2, q4⟩⟩⟩
        · next hs =>
          split
          · next hl =>
            have hl1 := (inB_iff _ _ _).1 hl.1
            exact ⟨0, e.rld, 0, ⟨c.id, c.sv, c.rt, c.sq, c.bs, e.rld, 0, c.ccl, c.csq, c.cop, c.ck, c.cv, c.co⟩, rfl, ⟨⟨cliB_mk q1 q2 q3 q4 hl1 (by show 0 ≤ (0 : Int) ∧ (0 : Int) ≤ c.rt - 1; omega) (openB_wait q7 hb1), hk, hv, ho⟩, by omega, by omega, .inr rfl, .inl rfl, ⟨fun h => by omega, fun h => absurd h.2.2.2.2 hs⟩, fun h _ => by omega, fun _ => rfl, fun _ _ => ⟨rfl, rfl, rfl, rfl, rfl, rfl, rfl⟩, fun h => by omega, ⟨q4.1, q4.2, q4⟩⟩⟩
          · exact ⟨0, 0, 0, ⟨c.id, c.sv, c.rt, c.sq, c.bs, c.tg % c.sv + 1, c.wt, c.ccl, c.csq, c.cop, c.ck, c.cv, c.co⟩, rfl, ⟨⟨cliB_mk q1 q2 q3 q4 (by show 1 ≤ c.tg % c.sv + 1 ∧ c.tg % c.sv + 1 ≤ c.sv; omega) q6 (openB_wait q7 hb1), hk, hv, ho⟩, by omega, by omega, .inl rfl, .inl rfl, ⟨fun h => by omega, fun h => absurd h.2.2.2.2 hs⟩, fun h _ => by omega, fun _ => rfl, fun _ _ => ⟨rfl, rfl, rfl, rfl, rfl, rfl, rfl⟩, fun h => by omega, ⟨q4.1, q4.2, q4⟩⟩⟩
end Go.Proofs.Ytclphmakokpnnaa
