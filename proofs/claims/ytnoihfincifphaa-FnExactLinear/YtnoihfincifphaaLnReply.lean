/-
  (*impl.judge).reply.
-/
import Derived.Test.YtnoihfincifphaaLnAsk
import Derived.Test.YtnoihfincifphaaEntEq
import Derived.Test.YtnoihfincifphaaRegInv
namespace Go.Proofs.Ytnoihfincifphaa
open Go.RowKit Go.Maps
set_option linter.unusedVariables false
set_option linter.unusedSimpArgs false

theorem tl_beq (a b : ByteArray) : (a.toList == b.toList) = decide (a = b) := by
  rw [ByteArray.toList_eq, ByteArray.toList_eq]
  by_cases h : a = b
  · subst h; simp
  · have : ¬ a.data.toList = b.data.toList := fun e => h (WideShapes.bytes_inj e)
    simp only [h, decide_false]
    exact beq_eq_false_iff_ne.2 this
theorem cm_is (a b : Cm) : a.is b = cmdEqB ⟨0, a.cl, a.sq, a.op, a.k, a.v, a.o⟩ ⟨0, b.cl, b.sq, b.op, b.k, b.v, b.o⟩ := by
  simp only [cmdEqB, Cm.is, tl_beq, Bool.and_assoc]
  rfl
set_option maxRecDepth 100000 in
theorem cm_eq_run (a b : Cm) (w : World) : (Op.equalIn 10000 63 (.agg #[.int .i64 a.cl, .int .i64 a.sq, .int .i64 a.op, .string a.k, .string a.v, .string a.o]) (.agg #[.int .i64 b.cl, .int .i64 b.sq, .int .i64 b.op, .string b.k, .string b.v, .string b.o])).run Try.prog w = .ok (a.is b) w := by
  have := eqCmd_run 9998 ⟨0, a.cl, a.sq, a.op, a.k, a.v, a.o⟩ ⟨0, b.cl, b.sq, b.op, b.k, b.v, b.o⟩ w
  rw [this, cm_is]
set_option maxRecDepth 100000 in
set_option maxHeartbeats 2000000 in
theorem cm_ne_exec {a : Act} {o : Oper} (x y : Operand) (ho : o.op = .binOp .neq 63 x y 63) (c d : Cm) (hx : a.eval x = .agg #[.int .i64 c.cl, .int .i64 c.sq, .int .i64 c.op, .string c.k, .string c.v, .string c.o]) (hy : a.eval y = .agg #[.int .i64 d.cl, .int .i64 d.sq, .int .i64 d.op, .string d.k, .string d.v, .string d.o]) (w : World) : (execOp a.eval o).run Try.prog w = .ok (.value (.bool !(c.is d))) w := by
  have hE := cm_eq_run c d w
  have hm : Try.prog.eqGuardType Try.prog.depth 63 = false := by kernel_rfl
  unfold execOp
  simp only [ho, hx, hy, Sem.run_bind, run_eqGuard_agg _ _ _ _ _ _ _ hm, Result.andThen_ok, run_neq_struct, hE, Sem.run_pure]
theorem wpl_valG {ops : Array Oper} {rest : List Oper} {o : Oper} {a : Act} {w : World} {Q : Exit → Act → World → Prop} {gj : Nat} {gb : Bool} (hgd : o.guard = some (gj, gb)) (hy : yielded ops a.tmps gj = some gb) {v : Value} (he : (execOp a.eval o).run Try.prog w = .ok (.value v) w) (h : wpList Try.prog ops Q rest (a.put o.dst v) w) : wpList Try.prog ops Q (o :: rest) a w :=
  wpList_step fun K hK => by
    simp only [Region.wanted, hgd, hy, beq_self_eq_true, if_true]
    exact wp_value_go he (hK _ _ h)
theorem gate_bin {ops : Array Oper} {rest : List Oper} {o : Oper} {a : Act} {w : World} {Q : Exit → Act → World → Prop} (op : BinOp) (T U : TypeId) (x y : Operand) (ho : o.op = .binOp op T x y U) (h : wpList Try.prog ops Q (o :: rest) a w) : wpList Try.prog ops Q (o :: rest) a w := h
theorem field_t0 (x y : Int) (u : World) : (Instr.field 128 (.agg #[.int .i64 x, .int .i64 y]) 0).run Try.prog u = .ok (.int .i64 x) u := by kernel_rfl
theorem field_t1 (x y : Int) (u : World) : (Instr.field 128 (.agg #[.int .i64 x, .int .i64 y]) 1).run Try.prog u = .ok (.int .i64 y) u := by kernel_rfl
theorem opn_del (op : Int → Option Cm) (x : Int) : ∀ d : Int, (Value.int .i64 d = Value.int .i64 x → setI op x none d = none) ∧ (Value.int .i64 d ≠ Value.int .i64 x → setI op x none d = op d) :=
  fun d => ⟨fun e => by injection e with _ e; subst e; exact setI_same _ _ _, fun e => setI_other _ _ fun h => e (by rw [h])⟩
set_option maxHeartbeats 4000000 in
set_option maxRecDepth 100000 in
theorem reply_none (jb bt bp bl bo : Nat) (ea : Option Addr) (en ec : Nat) (oa : Option Addr) (on oc : Nat) (at_ : Nat) (c : Cm) (n : Nat) (op : Int → Option Cm) (w : World) (hJ : JB w jb bt bp bl bo (.slice ea en ec) (.slice oa on oc)) (hO : MO w bo n op) (hc : c.fits) (hop : op c.cl = none) :
    Calls Try.prog 95 #[.pointer (some ⟨jb, 0, none⟩), .int .i64 at_, cmV c] w fun e w' => e = .returned (.bool false) ∧ Below w.heap.size w w' := by
  have hlk : ∀ u : World, u.heap[bo]? = w.heap[bo]? → (Instr.lookup 82 (.map (some bo)) (.int .i64 c.cl) true).run Try.prog u = .ok (.tuple #[.agg #[.int .i64 0, .int .i64 0, .int .i64 0, .string ⟨#[]⟩, .string ⟨#[]⟩, .string ⟨#[]⟩], .bool false]) u := fun u hu => by
    have := hO.lookOk lawI Try.underlying82 zeroCm c.cl hc.cl u hu
    rw [hop] at this
    exact this
  have hlo := hJ.lt.2.2.2
  have hjl := hJ.blk.lt
  obtain ⟨W, hW⟩ : ∃ W, W = w.alloc (.cells #[.int .i64 c.cl, .int .i64 c.sq, .int .i64 c.op, .string c.k, .string c.v, .string c.o] 63) := ⟨_, rfl⟩
  have hz : W.heap.size = w.heap.size + 1 := by rw [hW]; simp
  have hbw : W.heap[bo]? = w.heap[bo]? := by rw [hW]; exact Below.heap_alloc _ _ _ hlo
  have HJ : Hid (Blk W jb #[.slice ea en ec, .slice oa on oc, .map (some bt), .map (some bp), .map (some bl), .map (some bo)] 84) := by show Blk _ _ _ _; rw [hW]; exact hJ.blk.alloc _
  have HC : Hid (Blk W w.heap.size #[.int .i64 c.cl, .int .i64 c.sq, .int .i64 c.op, .string c.k, .string c.v, .string c.o] 63) := by show Blk _ _ _ _; rw [hW]; exact Blk.new _ _ _
  have j5 : W.cell? ⟨jb, 5, none⟩ = some (.map (some bo)) := HJ.out.cell 5
  have c0 : W.cell? ⟨w.heap.size, 0, none⟩ = some (.int .i64 c.cl) := HC.out.cell 0
  have HB : Hid (Below w.heap.size w W) := by show Below _ _ _; rw [hW]; exact (Below.refl _ _).alloc (Nat.le_refl _) _
  have l0 : (Instr.lookup 82 (.map (some bo)) (.int .i64 c.cl) true).run Try.prog W.drew = .ok (.tuple #[.agg #[.int .i64 0, .int .i64 0, .int .i64 0, .string ⟨#[]⟩, .string ⟨#[]⟩, .string ⟨#[]⟩], .bool false]) W.drew := hlk _ hbw
  have l1 : ∀ o : Obj, (Instr.lookup 82 (.map (some bo)) (.int .i64 c.cl) true).run Try.prog (W.drew.alloc o) = .ok (.tuple #[.agg #[.int .i64 0, .int .i64 0, .int .i64 0, .string ⟨#[]⟩, .string ⟨#[]⟩, .string ⟨#[]⟩], .bool false]) (W.drew.alloc o) := fun o => hlk _ ((Below.heap_alloc _ _ _ (by show bo < W.heap.size; omega)).trans hbw)
  have l2 : ∀ o : Obj, (Instr.lookup 82 (.map (some bo)) (.int .i64 c.cl) true).run Try.prog (W.alloc o).drew = .ok (.tuple #[.agg #[.int .i64 0, .int .i64 0, .int .i64 0, .string ⟨#[]⟩, .string ⟨#[]⟩, .string ⟨#[]⟩], .bool false]) (W.alloc o).drew := fun o => hlk _ ((Below.heap_alloc _ _ _ (by show bo < W.heap.size; omega)).trans hbw)
  have n1 : ¬ jb = W.heap.size := by omega
  have n2 : ¬ w.heap.size = W.heap.size := by omega
  clear hlk hJ hO
  unfold cmV
  go_enter Try.func95, Try.ntmps95
  go_upto_region 1 with fail
  rw [← hW]
  clear hW
  go_region
  go_upto_region 2 with fail
  go_wp2
  go_ret
  exact ⟨rfl, (HB.out.alloc (by omega) _).drew⟩
set_option maxHeartbeats 4000000 in
set_option maxRecDepth 100000 in
theorem reply_other (jb bt bp bl bo : Nat) (ea : Option Addr) (en ec : Nat) (oa : Option Addr) (on oc : Nat) (at_ : Nat) (c : Cm) (n : Nat) (op : Int → Option Cm) (d : Cm) (w : World) (hJ : JB w jb bt bp bl bo (.slice ea en ec) (.slice oa on oc)) (hO : MO w bo n op) (hc : c.fits) (hop : op c.cl = some d) (hne : d ≠ c) :
    Calls Try.prog 95 #[.pointer (some ⟨jb, 0, none⟩), .int .i64 at_, cmV c] w fun e w' => e = .returned (.bool false) ∧ Below w.heap.size w w' := by
  have hlk : ∀ u : World, u.heap[bo]? = w.heap[bo]? → (Instr.lookup 82 (.map (some bo)) (.int .i64 c.cl) true).run Try.prog u = .ok (.tuple #[.agg #[.int .i64 d.cl, .int .i64 d.sq, .int .i64 d.op, .string d.k, .string d.v, .string d.o], .bool true]) u := fun u hu => by
    have := hO.lookOk lawI Try.underlying82 zeroCm c.cl hc.cl u hu
    rw [hop] at this
    exact this
  have hlo := hJ.lt.2.2.2
  have hjl := hJ.blk.lt
  obtain ⟨W, hW⟩ : ∃ W, W = w.alloc (.cells #[.int .i64 c.cl, .int .i64 c.sq, .int .i64 c.op, .string c.k, .string c.v, .string c.o] 63) := ⟨_, rfl⟩
  have hz : W.heap.size = w.heap.size + 1 := by rw [hW]; simp
  have hbw : W.heap[bo]? = w.heap[bo]? := by rw [hW]; exact Below.heap_alloc _ _ _ hlo
  have HJ : Hid (Blk W jb #[.slice ea en ec, .slice oa on oc, .map (some bt), .map (some bp), .map (some bl), .map (some bo)] 84) := by show Blk _ _ _ _; rw [hW]; exact hJ.blk.alloc _
  have HC : Hid (Blk W w.heap.size #[.int .i64 c.cl, .int .i64 c.sq, .int .i64 c.op, .string c.k, .string c.v, .string c.o] 63) := by show Blk _ _ _ _; rw [hW]; exact Blk.new _ _ _
  have j5 : W.cell? ⟨jb, 5, none⟩ = some (.map (some bo)) := HJ.out.cell 5
  have c0 : W.cell? ⟨w.heap.size, 0, none⟩ = some (.int .i64 c.cl) := HC.out.cell 0
  have HB : Hid (Below w.heap.size w W) := by show Below _ _ _; rw [hW]; exact (Below.refl _ _).alloc (Nat.le_refl _) _
  have l0 : (Instr.lookup 82 (.map (some bo)) (.int .i64 c.cl) true).run Try.prog W.drew = .ok (.tuple #[.agg #[.int .i64 d.cl, .int .i64 d.sq, .int .i64 d.op, .string d.k, .string d.v, .string d.o], .bool true]) W.drew := hlk _ hbw
  have l1 : ∀ o : Obj, (Instr.lookup 82 (.map (some bo)) (.int .i64 c.cl) true).run Try.prog (W.drew.alloc o) = .ok (.tuple #[.agg #[.int .i64 d.cl, .int .i64 d.sq, .int .i64 d.op, .string d.k, .string d.v, .string d.o], .bool true]) (W.drew.alloc o) := fun o => hlk _ ((Below.heap_alloc _ _ _ (by show bo < W.heap.size; omega)).trans hbw)
  have l2 : ∀ o : Obj, (Instr.lookup 82 (.map (some bo)) (.int .i64 c.cl) true).run Try.prog (W.alloc o).drew = .ok (.tuple #[.agg #[.int .i64 d.cl, .int .i64 d.sq, .int .i64 d.op, .string d.k, .string d.v, .string d.o], .bool true]) (W.alloc o).drew := fun o => hlk _ ((Below.heap_alloc _ _ _ (by show bo < W.heap.size; omega)).trans hbw)
  have n1 : ¬ jb = W.heap.size := by omega
  have n2 : ¬ w.heap.size = W.heap.size := by omega
  clear hlk hJ hO
  unfold cmV
  go_enter Try.func95, Try.ntmps95
  go_upto_region 1 with fail
  rw [← hW]
  clear hW
  go_region
  go_upto_region 2 with fail
  obtain ⟨W2, hW2⟩ : ∃ W2, W2 = (W.alloc (.cells #[.int .i64 d.cl, .int .i64 d.sq, .int .i64 d.op, .string d.k, .string d.v, .string d.o] 63)).drew := ⟨_, rfl⟩
  have hz2 : W2.heap.size = w.heap.size + 2 := by rw [hW2]; show (W.alloc _).heap.size = _; simp; omega
  have HJ2 : Hid (Blk W2 jb #[.slice ea en ec, .slice oa on oc, .map (some bt), .map (some bp), .map (some bl), .map (some bo)] 84) := by show Blk _ _ _ _; rw [hW2]; exact (HJ.out.alloc _).drew
  have HC2 : Hid (Blk W2 w.heap.size #[.int .i64 c.cl, .int .i64 c.sq, .int .i64 c.op, .string c.k, .string c.v, .string c.o] 63) := by show Blk _ _ _ _; rw [hW2]; exact (HC.out.alloc _).drew
  have HD2 : Hid (Blk W2 (w.heap.size + 1) #[.int .i64 d.cl, .int .i64 d.sq, .int .i64 d.op, .string d.k, .string d.v, .string d.o] 63) := by show Blk _ _ _ _; rw [hW2]; exact (Blk.new' _ _ _ (by omega)).drew
  have HB2 : Hid (Below w.heap.size w W2) := by show Below _ _ _; rw [hW2]; exact (HB.out.alloc (by omega) _).drew
  rw [← hW2]
  clear hW2 l0 l1 l2 j5 c0 n1 n2 hbw HJ HC HB
  have k0 : W2.cell? ⟨w.heap.size, 0, none⟩ = some (.int .i64 c.cl) := HC2.out.cell 0
  have m0 : W2.cell? ⟨w.heap.size + 1, 0, none⟩ = some (.int .i64 d.cl) := HD2.out.cell 0
  have k1 : W2.cell? ⟨w.heap.size, 1, none⟩ = some (.int .i64 c.sq) := HC2.out.cell 1
  have m1 : W2.cell? ⟨w.heap.size + 1, 1, none⟩ = some (.int .i64 d.sq) := HD2.out.cell 1
  have k2 : W2.cell? ⟨w.heap.size, 2, none⟩ = some (.int .i64 c.op) := HC2.out.cell 2
  have m2 : W2.cell? ⟨w.heap.size + 1, 2, none⟩ = some (.int .i64 d.op) := HD2.out.cell 2
  have k3 : W2.cell? ⟨w.heap.size, 3, none⟩ = some (.string c.k) := HC2.out.cell 3
  have m3 : W2.cell? ⟨w.heap.size + 1, 3, none⟩ = some (.string d.k) := HD2.out.cell 3
  have k4 : W2.cell? ⟨w.heap.size, 4, none⟩ = some (.string c.v) := HC2.out.cell 4
  have m4 : W2.cell? ⟨w.heap.size + 1, 4, none⟩ = some (.string d.v) := HD2.out.cell 4
  have k5 : W2.cell? ⟨w.heap.size, 5, none⟩ = some (.string c.o) := HC2.out.cell 5
  have m5 : W2.cell? ⟨w.heap.size + 1, 5, none⟩ = some (.string d.o) := HD2.out.cell 5
  have HIS : Hid (d.is c = false) := Cm.is_no hne
  go_wp2_with (refine gate_bin .neq 63 63 (.tmp 22) (.tmp 23) rfl ?_; refine wpl_valG rfl rfl (cm_ne_exec (.tmp 22) (.tmp 23) rfl d c rfl rfl _) ?_; rw [HIS.out])
  go_ret
  exact ⟨rfl, HB2.out⟩
set_option maxHeartbeats 4000000 in
set_option maxRecDepth 100000 in
theorem reply_ok (jb bt bp bl bo : Nat) (ea : Option Addr) (en ec : Nat) (oa : Option Addr) (on oc : Nat) (at_ : Nat) (c : Cm) (n : Nat) (op : Int → Option Cm) (w : World) (hJ : JB w jb bt bp bl bo (.slice ea en ec) (.slice oa on oc)) (hO : MO w bo n op) (hc : c.fits) (hop : op c.cl = some c) (tu : Cm → Option (Nat × Nat)) (hT : MT w bt n tu) (hn : n < 1000000) (ak rp : Nat) (htu : tu c = some (ak, rp)) :
    Calls Try.prog 95 #[.pointer (some ⟨jb, 0, none⟩), .int .i64 at_, cmV c] w fun e w' => e = .returned (.bool true) ∧ MO w' bo n (setI op c.cl none) ∧ MT w' bt (n + 1) (setC tu c (some (ak, at_))) ∧ TchT (fun j => j = bo ∨ j = bt) w w' := by
  have HOp : Hid (MO w bo n op) := hO
  have HT : Hid (MT w bt n tu) := hT
  have hne2 := hJ.to_
  have hne4 := hJ.jo
  have hne6 := hJ.jt
  have hl3 := hJ.lt.1
  have hlk : ∀ u : World, u.heap[bo]? = w.heap[bo]? → (Instr.lookup 82 (.map (some bo)) (.int .i64 c.cl) true).run Try.prog u = .ok (.tuple #[.agg #[.int .i64 c.cl, .int .i64 c.sq, .int .i64 c.op, .string c.k, .string c.v, .string c.o], .bool true]) u := fun u hu => by
    have := hO.lookOk lawI Try.underlying82 zeroCm c.cl hc.cl u hu
    rw [hop] at this
    exact this
  have hlo := hJ.lt.2.2.2
  have hjl := hJ.blk.lt
  obtain ⟨W, hW⟩ : ∃ W, W = w.alloc (.cells #[.int .i64 c.cl, .int .i64 c.sq, .int .i64 c.op, .string c.k, .string c.v, .string c.o] 63) := ⟨_, rfl⟩
  have hz : W.heap.size = w.heap.size + 1 := by rw [hW]; simp
  have hbw : W.heap[bo]? = w.heap[bo]? := by rw [hW]; exact Below.heap_alloc _ _ _ hlo
  have HJ : Hid (Blk W jb #[.slice ea en ec, .slice oa on oc, .map (some bt), .map (some bp), .map (some bl), .map (some bo)] 84) := by show Blk _ _ _ _; rw [hW]; exact hJ.blk.alloc _
  have HC : Hid (Blk W w.heap.size #[.int .i64 c.cl, .int .i64 c.sq, .int .i64 c.op, .string c.k, .string c.v, .string c.o] 63) := by show Blk _ _ _ _; rw [hW]; exact Blk.new _ _ _
  have j5 : W.cell? ⟨jb, 5, none⟩ = some (.map (some bo)) := HJ.out.cell 5
  have c0 : W.cell? ⟨w.heap.size, 0, none⟩ = some (.int .i64 c.cl) := HC.out.cell 0
  have HB : Hid (Below w.heap.size w W) := by show Below _ _ _; rw [hW]; exact (Below.refl _ _).alloc (Nat.le_refl _) _
  have l0 : (Instr.lookup 82 (.map (some bo)) (.int .i64 c.cl) true).run Try.prog W.drew = .ok (.tuple #[.agg #[.int .i64 c.cl, .int .i64 c.sq, .int .i64 c.op, .string c.k, .string c.v, .string c.o], .bool true]) W.drew := hlk _ hbw
  have l1 : ∀ o : Obj, (Instr.lookup 82 (.map (some bo)) (.int .i64 c.cl) true).run Try.prog (W.drew.alloc o) = .ok (.tuple #[.agg #[.int .i64 c.cl, .int .i64 c.sq, .int .i64 c.op, .string c.k, .string c.v, .string c.o], .bool true]) (W.drew.alloc o) := fun o => hlk _ ((Below.heap_alloc _ _ _ (by show bo < W.heap.size; omega)).trans hbw)
  have l2 : ∀ o : Obj, (Instr.lookup 82 (.map (some bo)) (.int .i64 c.cl) true).run Try.prog (W.alloc o).drew = .ok (.tuple #[.agg #[.int .i64 c.cl, .int .i64 c.sq, .int .i64 c.op, .string c.k, .string c.v, .string c.o], .bool true]) (W.alloc o).drew := fun o => hlk _ ((Below.heap_alloc _ _ _ (by show bo < W.heap.size; omega)).trans hbw)
  have n1 : ¬ jb = W.heap.size := by omega
  have n2 : ¬ w.heap.size = W.heap.size := by omega
  clear hlk hJ hO hT
  unfold cmV
  go_enter Try.func95, Try.ntmps95
  go_upto_region 1 with fail
  rw [← hW]
  clear hW
  go_region
  go_upto_region 2 with fail
  obtain ⟨W2, hW2⟩ : ∃ W2, W2 = (W.alloc (.cells #[.int .i64 c.cl, .int .i64 c.sq, .int .i64 c.op, .string c.k, .string c.v, .string c.o] 63)).drew := ⟨_, rfl⟩
  have hz2 : W2.heap.size = w.heap.size + 2 := by rw [hW2]; show (W.alloc _).heap.size = _; simp; omega
  have HJ2 : Hid (Blk W2 jb #[.slice ea en ec, .slice oa on oc, .map (some bt), .map (some bp), .map (some bl), .map (some bo)] 84) := by show Blk _ _ _ _; rw [hW2]; exact (HJ.out.alloc _).drew
  have HC2 : Hid (Blk W2 w.heap.size #[.int .i64 c.cl, .int .i64 c.sq, .int .i64 c.op, .string c.k, .string c.v, .string c.o] 63) := by show Blk _ _ _ _; rw [hW2]; exact (HC.out.alloc _).drew
  have HD2 : Hid (Blk W2 (w.heap.size + 1) #[.int .i64 c.cl, .int .i64 c.sq, .int .i64 c.op, .string c.k, .string c.v, .string c.o] 63) := by show Blk _ _ _ _; rw [hW2]; exact (Blk.new' _ _ _ (by omega)).drew
  have HB2 : Hid (Below w.heap.size w W2) := by show Below _ _ _; rw [hW2]; exact (HB.out.alloc (by omega) _).drew
  rw [← hW2]
  clear hW2 l0 l1 l2 j5 c0 n1 n2 hbw HJ HC HB
  have k0 : W2.cell? ⟨w.heap.size, 0, none⟩ = some (.int .i64 c.cl) := HC2.out.cell 0
  have m0 : W2.cell? ⟨w.heap.size + 1, 0, none⟩ = some (.int .i64 c.cl) := HD2.out.cell 0
  have k1 : W2.cell? ⟨w.heap.size, 1, none⟩ = some (.int .i64 c.sq) := HC2.out.cell 1
  have m1 : W2.cell? ⟨w.heap.size + 1, 1, none⟩ = some (.int .i64 c.sq) := HD2.out.cell 1
  have k2 : W2.cell? ⟨w.heap.size, 2, none⟩ = some (.int .i64 c.op) := HC2.out.cell 2
  have m2 : W2.cell? ⟨w.heap.size + 1, 2, none⟩ = some (.int .i64 c.op) := HD2.out.cell 2
  have k3 : W2.cell? ⟨w.heap.size, 3, none⟩ = some (.string c.k) := HC2.out.cell 3
  have m3 : W2.cell? ⟨w.heap.size + 1, 3, none⟩ = some (.string c.k) := HD2.out.cell 3
  have k4 : W2.cell? ⟨w.heap.size, 4, none⟩ = some (.string c.v) := HC2.out.cell 4
  have m4 : W2.cell? ⟨w.heap.size + 1, 4, none⟩ = some (.string c.v) := HD2.out.cell 4
  have k5 : W2.cell? ⟨w.heap.size, 5, none⟩ = some (.string c.o) := HC2.out.cell 5
  have m5 : W2.cell? ⟨w.heap.size + 1, 5, none⟩ = some (.string c.o) := HD2.out.cell 5
  have HIS : Hid (c.is c = true) := Cm.is_self c
  have d5 : W2.cell? ⟨jb, 5, none⟩ = some (.map (some bo)) := HJ2.out.cell 5
  obtain ⟨U, hrun, hF, hG⟩ := (HOp.out.below HB2.out).del lawI Try.underlying82 c.cl hc.cl _ (opn_del op c.cl) 0 W2.drew rfl
  have HF : Hid (MO U bo n (setI op c.cl none)) := hF
  have HG : Hid (World.grownBy W2.drew U (some bo)) := hG
  have HRU : Hid ((Builtin.delete_ #[82, 3] 0 #[.map (some bo), .int .i64 c.cl]).run Try.prog W2.drew = .ok (.tuple #[]) U) := hrun
  have HTU : Hid (MT U bt n tu) := (HT.out.below HB2.out).keep (hG.block bt (by show bt < W2.heap.size; omega) (by simp; omega))
  have HJU : Hid (Blk U jb #[.slice ea en ec, .slice oa on oc, .map (some bt), .map (some bp), .map (some bl), .map (some bo)] 84) := HJ2.out.keep (hG.block jb (by show jb < W2.heap.size; omega) (by simp; omega))
  have HCU : Hid (Blk U w.heap.size #[.int .i64 c.cl, .int .i64 c.sq, .int .i64 c.op, .string c.k, .string c.v, .string c.o] 63) := HC2.out.keep (hG.block w.heap.size (by show w.heap.size < W2.heap.size; omega) (by simp; omega))
  have hzU : w.heap.size + 2 ≤ U.heap.size := by have h : W2.heap.size ≤ U.heap.size := hG.size; omega
  have HTC : Hid (TchT (fun j => j = bo ∨ j = bt) w U) := ⟨hG.os.trans HB2.out.os, hG.tape.trans HB2.out.tape, hG.output.trans HB2.out.output, by omega, fun j hj hn => (hG.block j (by show j < W2.heap.size; omega) (by simp; omega)).trans (HB2.out.block j hj)⟩
  clear hrun hF hG
  go_upto_region 4 with (refine gate_bin .neq 63 63 (.tmp 22) (.tmp 23) rfl ?_; refine wpl_valG rfl rfl (cm_ne_exec (.tmp 22) (.tmp 23) rfl c c rfl rfl _) ?_; rw [HIS.out])
  go_cut [] from 26 to 31 (fun wc => wc = U)
  case first =>
    have hrn := HRU.out
    go_region
    go_wp2_with fail
    go_meet
    rfl
  case rest =>
    rw [hcut]
    clear hcut
    clear k0 k1 k2 k3 k4 k5 m0 m1 m2 m3 m4 m5 d5 HJ2 HC2 HD2 HB2 HRU HG
    obtain ⟨V, hrun, hF, hG⟩ := HTU.out.put lawC Try.underlying79 (by unfold maxLen; omega) c hc (ak, at_) _ (tn_set tu c (ak, at_)) U.drew rfl
    have hrn : (Instr.mapUpdate 79 (.map (some bt)) (.agg #[.int .i64 c.cl, .int .i64 c.sq, .int .i64 c.op, .string c.k, .string c.v, .string c.o]) (.agg #[.int .i64 ak, .int .i64 at_])).run Try.prog U.drew = .ok () V := hrun
    have HFV : Hid (MT V bt (n + 1) (setC tu c (some (ak, at_)))) := hF
    have HGV : Hid (World.grownBy U.drew V (some bt)) := hG
    have hlu : (Instr.lookup 79 (.map (some bt)) (.agg #[.int .i64 c.cl, .int .i64 c.sq, .int .i64 c.op, .string c.k, .string c.v, .string c.o]) false).run Try.prog U.drew = .ok (.agg #[.int .i64 ak, .int .i64 rp]) U.drew := by
      have := HTU.out.look lawC Try.underlying79 zeroTn c hc U.drew rfl
      rw [htu] at this
      exact this
    clear hrun hF hG
    have hfd := field_t0
    have d2 : U.cell? ⟨jb, 2, none⟩ = some (.map (some bt)) := HJU.out.cell 2
    have e0 : U.cell? ⟨w.heap.size, 0, none⟩ = some (.int .i64 c.cl) := HCU.out.cell 0
    have e1 : U.cell? ⟨w.heap.size, 1, none⟩ = some (.int .i64 c.sq) := HCU.out.cell 1
    have e2 : U.cell? ⟨w.heap.size, 2, none⟩ = some (.int .i64 c.op) := HCU.out.cell 2
    have e3 : U.cell? ⟨w.heap.size, 3, none⟩ = some (.string c.k) := HCU.out.cell 3
    have e4 : U.cell? ⟨w.heap.size, 4, none⟩ = some (.string c.v) := HCU.out.cell 4
    have e5 : U.cell? ⟨w.heap.size, 5, none⟩ = some (.string c.o) := HCU.out.cell 5
    go_wp2_with fail
    go_region
    go_wp2
    go_ret
    have hg := HGV.out
    have hT := HTC.out
    refine ⟨rfl, HF.out.keep (hg.block bo (by show bo < U.heap.size; omega) (by simp; omega)), HFV.out, ⟨hg.os.trans hT.os, hg.tape.trans hT.tape, hg.output.trans hT.output, ?_, fun j hj hn => ?_⟩⟩
    · have h' : U.heap.size ≤ V.heap.size := hg.size
      omega
    · exact (hg.block j (by show j < U.heap.size; omega) (by simp; omega)).trans (hT.block j hj hn)
end Go.Proofs.Ytnoihfincifphaa
