import Derived.Test.YtmmpoppgabadmaaGreatG15
set_option linter.unusedVariables false
set_option linter.unusedSimpArgs false
set_option maxRecDepth 100000
set_option maxHeartbeats 16000000
namespace Go.Proofs.YtmmpoppgabadmaaGreat
open Go.RowKit
theorem Xo (x:Int):inB x 0 0=(x == 0):=by
 rw [Bool.eq_iff_iff,Zk];simp;omega
theorem Z1j (a b:Bool):(a == b)=(b == a):=by cases a <;> cases b <;> rfl
theorem Z5i (fr tq tm li lt cm ok hi:Int)(ev:Value)(l:List Ent)(w:World)(hv:Es w ev l)(hll:l.length<=1048576) :
  Calls Tryz.prog 21 #[.agg #[.int .i64 1,.int .i64 fr,.int .i64 tq,.int .i64 tm,.int .i64 li,.int .i64 lt,.int .i64 cm,.int .i64 ok,.int .i64 hi,ev]] w fun r w'=>r=.returned (.int .i64 (Jh 1 fr tq tm li lt cm ok hi l))/\Below w.heap.size w w':=by
 have hV:Hid (Es w ev l):=hv;obtain ⟨hl,hf,a,cap,rfl,hc⟩:=hv;clear hc hf;have h16:inB 1 1 6=true:=rfl;have hB:Below w.heap.size w (w.alloc (.cells #[.int .i64 1,.int .i64 fr,.int .i64 tq,.int .i64 tm,.int .i64 li,.int .i64 lt,.int .i64 cm,.int .i64 ok,.int .i64 hi,.slice a l.length cap] 43)):=(Below.refl _ _).alloc (Nat.le_refl _) _;go_enter Tryz.func21,Tryz.ntmps21
 go_wp2_with (first
  |(go_at_call 56;refine (Z1 _ _ _ _).mono ?_;rintro r w' ⟨rfl,rfl⟩))
 all_goals go_ret
 all_goals refine ⟨Y1 ?_,by first | exact hB | exact (Below.refl _ _).alloc (Nat.le_refl _) _⟩
 all_goals (clear hB hV;go_light)
 all_goals (simp_all [Jh,Z06,Z0y,Xq,Xz,Xo,Z1j (lt == 0) (li == 0)])
theorem Z55 (fr tq tm li lt cm ok hi:Int)(ev:Value)(l:List Ent)(w:World)(hv:Es w ev l)(hll:l.length<=1048576) :
  Calls Tryz.prog 21 #[.agg #[.int .i64 3,.int .i64 fr,.int .i64 tq,.int .i64 tm,.int .i64 li,.int .i64 lt,.int .i64 cm,.int .i64 ok,.int .i64 hi,ev]] w fun r w'=>r=.returned (.int .i64 (Jh 3 fr tq tm li lt cm ok hi l))/\Below w.heap.size w w':=by
 have hV:Hid (Es w ev l):=hv;obtain ⟨hl,hf,a,cap,rfl,hc⟩:=hv;clear hc hf;have h16:inB 3 1 6=true:=rfl;have hB:Below w.heap.size w (w.alloc (.cells #[.int .i64 3,.int .i64 fr,.int .i64 tq,.int .i64 tm,.int .i64 li,.int .i64 lt,.int .i64 cm,.int .i64 ok,.int .i64 hi,.slice a l.length cap] 43)):=(Below.refl _ _).alloc (Nat.le_refl _) _;go_enter Tryz.func21,Tryz.ntmps21
 go_wp2_with (first
  |(go_at_call 56;refine (Z1 _ _ _ _).mono ?_;rintro r w' ⟨rfl,rfl⟩))
 all_goals go_ret
 all_goals refine ⟨Y1 ?_,by first | exact hB | exact (Below.refl _ _).alloc (Nat.le_refl _) _⟩
 all_goals (clear hB hV;go_light)
 all_goals (simp_all [Jh,Z06,Z0y,Xq,Xz,Xo,Z1j (lt == 0) (li == 0)])
theorem Z5a (fr tq tm li lt cm ok hi:Int)(ev:Value)(l:List Ent)(w:World)(hv:Es w ev l)(hll:l.length<=1048576) :
  Calls Tryz.prog 21 #[.agg #[.int .i64 2,.int .i64 fr,.int .i64 tq,.int .i64 tm,.int .i64 li,.int .i64 lt,.int .i64 cm,.int .i64 ok,.int .i64 hi,ev]] w fun r w'=>r=.returned (.int .i64 (Jh 2 fr tq tm li lt cm ok hi l))/\Below w.heap.size w w':=by
 have hV:Hid (Es w ev l):=hv;obtain ⟨hl,hf,a,cap,rfl,hc⟩:=hv;clear hc hf;have h16:inB 2 1 6=true:=rfl;have hB:Below w.heap.size w (w.alloc (.cells #[.int .i64 2,.int .i64 fr,.int .i64 tq,.int .i64 tm,.int .i64 li,.int .i64 lt,.int .i64 cm,.int .i64 ok,.int .i64 hi,.slice a l.length cap] 43)):=(Below.refl _ _).alloc (Nat.le_refl _) _;go_enter Tryz.func21,Tryz.ntmps21
 go_wp2_with (first
  |(go_at_call 56;refine (Z1 _ _ _ _).mono ?_;rintro r w' ⟨rfl,rfl⟩))
 all_goals go_ret
 all_goals refine ⟨Y1 ?_,by first | exact hB | exact (Below.refl _ _).alloc (Nat.le_refl _) _⟩
 all_goals (clear hB hV;go_light)
 all_goals (simp_all [Jh,Z06,Z0y,Xq,Xz,Xo])
 all_goals (intro h0;exfalso;omega)
theorem Z5j (fr tq tm li lt cm ok hi:Int)(ev:Value)(l:List Ent)(w:World)(hv:Es w ev l)(hll:l.length<=1048576) :
  Calls Tryz.prog 21 #[.agg #[.int .i64 4,.int .i64 fr,.int .i64 tq,.int .i64 tm,.int .i64 li,.int .i64 lt,.int .i64 cm,.int .i64 ok,.int .i64 hi,ev]] w fun r w'=>r=.returned (.int .i64 (Jh 4 fr tq tm li lt cm ok hi l))/\Below w.heap.size w w':=by
 have hV:Hid (Es w ev l):=hv;obtain ⟨hl,hf,a,cap,rfl,hc⟩:=hv;clear hc hf;have h16:inB 4 1 6=true:=rfl;have hB:Below w.heap.size w (w.alloc (.cells #[.int .i64 4,.int .i64 fr,.int .i64 tq,.int .i64 tm,.int .i64 li,.int .i64 lt,.int .i64 cm,.int .i64 ok,.int .i64 hi,.slice a l.length cap] 43)):=(Below.refl _ _).alloc (Nat.le_refl _) _;go_enter Tryz.func21,Tryz.ntmps21
 go_wp2_with (first
  |(go_at_call 56;refine (Z1 _ _ _ _).mono ?_;rintro r w' ⟨rfl,rfl⟩))
 all_goals go_ret
 all_goals refine ⟨Y1 ?_,by first | exact hB | exact (Below.refl _ _).alloc (Nat.le_refl _) _⟩
 all_goals (clear hB hV;go_light)
 all_goals (simp_all [Jh,Z06,Z0y,Xq,Xz,Xo])
 all_goals (intro h0;exfalso;omega)
end Go.Proofs.YtmmpoppgabadmaaGreat
