import Derived.Test.YtmmpoppgabadmaaGreatG16
set_option linter.unusedVariables false
set_option linter.unusedSimpArgs false
set_option maxRecDepth 100000
set_option maxHeartbeats 16000000
namespace Go.Proofs.YtmmpoppgabadmaaGreat
open Go.RowKit
theorem Xs (x:Int):inB x 0 0=(x == 0):=by
 rw [Bool.eq_iff_iff,Zr];simp;omega
theorem Z0q (a b:Bool):(a == b)=(b == a):=by cases a <;> cases b <;> rfl
theorem Z3y (fr tq tm li lt cm ok hi:Int)(ev:Value)(l:List Ent)(w:World)(hv:Es w ev l)(hll:l.length<=1048576) :
  Calls Tryz.prog 21 #[.agg #[.int .i64 1,.int .i64 fr,.int .i64 tq,.int .i64 tm,.int .i64 li,.int .i64 lt,.int .i64 cm,.int .i64 ok,.int .i64 hi,ev]] w fun r w'=>r=.returned (.int .i64 (Jc 1 fr tq tm li lt cm ok hi l))/\Below w.heap.size w w':=by
 have hV:Hid (Es w ev l):=hv;obtain ⟨hl,hf,a,cap,rfl,hc⟩:=hv;clear hc hf;have h16:inB 1 1 6=true:=rfl;have hB:Below w.heap.size w (w.alloc (.cells #[.int .i64 1,.int .i64 fr,.int .i64 tq,.int .i64 tm,.int .i64 li,.int .i64 lt,.int .i64 cm,.int .i64 ok,.int .i64 hi,.slice a l.length cap] 43)):=(Below.refl _ _).alloc (Nat.le_refl _) _;go_enter Tryz.func21,Tryz.ntmps21
 go_wp2_with (first
  |(go_at_call 56;refine (Za _ _ _ _).mono ?_;rintro r w' ⟨rfl,rfl⟩))
 all_goals go_ret
 all_goals refine ⟨Yj ?_,by first | exact hB | exact (Below.refl _ _).alloc (Nat.le_refl _) _⟩
 all_goals (clear hB hV;go_light)
 all_goals (simp_all [Jc,Js,Z0a,Xr,J7,Xs,Z0q (lt == 0) (li == 0)])
theorem Z3s (fr tq tm li lt cm ok hi:Int)(ev:Value)(l:List Ent)(w:World)(hv:Es w ev l)(hll:l.length<=1048576) :
  Calls Tryz.prog 21 #[.agg #[.int .i64 3,.int .i64 fr,.int .i64 tq,.int .i64 tm,.int .i64 li,.int .i64 lt,.int .i64 cm,.int .i64 ok,.int .i64 hi,ev]] w fun r w'=>r=.returned (.int .i64 (Jc 3 fr tq tm li lt cm ok hi l))/\Below w.heap.size w w':=by
 have hV:Hid (Es w ev l):=hv;obtain ⟨hl,hf,a,cap,rfl,hc⟩:=hv;clear hc hf;have h16:inB 3 1 6=true:=rfl;have hB:Below w.heap.size w (w.alloc (.cells #[.int .i64 3,.int .i64 fr,.int .i64 tq,.int .i64 tm,.int .i64 li,.int .i64 lt,.int .i64 cm,.int .i64 ok,.int .i64 hi,.slice a l.length cap] 43)):=(Below.refl _ _).alloc (Nat.le_refl _) _;go_enter Tryz.func21,Tryz.ntmps21
 go_wp2_with (first
  |(go_at_call 56;refine (Za _ _ _ _).mono ?_;rintro r w' ⟨rfl,rfl⟩))
 all_goals go_ret
 all_goals refine ⟨Yj ?_,by first | exact hB | exact (Below.refl _ _).alloc (Nat.le_refl _) _⟩
 all_goals (clear hB hV;go_light)
 all_goals (simp_all [Jc,Js,Z0a,Xr,J7,Xs,Z0q (lt == 0) (li == 0)])
theorem Z3t (fr tq tm li lt cm ok hi:Int)(ev:Value)(l:List Ent)(w:World)(hv:Es w ev l)(hll:l.length<=1048576) :
  Calls Tryz.prog 21 #[.agg #[.int .i64 2,.int .i64 fr,.int .i64 tq,.int .i64 tm,.int .i64 li,.int .i64 lt,.int .i64 cm,.int .i64 ok,.int .i64 hi,ev]] w fun r w'=>r=.returned (.int .i64 (Jc 2 fr tq tm li lt cm ok hi l))/\Below w.heap.size w w':=by
 have hV:Hid (Es w ev l):=hv;obtain ⟨hl,hf,a,cap,rfl,hc⟩:=hv;clear hc hf;have h16:inB 2 1 6=true:=rfl;have hB:Below w.heap.size w (w.alloc (.cells #[.int .i64 2,.int .i64 fr,.int .i64 tq,.int .i64 tm,.int .i64 li,.int .i64 lt,.int .i64 cm,.int .i64 ok,.int .i64 hi,.slice a l.length cap] 43)):=(Below.refl _ _).alloc (Nat.le_refl _) _;go_enter Tryz.func21,Tryz.ntmps21
 go_wp2_with (first
  |(go_at_call 56;refine (Za _ _ _ _).mono ?_;rintro r w' ⟨rfl,rfl⟩))
 all_goals go_ret
 all_goals refine ⟨Yj ?_,by first | exact hB | exact (Below.refl _ _).alloc (Nat.le_refl _) _⟩
 all_goals (clear hB hV;go_light)
 all_goals (simp_all [Jc,Js,Z0a,Xr,J7,Xs])
 all_goals (intro h0;exfalso;omega)
theorem Z3o (fr tq tm li lt cm ok hi:Int)(ev:Value)(l:List Ent)(w:World)(hv:Es w ev l)(hll:l.length<=1048576) :
  Calls Tryz.prog 21 #[.agg #[.int .i64 4,.int .i64 fr,.int .i64 tq,.int .i64 tm,.int .i64 li,.int .i64 lt,.int .i64 cm,.int .i64 ok,.int .i64 hi,ev]] w fun r w'=>r=.returned (.int .i64 (Jc 4 fr tq tm li lt cm ok hi l))/\Below w.heap.size w w':=by
 have hV:Hid (Es w ev l):=hv;obtain ⟨hl,hf,a,cap,rfl,hc⟩:=hv;clear hc hf;have h16:inB 4 1 6=true:=rfl;have hB:Below w.heap.size w (w.alloc (.cells #[.int .i64 4,.int .i64 fr,.int .i64 tq,.int .i64 tm,.int .i64 li,.int .i64 lt,.int .i64 cm,.int .i64 ok,.int .i64 hi,.slice a l.length cap] 43)):=(Below.refl _ _).alloc (Nat.le_refl _) _;go_enter Tryz.func21,Tryz.ntmps21
 go_wp2_with (first
  |(go_at_call 56;refine (Za _ _ _ _).mono ?_;rintro r w' ⟨rfl,rfl⟩))
 all_goals go_ret
 all_goals refine ⟨Yj ?_,by first | exact hB | exact (Below.refl _ _).alloc (Nat.le_refl _) _⟩
 all_goals (clear hB hV;go_light)
 all_goals (simp_all [Jc,Js,Z0a,Xr,J7,Xs])
 all_goals (intro h0;exfalso;omega)
end Go.Proofs.YtmmpoppgabadmaaGreat
