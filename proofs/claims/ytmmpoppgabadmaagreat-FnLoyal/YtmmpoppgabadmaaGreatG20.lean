import Derived.Test.YtmmpoppgabadmaaGreatG18
set_option linter.unusedVariables false
set_option linter.unusedSimpArgs false
set_option maxRecDepth 100000
set_option maxHeartbeats 16000000
namespace Go.Proofs.YtmmpoppgabadmaaGreat
open Go.RowKit
theorem Z3a (fr tq tm li lt cm:Int)(hp:inB li 0 4096=true)(p1:0<=li)(p2:li<=4096)(ev:Value)(l:List Ent)(w:World)(hv:Es w ev l)(hll:l.length<=1048576) :
  Calls Tryz.prog 21 #[.agg #[.int .i64 5,.int .i64 fr,.int .i64 tq,.int .i64 tm,.int .i64 li,.int .i64 lt,.int .i64 cm,.int .i64 0,.int .i64 0,ev]] w fun r w'=>r=.returned (.int .i64 (Jc 5 fr tq tm li lt cm 0 0 l))/\Below w.heap.size w w':=by
 have hV:Hid (Es w ev l):=hv;obtain ⟨hl,hf,a,cap,rfl,hc⟩:=hv;clear hc hf;have h16:inB 5 1 6=true:=rfl;have hB:Below w.heap.size w (w.alloc (.cells #[.int .i64 5,.int .i64 fr,.int .i64 tq,.int .i64 tm,.int .i64 li,.int .i64 lt,.int .i64 cm,.int .i64 0,.int .i64 0,.slice a l.length cap] 43)):=(Below.refl _ _).alloc (Nat.le_refl _) _;go_enter Tryz.func21,Tryz.ntmps21
 go_wp2_with (first
  |(go_at_call 56;refine (Za _ _ _ _).mono ?_;rintro r w' ⟨rfl,rfl⟩)
  |(go_at_call 57;refine (Yf _ _ _ l _ (hV.out.below hB) hll).mono ?_;rintro r w1 ⟨rfl,hb⟩;replace hB:=hB.trans (hb.mono (by simp))))
 all_goals go_ret
 all_goals refine ⟨Yj ?_,by first | exact hB | exact (Below.refl _ _).alloc (Nat.le_refl _) _⟩
 all_goals (clear hB hV;go_light)
 all_goals (simp_all [Jc,Js,Z0a,Xr,J7,Xs,Z0q (lt == 0) (li == 0)])
 all_goals first | omega | (intros;exfalso;omega) | (cases hfit:Xc tm lt l <;> simp_all <;> omega)
theorem Z3g (fr tq tm li lt cm hi:Int)(hh:(hi != 0)=true)(ev:Value)(l:List Ent)(w:World)(hv:Es w ev l)(hll:l.length<=1048576) :
  Calls Tryz.prog 21 #[.agg #[.int .i64 5,.int .i64 fr,.int .i64 tq,.int .i64 tm,.int .i64 li,.int .i64 lt,.int .i64 cm,.int .i64 0,.int .i64 hi,ev]] w fun r w'=>r=.returned (.int .i64 (Jc 5 fr tq tm li lt cm 0 hi l))/\Below w.heap.size w w':=by
 have hV:Hid (Es w ev l):=hv;obtain ⟨hl,hf,a,cap,rfl,hc⟩:=hv;clear hc hf;have h16:inB 5 1 6=true:=rfl;have hB:Below w.heap.size w (w.alloc (.cells #[.int .i64 5,.int .i64 fr,.int .i64 tq,.int .i64 tm,.int .i64 li,.int .i64 lt,.int .i64 cm,.int .i64 0,.int .i64 hi,.slice a l.length cap] 43)):=(Below.refl _ _).alloc (Nat.le_refl _) _;go_enter Tryz.func21,Tryz.ntmps21
 go_wp2_with (first
  |(go_at_call 56;refine (Za _ _ _ _).mono ?_;rintro r w' ⟨rfl,rfl⟩))
 all_goals go_ret
 all_goals refine ⟨Yj ?_,by first | exact hB | exact (Below.refl _ _).alloc (Nat.le_refl _) _⟩
 all_goals (clear hB hV;go_light)
 all_goals (simp_all [Jc,Js,Z0a,Xr,J7,Xs,Z0q (lt == 0) (li == 0)])
theorem Z3b (fr tq tm li lt cm ok hi:Int)(hh:(ok != 0)=true)(ev:Value)(l:List Ent)(w:World)(hv:Es w ev l)(hll:l.length<=1048576) :
  Calls Tryz.prog 21 #[.agg #[.int .i64 5,.int .i64 fr,.int .i64 tq,.int .i64 tm,.int .i64 li,.int .i64 lt,.int .i64 cm,.int .i64 ok,.int .i64 hi,ev]] w fun r w'=>r=.returned (.int .i64 (Jc 5 fr tq tm li lt cm ok hi l))/\Below w.heap.size w w':=by
 have hV:Hid (Es w ev l):=hv;obtain ⟨hl,hf,a,cap,rfl,hc⟩:=hv;clear hc hf;have h16:inB 5 1 6=true:=rfl;have hB:Below w.heap.size w (w.alloc (.cells #[.int .i64 5,.int .i64 fr,.int .i64 tq,.int .i64 tm,.int .i64 li,.int .i64 lt,.int .i64 cm,.int .i64 ok,.int .i64 hi,.slice a l.length cap] 43)):=(Below.refl _ _).alloc (Nat.le_refl _) _;go_enter Tryz.func21,Tryz.ntmps21
 go_wp2_with (first
  |(go_at_call 56;refine (Za _ _ _ _).mono ?_;rintro r w' ⟨rfl,rfl⟩))
 all_goals go_ret
 all_goals refine ⟨Yj ?_,by first | exact hB | exact (Below.refl _ _).alloc (Nat.le_refl _) _⟩
 all_goals (clear hB hV;go_light)
 all_goals (simp_all [Jc,Js,Z0a,Xr,J7,Xs,Z0q (lt == 0) (li == 0)])
theorem Z3h (fr tq tm li lt cm ok hi:Int)(hp:inB li 0 4096=false)(ev:Value)(l:List Ent)(w:World)(hv:Es w ev l)(hll:l.length<=1048576) :
  Calls Tryz.prog 21 #[.agg #[.int .i64 5,.int .i64 fr,.int .i64 tq,.int .i64 tm,.int .i64 li,.int .i64 lt,.int .i64 cm,.int .i64 ok,.int .i64 hi,ev]] w fun r w'=>r=.returned (.int .i64 (Jc 5 fr tq tm li lt cm ok hi l))/\Below w.heap.size w w':=by
 have hV:Hid (Es w ev l):=hv;obtain ⟨hl,hf,a,cap,rfl,hc⟩:=hv;clear hc hf;have h16:inB 5 1 6=true:=rfl;have hB:Below w.heap.size w (w.alloc (.cells #[.int .i64 5,.int .i64 fr,.int .i64 tq,.int .i64 tm,.int .i64 li,.int .i64 lt,.int .i64 cm,.int .i64 ok,.int .i64 hi,.slice a l.length cap] 43)):=(Below.refl _ _).alloc (Nat.le_refl _) _;go_enter Tryz.func21,Tryz.ntmps21
 go_wp2_with (first
  |(go_at_call 56;refine (Za _ _ _ _).mono ?_;rintro r w' ⟨rfl,rfl⟩))
 all_goals go_ret
 all_goals refine ⟨Yj ?_,by first | exact hB | exact (Below.refl _ _).alloc (Nat.le_refl _) _⟩
 all_goals (clear hB hV;go_light)
 all_goals (simp_all [Jc,Js,Z0a,Xr,J7,Xs,Z0q (lt == 0) (li == 0)])
end Go.Proofs.YtmmpoppgabadmaaGreat
