import Derived.Test.YtmmpoppgabadmaaGreatG20
set_option linter.unusedVariables false
set_option linter.unusedSimpArgs false
set_option maxRecDepth 100000
set_option maxHeartbeats 16000000
namespace Go.Proofs.YtmmpoppgabadmaaGreat
open Go.RowKit
theorem Z2s (fr tq tm li lt cm hi:Int)(hp:inB li 0 4096=true)(p1:0<=li)(p2:li<=4096)(ev:Value)(l:List Ent)(w:World)(hv:Es w ev l)(hll:l.length<=1048576) :
  Calls Tryz.prog 21 #[.agg #[.int .i64 6,.int .i64 fr,.int .i64 tq,.int .i64 tm,.int .i64 li,.int .i64 lt,.int .i64 cm,.int .i64 0,.int .i64 hi,ev]] w fun r w'=>r=.returned (.int .i64 (Jc 6 fr tq tm li lt cm 0 hi l))/\Below w.heap.size w w':=by
 have hV:Hid (Es w ev l):=hv;obtain ⟨hl,hf,a,cap,rfl,hc⟩:=hv;clear hc hf;have h16:inB 6 1 6=true:=rfl;have hB:Below w.heap.size w (w.alloc (.cells #[.int .i64 6,.int .i64 fr,.int .i64 tq,.int .i64 tm,.int .i64 li,.int .i64 lt,.int .i64 cm,.int .i64 0,.int .i64 hi,.slice a l.length cap] 43)):=(Below.refl _ _).alloc (Nat.le_refl _) _;go_enter Tryz.func21,Tryz.ntmps21
 go_wp2_with (first
  |(go_at_call 56;refine (Za _ _ _ _).mono ?_;rintro r w' ⟨rfl,rfl⟩))
 all_goals go_ret
 all_goals refine ⟨Yj ?_,by first | exact hB | exact (Below.refl _ _).alloc (Nat.le_refl _) _⟩
 all_goals (clear hB hV;go_light)
 all_goals (simp_all [Jc,Js,Z0a,Xr,J7,Xs])
 all_goals rfl
theorem Z30 (fr tq tm li lt cm hi:Int)(hp:inB li 0 4096=true)(p1:0<=li)(p2:li<=4096)(ev:Value)(l:List Ent)(w:World)(hv:Es w ev l)(hll:l.length<=1048576) :
  Calls Tryz.prog 21 #[.agg #[.int .i64 6,.int .i64 fr,.int .i64 tq,.int .i64 tm,.int .i64 li,.int .i64 lt,.int .i64 cm,.int .i64 1,.int .i64 hi,ev]] w fun r w'=>r=.returned (.int .i64 (Jc 6 fr tq tm li lt cm 1 hi l))/\Below w.heap.size w w':=by
 have hV:Hid (Es w ev l):=hv;obtain ⟨hl,hf,a,cap,rfl,hc⟩:=hv;clear hc hf;have h16:inB 6 1 6=true:=rfl;have hB:Below w.heap.size w (w.alloc (.cells #[.int .i64 6,.int .i64 fr,.int .i64 tq,.int .i64 tm,.int .i64 li,.int .i64 lt,.int .i64 cm,.int .i64 1,.int .i64 hi,.slice a l.length cap] 43)):=(Below.refl _ _).alloc (Nat.le_refl _) _;go_enter Tryz.func21,Tryz.ntmps21
 go_wp2_with (first
  |(go_at_call 56;refine (Za _ _ _ _).mono ?_;rintro r w' ⟨rfl,rfl⟩))
 all_goals go_ret
 all_goals refine ⟨Yj ?_,by first | exact hB | exact (Below.refl _ _).alloc (Nat.le_refl _) _⟩
 all_goals (clear hB hV;go_light)
 all_goals (simp_all [Jc,Js,Z0a,Xr,J7,Xs])
theorem Z2v (fr tq tm li lt cm ok hi:Int)(hp:inB li 0 4096=true)(p1:0<=li)(p2:li<=4096)(ho:inB ok 0 1=false)(ev:Value)(l:List Ent)(w:World)(hv:Es w ev l)(hll:l.length<=1048576) :
  Calls Tryz.prog 21 #[.agg #[.int .i64 6,.int .i64 fr,.int .i64 tq,.int .i64 tm,.int .i64 li,.int .i64 lt,.int .i64 cm,.int .i64 ok,.int .i64 hi,ev]] w fun r w'=>r=.returned (.int .i64 (Jc 6 fr tq tm li lt cm ok hi l))/\Below w.heap.size w w':=by
 have hV:Hid (Es w ev l):=hv;obtain ⟨hl,hf,a,cap,rfl,hc⟩:=hv;clear hc hf;have h16:inB 6 1 6=true:=rfl;have hB:Below w.heap.size w (w.alloc (.cells #[.int .i64 6,.int .i64 fr,.int .i64 tq,.int .i64 tm,.int .i64 li,.int .i64 lt,.int .i64 cm,.int .i64 ok,.int .i64 hi,.slice a l.length cap] 43)):=(Below.refl _ _).alloc (Nat.le_refl _) _;go_enter Tryz.func21,Tryz.ntmps21
 go_wp2_with (first
  |(go_at_call 56;refine (Za _ _ _ _).mono ?_;rintro r w' ⟨rfl,rfl⟩))
 all_goals go_ret
 all_goals refine ⟨Yj ?_,by first | exact hB | exact (Below.refl _ _).alloc (Nat.le_refl _) _⟩
 all_goals (clear hB hV;go_light)
 all_goals (simp_all [Jc,Js,Z0a,Xr,J7,Xs])
theorem Z3f (fr tq tm li lt cm ok hi:Int)(hp:inB li 0 4096=false)(p1:li<0)(ev:Value)(l:List Ent)(w:World)(hv:Es w ev l)(hll:l.length<=1048576) :
  Calls Tryz.prog 21 #[.agg #[.int .i64 6,.int .i64 fr,.int .i64 tq,.int .i64 tm,.int .i64 li,.int .i64 lt,.int .i64 cm,.int .i64 ok,.int .i64 hi,ev]] w fun r w'=>r=.returned (.int .i64 (Jc 6 fr tq tm li lt cm ok hi l))/\Below w.heap.size w w':=by
 have hV:Hid (Es w ev l):=hv;obtain ⟨hl,hf,a,cap,rfl,hc⟩:=hv;clear hc hf;have h16:inB 6 1 6=true:=rfl;have hB:Below w.heap.size w (w.alloc (.cells #[.int .i64 6,.int .i64 fr,.int .i64 tq,.int .i64 tm,.int .i64 li,.int .i64 lt,.int .i64 cm,.int .i64 ok,.int .i64 hi,.slice a l.length cap] 43)):=(Below.refl _ _).alloc (Nat.le_refl _) _;go_enter Tryz.func21,Tryz.ntmps21
 go_wp2_with (first
  |(go_at_call 56;refine (Za _ _ _ _).mono ?_;rintro r w' ⟨rfl,rfl⟩))
 all_goals go_ret
 all_goals refine ⟨Yj ?_,by first | exact hB | exact (Below.refl _ _).alloc (Nat.le_refl _) _⟩
 all_goals (clear hB hV;go_light)
 all_goals (simp_all [Jc,Js,Z0a,Xr,J7,Xs])
theorem Z3e (fr tq tm li lt cm ok hi:Int)(hp:inB li 0 4096=false)(p1:0<=li)(p2:4096<li)(ev:Value)(l:List Ent)(w:World)(hv:Es w ev l)(hll:l.length<=1048576) :
  Calls Tryz.prog 21 #[.agg #[.int .i64 6,.int .i64 fr,.int .i64 tq,.int .i64 tm,.int .i64 li,.int .i64 lt,.int .i64 cm,.int .i64 ok,.int .i64 hi,ev]] w fun r w'=>r=.returned (.int .i64 (Jc 6 fr tq tm li lt cm ok hi l))/\Below w.heap.size w w':=by
 have hV:Hid (Es w ev l):=hv;obtain ⟨hl,hf,a,cap,rfl,hc⟩:=hv;clear hc hf;have h16:inB 6 1 6=true:=rfl;have hB:Below w.heap.size w (w.alloc (.cells #[.int .i64 6,.int .i64 fr,.int .i64 tq,.int .i64 tm,.int .i64 li,.int .i64 lt,.int .i64 cm,.int .i64 ok,.int .i64 hi,.slice a l.length cap] 43)):=(Below.refl _ _).alloc (Nat.le_refl _) _;go_enter Tryz.func21,Tryz.ntmps21
 go_wp2_with (first
  |(go_at_call 56;refine (Za _ _ _ _).mono ?_;rintro r w' ⟨rfl,rfl⟩))
 all_goals go_ret
 all_goals refine ⟨Yj ?_,by first | exact hB | exact (Below.refl _ _).alloc (Nat.le_refl _) _⟩
 all_goals (clear hB hV;go_light)
 all_goals (simp_all [Jc,Js,Z0a,Xr,J7,Xs])
theorem Z2z (ki fr tq tm li lt cm ok hi:Int)(ev:Value)(l:List Ent)(w:World)(hv:Es w ev l)(hll:l.length<=1048576) :
  Calls Tryz.prog 21 #[.agg #[.int .i64 ki,.int .i64 fr,.int .i64 tq,.int .i64 tm,.int .i64 li,.int .i64 lt,.int .i64 cm,.int .i64 ok,.int .i64 hi,ev]] w fun r w'=>r=.returned (.int .i64 (Jc ki fr tq tm li lt cm ok hi l))/\Below w.heap.size w w':=by
 by_cases hk:inB ki 1 6=true
 ·obtain ⟨k1,k2⟩:=(Zr _ _ _).1 hk
  rcases (by omega:ki=1∨ki=2∨ki=3∨ki=4∨ki=5∨ki=6) with rfl | rfl | rfl | rfl | rfl | rfl
  ·exact Z3y fr tq tm li lt cm ok hi ev l w hv hll
  ·exact Z3t fr tq tm li lt cm ok hi ev l w hv hll
  ·exact Z3s fr tq tm li lt cm ok hi ev l w hv hll
  ·exact Z3o fr tq tm li lt cm ok hi ev l w hv hll
  ·by_cases hp:inB li 0 4096=true
   ·obtain ⟨p1,p2⟩:=(Zr _ _ _).1 hp
    by_cases h0:ok=0
    ·subst h0
     by_cases h1:hi=0
     ·subst h1
      exact Z3a fr tq tm li lt cm hp p1 p2 ev l w hv hll
     ·exact Z3g fr tq tm li lt cm hi (by simpa using h1) ev l w hv hll
    ·exact Z3b fr tq tm li lt cm ok hi (by simpa using h0) ev l w hv hll
   ·exact Z3h fr tq tm li lt cm ok hi (by simpa using hp) ev l w hv hll
  ·by_cases hp:inB li 0 4096=true
   ·obtain ⟨p1,p2⟩:=(Zr _ _ _).1 hp
    by_cases ho:inB ok 0 1=true
    ·obtain ⟨o1,o2⟩:=(Zr _ _ _).1 ho
     rcases (by omega:ok=0∨ok=1) with rfl | rfl
     ·exact Z2s fr tq tm li lt cm hi hp p1 p2 ev l w hv hll
     ·exact Z30 fr tq tm li lt cm hi hp p1 p2 ev l w hv hll
    ·exact Z2v fr tq tm li lt cm ok hi hp p1 p2 (by simpa using ho) ev l w hv hll
   ·have hp':inB li 0 4096=false:=by simpa using hp
    rcases (Z02 _ _ _).1 hp' with p | p
    ·exact Z3f fr tq tm li lt cm ok hi hp' p ev l w hv hll
    ·exact Z3e fr tq tm li lt cm ok hi hp' (by omega) p ev l w hv hll
 ·have hk':inB ki 1 6=false:=by simpa using hk
  have hE:Jc ki fr tq tm li lt cm ok hi l=1:=by simp [Jc,hk']
  rw [hE];obtain ⟨hl,hf,a,cap,rfl,hc⟩:=hv;clear hc hf;go_enter Tryz.func21,Tryz.ntmps21
  go_wp2_with (go_at_call 56;refine (Za _ _ _ _).mono ?_;rintro r w' ⟨rfl,rfl⟩)
  go_ret;exact ⟨rfl,(Below.refl _ _).alloc (Nat.le_refl _) _⟩
end Go.Proofs.YtmmpoppgabadmaaGreat
