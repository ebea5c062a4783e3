import Derived.Test.YtmmpoppgabadmaaGreatG08
set_option linter.unusedVariables false
set_option linter.unusedSimpArgs false
set_option maxRecDepth 100000
set_option maxHeartbeats 16000000
namespace Go.Proofs.YtmmpoppgabadmaaGreat
open Go.RowKit
theorem Z35 (ki fr tq tm li lt cm ok hi:Int)(c:Value)(l:List Ent)(w:World)(d:Es w c l)(f:l.length<=1048576) :
  Calls Tryz.prog 21 #[.agg (mqN ki fr tq tm li lt cm ok hi c)] w λr w'=>r=.returned (.int .i64 (Jr ki fr tq tm li lt cm ok hi l))/\Below w.heap.size w w':=by
 have g:=Z0 d;obtain ⟨u,s,a,cap,rfl,h⟩:=d
 have b:Below w.heap.size w (w.alloc (.cells (mqN ki fr tq tm li lt cm ok hi (.slice a l.length cap)) 43)):=baq
 cases j:inB ki 1 6
 ·have s:Jr ki fr tq tm li lt cm ok hi l=1:=by simp [Jr,j]
  rw [s];go_enter Tryz.func21,Tryz.ntmps21
  go_wp2_with (go_at_call 56;refine (Y2 _ _ _ _).mono ?_;rintro r w' ⟨rfl,rfl⟩)
  go_ret;exact ⟨rfl,baq⟩
 obtain ⟨v,y⟩:=(Zj _ _ _).1 j
 rcases (by omega:ki=1∨ki=2∨ki=3∨ki=4∨ki=5∨ki=6) with rfl | rfl | rfl | rfl | rfl | rfl
 rotate_left 4
 cases e:inB li 0 4096
 rotate_left 1
 obtain ⟨m,p⟩:=(Zj _ _ _).1 e;cases n:ok != 0
 obtain rfl:ok=0:=by simpa using n
 cases k:hi != 0
 obtain rfl:hi=0:=by simpa using k
 rotate_left 3
 cases e:inB li 0 4096
 rcases (Z4i _ _ _).1 e with p | p
 rotate_left 1
 have:0<=li:=by omega
 rotate_left 1
 obtain ⟨m,p⟩:=(Zj _ _ _).1 e;cases o:inB ok 0 1
 rotate_left 1
 obtain ⟨x,t⟩:=(Zj _ _ _).1 o;rcases (by omega:ok=0∨ok=1) with rfl | rfl
 all_goals go_enter Tryz.func21,Tryz.ntmps21
 all_goals go_wp2_with (first
  |(go_at_call 56;refine (Y2 _ _ _ _).mono ?_;rintro r w' ⟨rfl,rfl⟩)
  |(go_at_call 57;refine (Z21 _ _ _ l _ (g.out.below b) f).mono ?_;rintro r q ⟨rfl,i⟩;replace b:=b.trans (i.mono (by simp))))
 all_goals go_ret
 all_goals refine ⟨J6 ?_,by first | exact b | exact baq⟩
 all_goals (clear b g;go_light)
 all_goals (try simp_all [Jr,Z0n,Z0i,Yt,Xd,Jb,Z3a _ _])
 all_goals first | rfl | omega | (intros;exfalso;omega) | (cases d:Jq tm lt l <;> simp_all <;> omega)
end Go.Proofs.YtmmpoppgabadmaaGreat
