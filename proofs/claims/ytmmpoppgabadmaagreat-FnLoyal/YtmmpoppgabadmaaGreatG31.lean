import Derived.Test.YtmmpoppgabadmaaGreatG27
import Derived.Deep.DeepCutAuto
import Derived.Test.YtmmpoppgabadmaaGreatG22
set_option linter.unusedVariables false
set_option linter.unusedSimpArgs false
set_option maxRecDepth 100000
set_option maxHeartbeats 16000000
namespace Go.Proofs.YtmmpoppgabadmaaGreat
open Go.RowKit
theorem in_at {w:World}{B:Nat}{a:Option Addr}{n c:Nat}{l:List Int}(h:Zs inC 1 3 w B (.slice a n c) l)(hl:l.length<=1000000)(i:Nat)(hi:i<l.length):∃ g off,a=some ⟨g,off,none⟩/\w.cell? ⟨g,off+i,none⟩=some (.int .i64 l[i]):=by
 obtain ⟨-,a',c',e,hc⟩:=Z0h (Zs.sl Jh h (by unfold maxLen;omega));simp only [Value.slice.injEq] at e;obtain ⟨rfl,-,rfl⟩:=e;obtain ⟨b,off,rfl,hj⟩:=hc i hi;exact ⟨b,off,rfl,hj i hi⟩
end Go.Proofs.YtmmpoppgabadmaaGreat
namespace Go.Proofs.YtmmpoppgabadmaaGreat
open Go.RowKit Go.Maps
theorem Zo.gm_len {w:World}{B b:Nat}{r:Rn}{x:CV}(h:Zo w B b r x):r.n.gr.length<1000000:=by
 have h9:=h.ci.gr2;have h8:=h.ci.gr1
 have h7:∀(l:List Int) (lo:Int),l.Pairwise (· < ·)->(∀ y∈l,lo<y/\y<=7)->lo<=7->(l.length:Int)<=7-lo:=by
  intro l
  induction l with
  | nil=>intro lo _ _ h;simp;omega
  | cons a l ih=>
   intro lo hp hy hlo;have ha:=hy a (by simp);have:=ih a (List.Pairwise.of_cons hp) (fun y hy'=>⟨List.rel_of_pairwise_cons hp hy',(hy y (by simp [hy'])).2⟩) ha.2;rw [List.length_cons]
   push_cast
   omega
 have:=h7 r.n.gr 0 h8 (fun y hy=>by have:=h9 y hy;have:=h.ci.sz1;omega) (by omega);omega
end Go.Proofs.YtmmpoppgabadmaaGreat
namespace Go.Proofs.YtmmpoppgabadmaaGreat
open Go.RowKit Go.Maps
end Go.Proofs.YtmmpoppgabadmaaGreat
namespace Go.Proofs.YtmmpoppgabadmaaGreat
open Go.RowKit Go.Maps
end Go.Proofs.YtmmpoppgabadmaaGreat
