import Derived.Test.YtmmpoppgabadmaaGreatG34
set_option linter.unusedVariables false
set_option linter.unusedSimpArgs false
set_option maxRecDepth 100000
set_option maxHeartbeats 16000000
namespace Go.Proofs.YtmmpoppgabadmaaGreat
open Go.RowKit Go.Maps
variable {γ:Type} {vl:γ->Value} {w:World} {b:Nat} {f:Int->Option γ}
theorem IR.next {r cnt:Nat}{lf:Int->Bool}(h:IR vl w b r f lf cnt)(ty:TypeId) :
  (cnt=0/\(∀ y,lf y=false)/\(Instr.next (.pointer (some ⟨r,0,none⟩)) false ty).run Tryz.prog w=.ok (.tuple #[.bool false]) w) ∨
  ∃(y:Int) (q:γ) (w':World) (cnt':Nat),lf y=true/\f y=some q/\IR vl w' b r f (fun z=>lf z && !(z == y)) cnt'/\cnt'<cnt/\w.grownBy w' (some r)/\w'.heap.size=w.heap.size /\
   (Instr.next (.pointer (some ⟨r,0,none⟩)) false ty).run Tryz.prog w=.ok (.tuple #[.bool true,.int .i64 y,vl q]) w'/\(Instr.entry (.pointer (some ⟨r,0,none⟩))).run Tryz.prog w'=.ok (.tuple #[.int .i64 y,vl q]) w':=by
 obtain ⟨n,D,left,h1,h2,h3⟩:=h;rcases h1.next law3 ty with ⟨h0,hl,hrun⟩ | ⟨key,v,kl,y,w',cnt',hkey,hlk,hv,hat,hrun,hrg,hlt,hgr,hsz,hen⟩
 ·exact .inl ⟨h0,fun y=>by rw [<-h3];exact hl _,hrun⟩
 ·obtain ⟨x,rfl,rfl,hwx⟩:=keyOf_int_inv Tryz.underlying3 hkey
  have hhas:Maps.has D (.int .i64 x)=true:=has_true_of_atKey hat;rw [(h2 x).1] at hhas;obtain ⟨q,hq⟩:=Option.isSome_iff_exists.1 hhas;have e1:=hat (.held undef);rw [(h2 x).2,hq] at e1;simp only [Z12,Option.some.injEq] at hv;rw [<-hv] at e1;simp only [Option.elim_some,DataW.held.injEq] at e1;subst e1;refine .inr ⟨x,q,w',cnt',by rw [<-h3];exact hlk,hq,⟨n,D,_,hrg,h2,fun z=>?_⟩,hlt,hgr,hsz,hrun,hen⟩;show (left (.int .i64 z) && !(Lit.int .i64 z).sameKey (.int .i64 x))=_;rw [h3]
  have hsk:(Lit.int .i64 z).sameKey (.int .i64 x)=(z == x):=by
   by_cases e:z=x <;> simp [Lit.sameKey,e]
  rw [hsk]
end Go.Proofs.YtmmpoppgabadmaaGreat
