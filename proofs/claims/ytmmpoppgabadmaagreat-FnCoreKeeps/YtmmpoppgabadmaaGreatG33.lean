import Derived.Test.YtmmpoppgabadmaaGreatG08
import Derived.BigQuiet
import Derived.Deep.QuietTactic
import Derived.Test.YtmmpoppgabadmaaGreatRows
import Derived.ProofKit
import Derived.OpenShut
import Derived.ShutString
import Derived.ChangeOld
import Derived.Carry
set_option linter.unusedVariables false
set_option linter.unusedSimpArgs false
set_option maxRecDepth 100000
set_option maxHeartbeats 16000000
namespace Go.Proofs.YtmmpoppgabadmaaGreat
open Go.RowKit
theorem common_any (v u:Value)(l d:List Ent)(w:World)(hv:Es w v l)(hu:Es w u d)(ab:l.length<=1048576)(x:d.length<=1048576) :
  Calls Tryz.prog 74 #[v,u] w λe w'=>e=.returned (.int .i64 (Z2h l d:Nat))/\∃ n,w'=w.drewN n:=by
 obtain ⟨hl,hf,a,cap,rfl,hc⟩:=hv;obtain ⟨aa,ad,a',z,rfl,j⟩:=hu;go_enter Tryz.func74,Tryz.ntmps74;go_wp2
 go_loopw [5] (λi wr=>∃ k:Nat,k<=l.length/\k<=d.length/\i=.int .i64 k/\Z2h l d=k+Z2h (l.drop k) (d.drop k)/\∃ n,wr=w.drewN n) (λi _=>l.length-(intOf i).toNat)
 case atStart=>exact ⟨0,Nat.zero_le _,Nat.zero_le _,rfl,by simp,0,rfl⟩
 case round=>
  obtain ⟨k,hk,af,rfl,h,nd,rfl⟩:=hrel;have q:=Z0 h;clear h;by_cases c:k<l.length/\k<d.length
  ·obtain ⟨c,f⟩:=c
   obtain ⟨b,ac,rfl,hj⟩:=hc k c;obtain ⟨b',r,rfl,m⟩:=j k f;obtain ⟨c0,c1,c2,c3,c4,c5,c6⟩:=hj k c;obtain ⟨d0,d1,d2,d3,d4,d5,d6⟩:=m k f;have p:=Z0 (comK_step l d k c f);clear hc hj j m;generalize l[k]=e at *;generalize d[k]=e' at *;have s:∀ u:World,(Op.equalIn 10000 118 (.agg (eqN e.t e.cl e.sq e.op e.k e.v e.o)) (.agg (eqN e'.t e'.cl e'.sq e'.op e'.k e'.v e'.o))).run Tryz.prog u=.ok (Z6l e e') u:=λu=>eqEnt_run _ e e' u
   cases y:Z6l e e'
   ·rw [y] at s p
    go_wp2;go_quiet (fail)
    go_wp2;go_ret;exact ⟨by rw [q.out,p.out];simp,nd+nq,by rw [World.drewN_drewN]⟩
   ·rw [y] at s p
    go_wp2;go_quiet (fail)
    go_wp2
    go_roundw
    case rel=>exact ⟨k+1,by omega,by omega,by go_num,by rw [q.out,p.out];simp;omega,_,rfl⟩
    case measure=>simp [intOf];omega
  ·have g:=Z0 (comK_end l d k c)
   by_cases hs:k<l.length
   ·have ae:¬ k<d.length:=by omega
    go_wp2;go_quiet (fail)
    go_wp2;go_ret;exact ⟨by rw [q.out,g.out];simp,nd+nq,by rw [World.drewN_drewN]⟩
   ·go_wp2
    go_quiet (fail)
    go_wp2;go_ret;exact ⟨by rw [q.out,g.out];simp,nd+nq,by rw [World.drewN_drewN]⟩
section
variable {α:Type} {cs:α->List Value} {m:Nat} {T S:TypeId} {w w':World} {B:Nat} {v:Value} {l:List α}
end
end Go.Proofs.YtmmpoppgabadmaaGreat
namespace Go.Proofs.YtmmpoppgabadmaaGreat
open Go.ChangeShapes Go.WideShapes Go.ChangeAt Go.RowKit
theorem own:ownKnob Tryz.prog.godebug=none:=by kernel_rfl
theorem laidOut:laidOutB Tryz.prog=true:=by kernel_rfl
end Go.Proofs.YtmmpoppgabadmaaGreat
namespace Go.Proofs.YtmmpoppgabadmaaGreat
open Go.ChangeShapes Go.WideShapes Go.ChangeAt Go.RowKit
theorem open_bytes {H:Type}{enc:TypeId×Value->H}{W:World}{m s:Nat}{g:Nat->Bool}{held:Bool}{v:Value}{d:DataW H}{p:List MemPlace}
  (t:Value.okWide Tryz.prog W .any s 55 v) (h:DataW.Trod enc Tryz.prog W m g held 55 v d p):∃ l,Bs W v l:=by
 obtain ⟨a,len,cap,rfl⟩:=okWide_slice Tryz.underlying55 t;obtain ⟨o,r⟩:=h;rcases open_ints Tryz.underlying55 Tryz.underlying5 (by kernel_rfl) r with ⟨hcs,_⟩ | ⟨x,l,c,zs,hcs,_,hl,hm,hz,_,Xc,hwz⟩
 ·simp [Value.cells] at hcs
  obtain ⟨rfl,rfl,rfl⟩:=hcs;exact ⟨[],by simp [maxLen],by simp,_,_,rfl,λi hi=>absurd hi (by simp)⟩
 ·simp [Value.cells] at hcs
  obtain ⟨rfl,rfl,rfl⟩:=hcs;have q:len<=zs.length:=by rw [hz];split <;> omega
  have e:(zs.take len).length=len:=by rw [List.length_take];omega
  refine ⟨zs.take len,by rw [e];omega,λy hy=>?_,some x,cap,by rw [e],λi hi=>?_⟩
  ·have:=hwz y (List.mem_of_mem_take hy)
   simpa [Lit.wf,IntKind.min,IntKind.max,IntKind.signed,IntKind.bits] using this
  ·obtain ⟨b,f,n⟩:=x
   rw [e] at hi;have k:n=none:=by simpa [Addr.add] using World.cell?_spot (Xc 0 (by omega))
   subst k;refine ⟨b,f,rfl,λj hj=>?_⟩;rw [e] at hj;have:=Xc j (by omega)
   have ea:Addr.add ⟨b,f,none⟩ j=⟨b,f+j,none⟩:=by
    unfold Addr.add;split
    ·next h=>subst h;rfl
    ·rfl
   rw [ea] at this;simpa [List.getElem?_take,hj,List.getD_eq_getElem?_getD] using this
end Go.Proofs.YtmmpoppgabadmaaGreat
