import Derived.Test.YtmmpoppgabadmaaGreatG36
import Derived.Test.YtmmpoppgabadmaaGreatG09
set_option linter.unusedVariables false
set_option linter.unusedSimpArgs false
set_option maxRecDepth 100000
set_option maxHeartbeats 16000000
namespace Go.Proofs.YtmmpoppgabadmaaGreat
open Go.RowKit Go.Maps
section
variable {w w':World} {B b:Nat} {r:Rn} {x:CV} {ks:List Int}
end
end Go.Proofs.YtmmpoppgabadmaaGreat
namespace Go.Proofs.YtmmpoppgabadmaaGreat
open Go.RowKit Go.Maps
structure PreK (w:World) (B b:Nat) (C:Array Value) (n:Nd) (vl:Value) (g p:Nat) (gl:List Int) (f:Int->Option Nat) (ks:List Int):Prop where
 blk:Blk w b C 80
 lo:B<=b
 log:Zp w B vl n.log
 gm:IM unV w g (grF gl)
 gml:B<=g
 pm:IM ptV w p f
 pml:B<=p
 gp:g≠p
 pf:∀ y q,f y=some q->Blk w q (pgC n y) 124/\B<=q
 pi:∀ y z q,f y=some q->f z=some q->y=z
 pk:∀ y,y∈ks↔(f y).isSome=true
section
variable {w w':World} {B b:Nat} {C:Array Value} {n:Nd} {vl:Value} {g p:Nat} {gl:List Int} {f:Int->Option Nat} {ks:List Int}
theorem PreK.below (h:PreK w B b C n vl g p gl f ks)(hb:Below w.heap.size w w'):PreK w' B b C n vl g p gl f ks:=
 ⟨h.blk.keep (hb.block _ h.blk.lt),h.lo,h.log.block fun k e=>hb.block k (World.ownsRow.lt h.log.2 k e).2,h.gm.keep (hb.block _ h.gm.lt),h.gml,h.pm.keep (hb.block _ h.pm.lt),h.pml,h.gp,fun y q e=>⟨(h.pf y q e).1.keep (hb.block _ (h.pf y q e).1.lt),(h.pf y q e).2⟩,h.pi,h.pk⟩
theorem PreK.row {C':Array Value}(h:PreK w B b C n vl g p gl f ks)(hB:Blk w' b C' 80)(hk:∀ k,k≠b->w'.heap[k]? = w.heap[k]?):PreK w' B b C' n vl g p gl f ks:=by
 refine ⟨hB,h.lo,h.log.block fun k e=>hk k ?_,h.gm.keep (hk _ (h.gm.ne_blk h.blk).symm),h.gml,h.pm.keep (hk _ (h.pm.ne_blk h.blk).symm),h.pml,h.gp,fun y q e=>⟨(h.pf y q e).1.keep (hk _ ?_),(h.pf y q e).2⟩,h.pi,h.pk⟩
 ·rintro rfl
  obtain ⟨cur,s,h9⟩:=Jq h.log e;have:=X6 h9 h.blk;cases this
 ·rintro rfl
  have:=X6 (h.pf y _ e).1 h.blk;cases this
theorem grF_app (gl:List Int)(y:Int):(fun d=>if d=y then some () else grF gl d)=grF (gl ++ [y]):=by
 funext d
 unfold grF;by_cases h:d=y
 ·simp [h]
 ·simp [h]
theorem PreK.gput {y:Int}(h:PreK w B b C n vl g p gl f ks)(hg:w.grownBy w' (some g))(hp:IM unV w' g (fun d=>if d=y then some () else grF gl d)):PreK w' B b C n vl g p (gl ++ [y]) f ks:=by
 rw [grF_app] at hp;have hk2:∀ k,k<w.heap.size->k≠g->w'.heap[k]? = w.heap[k]?:=fun k hk hn=>hg.block k hk (fun e=>hn (by injection e with e))
 obtain ⟨pe,pc,hpo⟩:=h.gm.obj;refine ⟨h.blk.keep (hk2 b h.blk.lt (h.gm.ne_blk h.blk)),h.lo,h.log.block fun k e=>hk2 k (World.ownsRow.lt h.log.2 k e).2 ?_,hp,h.gml,h.pm.keep (hk2 _ h.pm.lt h.gp.symm),h.pml,h.gp,fun y q e=>⟨(h.pf y q e).1.keep (hk2 _ (h.pf y q e).1.lt (h.gm.ne_blk (h.pf y q e).1)),(h.pf y q e).2⟩,h.pi,h.pk⟩;rintro rfl;obtain ⟨cur,s,hk⟩:=Jq h.log e;exact hmap hk hpo
theorem PreK.put {w2 w3:World}{y:Int}{q:Nat}(h:PreK w B b C n vl g p gl f ks)(h2:Below w.heap.size w w2)(hq:Blk w2 q (pgC n y) 124)(hqw:w.heap.size<=q)(hBq:B<=w.heap.size)(hg:w2.grownBy w3 (some p))(hp:IM ptV w3 p (fun d=>if d=y then some q else f d))(hy:y ∉ ks) :
  PreK w3 B b C n vl g p gl (fun d=>if d=y then some q else f d) (ks ++ [y]):=by
 have hk2:∀ k,k<w.heap.size->k≠p->w3.heap[k]? = w.heap[k]?:=fun k hk hn=>(hg.block k (Nat.lt_of_lt_of_le hk h2.size) (fun e=>hn (by injection e with e))).trans (h2.block k hk)
 have hpm:=h.pm.lt;obtain ⟨pe,pc,hpo⟩:=h.pm.obj;have nb:b≠p:=h.pm.ne_blk h.blk;refine ⟨h.blk.keep (hk2 b h.blk.lt nb),h.lo,h.log.block fun k e=>hk2 k (World.ownsRow.lt h.log.2 k e).2 ?_,h.gm.keep (hk2 _ h.gm.lt h.gp),h.gml,hp,h.pml,h.gp,?_,?_,?_⟩
 ·rintro rfl
  obtain ⟨cur,s,hk⟩:=Jq h.log e;exact hmap hk hpo
 ·intro z q' e
  by_cases hz:z=y
  ·subst hz
   rw [if_pos rfl] at e;injection e with e;subst e;exact ⟨hq.keep (hg.block q hq.lt (fun e=>by injection e with e;omega)),by omega⟩
  ·rw [if_neg hz] at e
   have h9:=h.pf z q' e;exact ⟨h9.1.keep (hk2 q' h9.1.lt (h.pm.ne_blk h9.1)),h9.2⟩
 ·intro z1 z2 q' e1 e2
  by_cases h1:z1=y
  ·by_cases h3:z2=y
   ·omega
   ·rw [if_pos h1] at e1
    rw [if_neg h3] at e2;injection e1 with e1;have:=(h.pf z2 q' e2).1.lt;omega
  ·by_cases h3:z2=y
   ·rw [if_neg h1] at e1
    rw [if_pos h3] at e2;injection e2 with e2;have:=(h.pf z1 q' e1).1.lt;omega
   ·rw [if_neg h1] at e1
    rw [if_neg h3] at e2;exact h.pi z1 z2 q' e1 e2
 ·intro z
  simp only [List.mem_append,List.mem_singleton];by_cases hz:z=y
  ·simp [hz]
  ·simp only [hz,or_false,if_false]
   exact h.pk z
def rn0 (n:Nd):Rn:=⟨n,[],0,0,0⟩
theorem PreK.fin (h:PreK w B b (crC (rn0 n) ⟨vl,.slice none 0 0,[],g,p,f,0⟩) n vl g p n.gr f ks)(hk:∀ y,y∈ks↔(n.ro=3/\1<=y/\y<=n.sz/\y≠n.id))(hc:CI n):Zj w B b (rn0 n) ⟨vl,.slice none 0 0,[],g,p,f,0⟩:=
 ⟨h.blk,h.lo,h.log,h.gm,h.gml,h.pm,h.pml,h.gp,h.pf,h.pi,fun y=>(h.pk y).symm.trans (hk y),Zg.nil _ _ _ _ _,rfl,(fun p hp=>by cases hp),(by simp),hc⟩
end
end Go.Proofs.YtmmpoppgabadmaaGreat
