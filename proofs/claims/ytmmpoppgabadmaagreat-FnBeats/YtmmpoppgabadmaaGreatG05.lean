import Derived.Deep.DeepCutAuto
import Derived.Test.YtmmpoppgabadmaaGreatG04
set_option linter.unusedVariables false
set_option linter.unusedSimpArgs false
set_option maxRecDepth 100000
set_option maxHeartbeats 16000000
namespace Go.Proofs.YtmmpoppgabadmaaGreat
open Go.RowKit
structure BW (W:World) where
 w:World
 h:Below W.heap.size W w
theorem run_load_node {w:World}{B b:Nat}{r:Rn}{x:RV}(h:Zv w B b r x):Sem.run Tryz.prog (loadVar 36 ⟨b,0,none⟩) w=.ok (.agg (ndC r.n x)) w:=
 run_loadVar_mid w b 0 36 (ndC r.n x).toList _ h.nodeRange Tryz.underlying36 rfl (by rw [Jb];rfl)
theorem q_load {P:Program}{W:World}{o:Oper}{a:Act}{K:Act->Prop}{ad:Addr}{v:Value}(ty:TypeId)(y:Operand)(ho:o.op=.load ty y)(hy:a.eval y=.pointer (some ad))(hr:∀ u:BW W,Sem.run P (loadVar ty ad) u.w=.ok v u.w)(hk:K (a.put o.dst v)):o.quiet P a (fun w'=>∃ u:BW W,w'=u.w) K:=by
 refine ⟨v,?_,hk⟩;rintro w' ⟨u,rfl⟩;unfold Oper.quietAt execOp;simp only [ho,hy,Instr.loadAt,Instr.sureAddr,Sem.run_bind,Sem.run_pure,Result.andThen_ok,hr u];exact ⟨rfl,rfl⟩
theorem Blk.grown {w w':World}{q b:Nat}{C:Array Value}{t:TypeId}(hb:Blk w q C t)(hg:w.grownBy w' (some b))(hne:q≠b):Blk w' q C t:=by
 have e9:=hg.block q hb.lt (fun e=>hne (Option.some.inj e));unfold Blk at hb ⊢;rw [e9];exact hb
theorem ownI_one (w:World)(B:Nat)(hB:B<=w.heap.size)(y:Int):Zg inC 1 3 (w.alloc (.cells #[.int .i64 y] 3)) B (.slice (some ⟨w.heap.size,0,none⟩) 1 1) [y]:=by
 refine ⟨rfl,.inr ⟨w.heap.size,1,#[.int .i64 y],rfl,hB,?_,Nat.le_refl _,by unfold maxLen;omega,rfl,rfl⟩⟩;show (w.heap.push _)[_]? = _;simp
structure LdB (n:Nd) (N:Nat):Prop where
 nxl:n.nx.length=N
 stl:n.st.length=N
 nx:∀ J (h:J<n.nx.length),(J:Int)+1≠n.id->∃ P:Nat,P<=n.log.length/\n.nx[J]=(P:Int)+1
theorem NdB.st {n:Nd}(h:NdB n)(s:List Int):NdB { n with st:=s }:=⟨h.nw0,h.nw1,h.hd0,h.hd1,h.sz0,h.sz1,h.id0,h.id1,h.ln⟩
end Go.Proofs.YtmmpoppgabadmaaGreat
