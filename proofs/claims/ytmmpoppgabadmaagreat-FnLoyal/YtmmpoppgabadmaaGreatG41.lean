import Derived.Test.YtmmpoppgabadmaaGreatG30
import Derived.Test.YtmmpoppgabadmaaGreatG40
set_option linter.unusedVariables false
set_option linter.unusedSimpArgs false
set_option maxRecDepth 100000
set_option maxHeartbeats 16000000
namespace Go.Proofs.YtmmpoppgabadmaaGreat
open Go.RowKit
structure AnsN (w:World) (B:Nat) (r:Rn) (x:RV):Prop where
 log:Zv w B x.vl r.n.log
 gr:Zs inC 1 3 w B x.vg r.n.gr
 nx:Zs inC 1 3 w B x.vn r.n.nx
 mt:Zs inC 1 3 w B x.vm r.n.mt
 se:Zs inC 1 3 w B x.vs r.n.se
 st:Zs inC 1 3 w B x.vt r.n.st
 out:Zs omC 10 43 w B x.vo x.L
 outC:x.L.map (·.m)=r.out
 ents:∀ p∈x.L,Zv w B p.v p.m.es
 ap:[x.vg,x.vn,x.vm,x.vs,x.vt].Pairwise Xq
theorem AnsN.one {w:World}{B:Nat}{r:Rn}{x:RV}(h:AnsN w B r x):(saC r x).all (·.oneCell')=true:=by
 obtain ⟨a1,c1,e1⟩:=h.log.shape;obtain ⟨a2,c2,e2⟩:=h.gr.shape;obtain ⟨a3,c3,e3⟩:=h.nx.shape;obtain ⟨a4,c4,e4⟩:=h.mt.shape;obtain ⟨a5,c5,e5⟩:=h.se.shape;obtain ⟨a6,c6,e6⟩:=h.st.shape;obtain ⟨a7,c7,e7⟩:=h.out.shape;unfold saC;rw [e1,e2,e3,e4,e5,e6,e7];simp [Value.oneCell']
theorem AnsN.le {w:World}{B B':Nat}{r:Rn}{x:RV}(h:AnsN w B r x)(hB:B'<=B):AnsN w B' r x:=
 ⟨h.log.le hB,h.gr.le hB,h.nx.le hB,h.mt.le hB,h.se.le hB,h.st.le hB,h.out.le hB,h.outC,fun p hp=>(h.ents p hp).le hB,h.ap⟩
def rn9:Rn:=⟨⟨0,0,0,0,0,0,0,0,0,0,0,0,[],[],[],[],[],[]⟩,[],9,0,0⟩
def rv9:RV:=⟨.slice none 0 0,.slice none 0 0,.slice none 0 0,.slice none 0 0,.slice none 0 0,.slice none 0 0,.slice none 0 0,[]⟩
theorem Z0l (v:Value):Xq (.slice none 0 0) v:=fun k h=>by cases h
theorem ans9 (w:World)(B:Nat):AnsN w B rn9 rv9:=by
 refine ⟨⟨(fun e h=>by cases h),World.ownsRow_nil w B _ _⟩,Zs.nil _ _ _ _ _,Zs.nil _ _ _ _ _,Zs.nil _ _ _ _ _,Zs.nil _ _ _ _ _,Zs.nil _ _ _ _ _,Zs.nil _ _ _ _ _,rfl,(fun p h=>by cases h),?_⟩;simp only [rv9,List.pairwise_cons,List.mem_cons,List.not_mem_nil,or_false,forall_eq_or_imp,forall_eq,List.Pairwise.nil,and_true,false_imp_iff,implies_true];exact ⟨⟨Z0l _,Z0l _,Z0l _,Z0l _⟩,⟨Z0l _,Z0l _,Z0l _⟩,⟨Z0l _,Z0l _⟩,Z0l _⟩
def Z13 (n:Nd)(dr ki:Int)(m:Mg)(cl sq op:Int)(k v o:ByteArray):Rn:=if Xt n=0 then stepP n dr ki m cl sq op k v o else rn9
theorem Z1m:(Tryz.prog.info? 39).map (·.size)=some 21:=by kernel_rfl
theorem sizeInA:(Tryz.prog.info? 46).map (·.size)=some 18:=by kernel_rfl
end Go.Proofs.YtmmpoppgabadmaaGreat
