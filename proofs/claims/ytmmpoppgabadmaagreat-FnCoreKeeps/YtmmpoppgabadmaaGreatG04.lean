import Derived.Test.YtmmpoppgabadmaaGreatG02
set_option linter.unusedVariables false
set_option linter.unusedSimpArgs false
set_option maxRecDepth 100000
set_option maxHeartbeats 16000000
namespace Go.Proofs.YtmmpoppgabadmaaGreat
open Go.RowKit
variable {n:Nd} {a12 a13 a14 a15 a16 a17:Option Addr} {c12 c13 c14 c15 c16 c17:Nat} {w:World}
theorem nodeS_ok (m:Es w (.slice a12 n.log.length c12) n.log)(i:Ix w (.slice a13 n.gr.length c13) n.gr)(l:Ix w (.slice a14 n.nx.length c14) n.nx)(j:Ix w (.slice a15 n.mt.length c15) n.mt)(o:Ix w (.slice a16 n.se.length c16) n.se)(p:Ix w (.slice a17 n.st.length c17) n.st)(h0:Z4x n.id n.sz n.el n.bt n.tm n.vo n.ro n.ld n.cm n.nw n.dl n.hd n.log n.gr n.nx n.mt n.se n.st=0):Calls Tryz.prog 22 #[.agg (nV n a12 a13 a14 a15 a16 a17 c12 c13 c14 c15 c16 c17)] w λe w'=>e=.returned (.int .i64 0)/\Below w.heap.size w w':=by
 obtain ⟨k1,s,r,k4,k5,k6,q,k8,k9⟩:=nodeF_get h0;obtain ⟨k0,⟨s3,s7⟩,⟨d1,d2⟩,el,ah⟩:=Z3k k1;have H1:=Z0 λu=>Z1b n.id n.sz n.el n.bt u
 rw [k1] at H1;have H4:=Z0 λu (hu:Below w.heap.size w u)=>Z21 _ 1 n.tm n.log u (m.below hu) (by omega)
 have H7:=Z0 λu (hu:Below w.heap.size w u)=>grantS_ok (a12:=a12) (a14:=a14) (a15:=a15) (a16:=a16) (a17:=a17) (c12:=c12) (c14:=c14) (c15:=c15) (c16:=c16) (c17:=c17) (i.below hu) k0 k8
 have H8:=Z0 λu (hu:Below w.heap.size w u)=>listsS_ok (a12:=a12) (a13:=a13) (c12:=c12) (c13:=c13) (l.below hu) (j.below hu) (o.below hu) (p.below hu) (by omega) s7 (by omega) k9
 rw [k5] at H4;obtain ⟨f,i1,i2,i3,y,t,d,x,i8,i9,ak,ai,ag,ad,am,aj,af,ac⟩:=n;dsimp only at *;simp only [Z1z,Z2o,Xr,Bool.and_eq_true] at s r q;obtain ⟨s,al,k⟩:=s;obtain ⟨r,an,g⟩:=r;obtain ⟨q,ae,ao⟩:=q;have r3:=(Zj _ _ _).1 r;have r7:=(Zj _ _ _).1 q;have r2:=(Zj _ _ _).1 s;have ab:(d=0/\(x == f)=false)∨(d=1/\x=0/\((0:Int) == f)=false)∨(d=2/\x=0/\((0:Int) == f)=false/\0<y/\t=f)∨(d=3/\x=f/\0<y/\t=f):=by rcases (show d=0∨d=1∨d=2∨d=3 by omega) with rfl | rfl | rfl | rfl <;> simp at g ⊢ <;> omega
 have aa:(y=0/\t=0)∨(y == 0)=false:=by simp at k ⊢;omega
 rcases ab with ⟨rfl,h7⟩ | ⟨rfl,rfl,h7⟩ | ⟨rfl,rfl,h7,h4,rfl⟩ | ⟨rfl,rfl,h4,rfl⟩ <;> rcases aa with ⟨rfl,h5⟩ | h5
 all_goals try subst t
 all_goals first
  |(exfalso;omega)
  | as_aux_lemma=>
    go_enter Tryz.func22,Tryz.ntmps22
    go_wp2_with (first
     |(go_at_call 58;refine sw (H1 _) ?_)
     |(go_at_call 56;refine l1in_t (by with_reducible assumption) ?_)
     |(have z:=a;refine Zd 36 _ rfl ?_;clear z;refine Z7 rfl 36 _ rfl _ rfl a Tryz.underlying36 rfl Z5j rfl ?_)
     |(go_at_call 57;refine Calls.mono (H4 _ baq) ?_;rintro e w1 ⟨rfl,b⟩;have a:=(Blk.new w _ _).below b (by simp);have c:=Z0 (((Below.refl w.heap.size w).alloc (Nat.le_refl _) _).trans (b.mono (by simp)));have v:=a.cell;clear b)
     |(go_at_call 59;refine Calls.mono (H7 _ c) ?_;rintro e w1 ⟨rfl,b⟩;replace c:=Z0 (c.trans (b.mono c.size));replace a:=a.below b a.lt;clear v;have v:=a.cell;clear b)
     |(go_at_call 60;refine Calls.mono (H8 _ c) ?_;rintro e w1 ⟨rfl,b⟩;replace c:=Z0 (c.trans (b.mono c.size));replace a:=a.below b a.lt;clear v;have v:=a.cell;clear b))
    go_ret;exact ⟨rfl,c.out⟩
end Go.Proofs.YtmmpoppgabadmaaGreat
