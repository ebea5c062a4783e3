import Derived.Test.YtmmpoppgabadmaaGreatG34
import Derived.BigQuiet
import Derived.Test.YtmmpoppgabadmaaGreatG32
set_option linter.unusedVariables false
set_option linter.unusedSimpArgs false
set_option maxRecDepth 100000
set_option maxHeartbeats 16000000
open Go.Value renaming slice → I,int → Aa,pointer → Ae,agg → Aw
open Go.IntKind renaming i64 → O
open _root_.Option renaming none → Ab,some → Ac
open Go.Proofs.Tryz renaming prog → Ad
open Go renaming Value → Af,World → Ag,Calls → Ar,wp_seq_k → A0,Act → Bn,wp_skip → Bz,Exit → Ca,wp_block → Cd
open Go.RowKit renaming Below → Ai
open Go.Ending renaming returned → Aj
open Go.RowKit.Below renaming refl → An
open _root_.Nat renaming le_refl → Ao,zero_le → Bb,lt_or_ge → B1
open Go.World.ownsRow renaming lt → Aq
open Go.Obj renaming cells → At
open Go.Operand renaming tmp → Ay
open Go.Act renaming eval → Bi
open _root_.List renaming length_map → B8,getElem?_map → Cb
namespace Go.Proofs.YtmmpoppgabadmaaGreat
open Go.Proofs.Tryz
open Go.RowKit
section
variable {w:Ag}
theorem wpl_load_midG {P:Program}{c:Array Oper}{rest:List Oper}{op:Oper}{a:Bn}{Q:Ca->Bn->Ag->Prop}{gj:Nat}{gb:Bool}(e:op.guard=Ac (gj,gb))(k:yielded c a.tmps gj=Ac gb)(ty:TypeId)(x:Operand)(j:op.op=.load ty x)
  (b o:Nat) (g:a.eval x=Ae (Ac ⟨b,o,Ab⟩)) (cs:List Af) (d:TypeDesc) (i:w.rangeAt b o cs) (f:P.underlying ty=Ac d) (hd:d.isRow=true) (hi:(P.info? ty).map (·.size)=Ac cs.length)
  (h:wpList P c Q rest (a.put op.dst (Aw cs.toArray)) w):wpList P c Q (op :: rest) a w:=
 wpList_step λK hK=>by
  simp only [Region.wanted,e,k,beq_self_eq_true,if_true];exact wp_load_mid ty x j b o g cs d i f hd hi (hK _ _ h)
structure LyS (w0 w:Ag) (b3 b4:Nat) (n:Nd) (x:RV) (m:Mg):Prop where
 bl:Ai w0.heap.size w0 w
 nb:Blk w b3 (ndC n x) 36
 own:NdO w w0.heap.size n x
 mb:Blk w b4 (msV m (I Ab 0 0)) 43
variable {w0 w':Ag}{b3 b4:Nat}{n:Nd}{x:RV}{m:Mg}
theorem LyS.below (h:LyS w0 w b3 b4 n x m)(a:Ai w.heap.size w w'):LyS w0 w' b3 b4 n x m:=
 ⟨h.bl.trans (a.mono h.bl.size),h.nb.below a h.nb.lt,h.own.keep λq _ h2=>a.block q h2,h.mb.below a h.mb.lt⟩
structure LyG (w0 w:Ag) (b3 b4 b7:Nat) (n:Nd) (x:RV) (m:Mg) (R:Rn) (X:RV):Prop where
 s:LyS w0 w b3 b4 n x m
 gb:Blk w b7 (saC R X) 39
 ans:J0 w w0.heap.size R X
variable {b7:Nat}{X:RV}{R:Rn}
theorem LyG.below (h:LyG w0 w b3 b4 b7 n x m R X)(c:Ai w.heap.size w w'):LyG w0 w' b3 b4 b7 n x m R X:=by
 have b:∀ {α:Type} {cs:α->List Af} {m:Nat} {T:TypeId} {v:Af} {l:List α},Zc cs m T w w0.heap.size v l->Zc cs m T w' w0.heap.size v l:=λho=>ho.block λk e=>c.block k (ho.lts k e).2
 have d:∀ {v:Af} {l:List Ent},Zh w w0.heap.size v l->Zh w' w0.heap.size v l:=λho=>ho.block λk e=>c.block k (Aq ho.2 k e).2
 have a:=h.ans;exact ⟨h.s.below c,h.gb.below c h.gb.lt,d a.log,b a.gr,b a.nx,b a.mt,b a.se,b a.st,b a.out,a.outC,λp hp=>d (a.ents p hp),a.ap⟩
theorem LyG.msg (h:LyG w0 w b3 b4 b7 n x m R X){o:Mg}(l:R.out = [o]):∃ a f,X.vo=I (Ac ⟨a,0,Ab⟩) 1 f/\w.cell? ⟨a,0,Ab⟩=Ac (Aa O o.ki)/\w.cell? ⟨a,2,Ab⟩=Ac (Aa O o.td):=by
 have e:=h.ans.outC;rw [l] at e;have c:X.L.length=1:=by have:=congrArg List.length e;simpa using this
 obtain ⟨p,k⟩:∃ p,X.L = [p]:=List.length_eq_one_iff.1 c;have d:=h.ans.out;rw [k] at d e;have b:p.m=o:=by simpa using e
 obtain ⟨a,f,j⟩:=d.shape' (by simp);rw [j] at d
 have i:∀ t,t<10->w.cell? ⟨a,0*10+t,Ab⟩=(omC p)[t]?:=λt ht=>by
  rw [World.ownsRow.cellAt d (0*10+t) (by simp;omega),gC_get omLaw.len [p] 0 (by simp) t ht];rfl
 refine ⟨a,f,j,?_,?_⟩
 ·have g:=i 0 (by omega)
  rw [<-b];exact g
 ·have g:=i 2 (by omega)
  rw [<-b];exact g
end
section
theorem Z2s (t:Nat->Af):lst t 0 117 = [t 0,t 1,t 2,t 3,t 4,t 5,t 6,t 7,t 8,t 9,t 10,t 11,t 12,t 13,t 14,t 15,t 16,t 17,t 18,t 19,t 20,t 21,t 22,t 23,t 24,t 25,t 26,t 27,t 28,t 29,t 30,t 31,t 32,t 33,t 34,t 35,t 36,t 37,t 38,t 39,t 40,t 41,t 42,t 43,t 44,t 45,t 46,t 47,t 48,t 49,t 50,t 51,t 52,t 53,t 54,t 55,t 56,t 57,t 58,t 59,t 60,t 61,t 62,t 63,t 64,t 65,t 66,t 67,t 68,t 69,t 70,t 71,t 72,t 73,t 74,t 75,t 76,t 77,t 78,t 79,t 80,t 81,t 82,t 83,t 84,t 85,t 86,t 87,t 88,t 89,t 90,t 91,t 92,t 93,t 94,t 95,t 96,t 97,t 98,t 99,t 100,t 101,t 102,t 103,t 104,t 105,t 106,t 107,t 108,t 109,t 110,t 111,t 112,t 113,t 114,t 115,t 116]:=rfl
variable {n m:Nd}{x y:RV}{v2:Af}{Q:Ca->Bn->Ag->Prop}{K:Bn->Ag->Prop}{a:Bn}{w:Ag}
theorem kp0 {B C:Nat}(k:SzD a 117)(s:Tv a 0=Aw (ndC n x))(i:Tv a 1=Aw (ndC m y))(g:Tv a 2=v2)(b:NdO w B n x)(c:NdO w C m y)(o:∀ a' w',SzD a' 117->Tv a' 2=v2->Tv a' 3=Ae (Ac ⟨w.heap.size,0,Ab⟩)->Tv a' 4=Ae (Ac ⟨w.heap.size+1,0,Ab⟩)->w'=(w.alloc (At (ndC n x) 36)).alloc (At (ndC m y) 36)->K a' w'):(Z2 0 (Z3 f27)).wp Ad (Exit.then K Q) a w:=by
 obtain ⟨t,rfl⟩:=k.opened;clear k;rw [Z2s]
 try dsimp only
 rw [show t 0=_ from s,show t 1=_ from i,show t 2=_ from g];clear s i g;obtain ⟨a0,p0,e0⟩:=b.log.shape;obtain ⟨q0,r0,p⟩:=c.log.shape;obtain ⟨a1,u,q⟩:=b.gr.shape;obtain ⟨q1,r1,d⟩:=c.gr.shape;obtain ⟨a2,p2,e2⟩:=b.nx.shape;obtain ⟨q2,r2,l⟩:=c.nx.shape;obtain ⟨a3,p3,e3⟩:=b.mt.shape;obtain ⟨v,r3,f⟩:=c.mt.shape;obtain ⟨a4,p4,e4⟩:=b.se.shape;obtain ⟨q4,r4,r⟩:=c.se.shape;obtain ⟨a5,p5,e5⟩:=b.st.shape;obtain ⟨q5,z,e⟩:=c.st.shape;have j:ndC n x=(n.arrC (I a0 n.log.length p0) (I a1 n.gr.length u) (I a2 n.nx.length p2) (I a3 n.mt.length p3) (I a4 n.se.length p4) (I a5 n.st.length p5)):=by unfold ndC;rw [e0,q,e2,e3,e4,e5]
 have h:ndC m y=(m.arrC (I q0 m.log.length r0) (I q1 m.gr.length r1) (I q2 m.nx.length r2) (I v m.mt.length r3) (I q4 m.se.length r4) (I q5 m.st.length z)):=by unfold ndC;rw [p,d,l,f,r,e]
 rw [j,h] at o ⊢;clear j h b c e0 p q d e2 l e3 f e4 r e5 e
 conv=>arg 2;whnf
 go_wp2_with fail
 exact o _ _ ⟨rfl,rfl⟩ rfl rfl rfl rfl
variable {b3 b4:Nat}
theorem kp1 (hF:SzD a 117)(h2:Tv a 2=v2)(h3:Tv a 3=Ae (Ac ⟨b3,0,Ab⟩))(h4:Tv a 4=Ae (Ac ⟨b4,0,Ab⟩))(d:Blk w b3 (ndC n x) 36)(c:Blk w b4 (ndC m y) 36)(s:m.id=n.id)(v:m.sz=n.sz)(ad:n.tm<=m.tm)(af:n.cm<=m.cm)(HN:Hid (Ar Ad 22 #[Aw (ndC m y)] w λr w'=>r=Aj (Aa O 0)/\Ai w.heap.size w w'))(hP:∀ a' w',SzD a' 117->Tv a' 2=v2->Tv a' 3=Ae (Ac ⟨b3,0,Ab⟩)->Tv a' 4=Ae (Ac ⟨b4,0,Ab⟩)->Tv a' 38=.bool false->Ai w.heap.size w w'->K a' w'):(Z2 0 (Z2 1 (Z3 f27))).wp Ad (Exit.then K Q) a w:=by
 obtain ⟨t,rfl⟩:=hF.opened;clear hF;rw [Z2s]
 try dsimp only
 rw [show t 2=_ from h2,show t 3=_ from h3,show t 4=_ from h4];clear h2 h3 h4;have ae:=Z0 c;obtain ⟨u0,h⟩:=exq (n.id);have u:=h.trans s.symm;have q:Hid (w.cell? ⟨b3,0,Ab⟩=Ac (Aa O u0)/\b3<w.heap.size):=⟨h▸d.cell 0,d.lt⟩;have ac:Hid (w.cell? ⟨b4,0,Ab⟩=Ac (Aa O u0)/\b4<w.heap.size):=⟨u▸c.cell 0,c.lt⟩
 obtain ⟨u1,e⟩:=exq (n.sz);have z:=e.trans v.symm;have o:Hid (w.cell? ⟨b3,1,Ab⟩=Ac (Aa O u1)/\b3<w.heap.size):=⟨e▸d.cell 1,d.lt⟩;have ab:Hid (w.cell? ⟨b4,1,Ab⟩=Ac (Aa O u1)/\b4<w.heap.size):=⟨z▸c.cell 1,c.lt⟩
 obtain ⟨u4,j⟩:=exq (n.tm);obtain ⟨v4,i⟩:=exq (m.tm);have k:Hid (w.cell? ⟨b3,4,Ab⟩=Ac (Aa O u4)/\b3<w.heap.size):=⟨j▸d.cell 4,d.lt⟩;have l:Hid (w.cell? ⟨b4,4,Ab⟩=Ac (Aa O v4)/\b4<w.heap.size):=⟨i▸c.cell 4,c.lt⟩;have s4:¬ v4<u4:=by rw [j,i];omega
 obtain ⟨u8,g⟩:=exq (n.cm);obtain ⟨v8,f⟩:=exq (m.cm);have aa:Hid (w.cell? ⟨b3,8,Ab⟩=Ac (Aa O u8)/\b3<w.heap.size):=⟨g▸d.cell 8,d.lt⟩;have p:Hid (w.cell? ⟨b4,8,Ab⟩=Ac (Aa O v8)/\b4<w.heap.size):=⟨f▸c.cell 8,c.lt⟩;have s8:¬ v8<u8:=by rw [g,f];omega
 clear d c s v ad af h u e z j i g f;have G1:=Z0 trivial
 conv=>arg 2;whnf
 go_wp2_with (first
  |(have ah:=G1;refine Zd 36 _ rfl ?_;clear ah;refine Z7 rfl 36 _ rfl b4 rfl ae underlying36 rfl Y1 rfl ?_;clear G1)
  |(go_at_call 22;refine HN.mono ?_;rintro r w2 ⟨rfl,b⟩;have ag:=Z0 b;have k0:=(b.cell q.2).trans q.1;have q0:=(b.cell ac.2).trans ac.1;have k1:=(b.cell o.2).trans o.1;have q1:=(b.cell ab.2).trans ab.1;have k4:=(b.cell k.2).trans k.1;have q4:=(b.cell l.2).trans l.1;have k8:=(b.cell aa.2).trans aa.1;have q8:=(b.cell p.2).trans p.1;clear b))
 exact hP _ _ ⟨rfl,rfl⟩ rfl rfl rfl (by simp [Bi] <;> omega) ag
variable {a1 a2:Option Addr}{c1 c2:Nat}
theorem kp3 (i:SzD a 117)(b:Tv a 2=v2)(h:Tv a 3=Ae (Ac ⟨b3,0,Ab⟩))(d:Tv a 4=Ae (Ac ⟨b4,0,Ab⟩))(c:Blk w b3 (ndC n x) 36)(f:Blk w b4 (ndC m y) 36)(g:x.vl=I a1 n.log.length c1)(b:y.vl=I a2 m.log.length c2)(p:Hid (∀ k:Nat,Ar Ad 74 #[I a1 n.log.length c1,I a2 m.log.length c2] (w.drewN k) λe w'=>e=Aj (Aa O (Z2h n.log m.log:Nat))/\∃ j,w'=(w.drewN k).drewN j))(l:n.cm<=(Z2h n.log m.log:Nat))(o:∀ a' w',SzD a' 117->Tv a' 2=v2->Tv a' 3=Ae (Ac ⟨b3,0,Ab⟩)->Tv a' 4=Ae (Ac ⟨b4,0,Ab⟩)->Tv a' 46=.bool false->Ai w.heap.size w w'->K a' w'):(Z2 0 (Z2 2 (Z3 f27))).wp Ad (Exit.then K Q) a w:=by
 obtain ⟨t,rfl⟩:=i.opened;clear i;rw [Z2s]
 try dsimp only
 rw [show t 2=_ from b,show t 3=_ from h,show t 4=_ from d];clear b h d;have l1:w.cell? ⟨b3,12,Ab⟩=Ac (I a1 n.log.length c1):=g▸c.cell 12
 have r:w.cell? ⟨b4,12,Ab⟩=Ac (I a2 m.log.length c2):=b▸f.cell 12
 have l3:w.cell? ⟨b3,8,Ab⟩=Ac (Aa O n.cm):=c.cell 8;clear c f g b;have q:¬((Z2h n.log m.log:Nat):Int)<n.cm:=by omega
 clear l;generalize n.cm=u8 at *;generalize Z2h n.log m.log=K1 at *;generalize n.log.length=z1 at *;generalize m.log.length=z2 at *
 conv=>arg 2;whnf
 try dsimp only
 go_quiet ((go_at_call 74;exact Calls.quiet_of (p _)))
 exact o _ _ ⟨rfl,rfl⟩ rfl rfl rfl (by simp [Bi] <;> omega) bdr
theorem kp5 (k:SzD a 117)(j:Tv a 2=v2)(l:Tv a 3=Ae (Ac ⟨b3,0,Ab⟩))(i:Tv a 4=Ae (Ac ⟨b4,0,Ab⟩))(g:Blk w b3 (ndC n x) 36)(f:Blk w b4 (ndC m y) 36)(c:n.tm=m.tm->n.vo≠0->m.vo=n.vo)(h:∀ a' w',SzD a' 117->Tv a' 2=v2->Tv a' 3=Ae (Ac ⟨b3,0,Ab⟩)->Tv a' 4=Ae (Ac ⟨b4,0,Ab⟩)->Tv a' 63=.bool false->w'=w->K a' w'):(Z2 0 (Z2 3 (Z3 f27))).wp Ad (Exit.then K Q) a w:=by
 obtain ⟨t,rfl⟩:=k.opened;clear k;rw [Z2s]
 try dsimp only
 rw [show t 2=_ from j,show t 3=_ from l,show t 4=_ from i];clear j l i;have l1:w.cell? ⟨b3,4,Ab⟩=Ac (Aa O n.tm):=g.cell 4;have p:w.cell? ⟨b4,4,Ab⟩=Ac (Aa O m.tm):=f.cell 4;have l3:w.cell? ⟨b3,5,Ab⟩=Ac (Aa O n.vo):=g.cell 5;have l4:w.cell? ⟨b4,5,Ab⟩=Ac (Aa O m.vo):=f.cell 5;clear g f;generalize n.tm=u4 at *;generalize m.tm=v4 at *;generalize n.vo=u5 at *;generalize m.vo=v5 at *
 conv=>arg 2;whnf
 by_cases g1:u4=v4
 ·have e:(u4 == v4)=true:=by simpa using g1
  by_cases b:u5=0
  ·have d:(u5 != 0)=false:=by simpa using b
   clear c g1 b
   go_wp2_with fail
   exact h _ _ ⟨rfl,rfl⟩ rfl rfl rfl (by simp [Bi]) rfl
  ·have d:(u5 != 0)=true:=by simpa using b
   obtain rfl:v5=u5:=c g1 b
   clear c g1 b
   go_wp2_with fail
   exact h _ _ ⟨rfl,rfl⟩ rfl rfl rfl (by simp [Bi]) rfl
 ·have e:(u4 == v4)=false:=by simpa using g1
  clear c g1
  go_wp2_with fail
  exact h _ _ ⟨rfl,rfl⟩ rfl rfl rfl (by simp [Bi]) rfl
theorem kp7 (r:SzD a 117)(b:Tv a 2=v2)(s:Tv a 3=Ae (Ac ⟨b3,0,Ab⟩))(p:Tv a 4=Ae (Ac ⟨b4,0,Ab⟩))(d:Blk w b3 (ndC n x) 36)(l:Blk w b4 (ndC m y) 36)(q:x.vl=I a1 n.log.length c1)(b:y.vl=I a2 m.log.length c2)(i:Hid (∀ k:Nat,Ar Ad 74 #[I a1 n.log.length c1,I a2 m.log.length c2] (w.drewN k) λe w'=>e=Aj (Aa O (Z2h n.log m.log:Nat))/\∃ j,w'=(w.drewN k).drewN j))(f:n.tm=m.tm->n.ro=3->Z2h n.log m.log=n.log.length)(o:∀ a' w',SzD a' 117->Tv a' 2=v2->Tv a' 3=Ae (Ac ⟨b3,0,Ab⟩)->Tv a' 4=Ae (Ac ⟨b4,0,Ab⟩)->Tv a' 84=.bool false->Ai w.heap.size w w'->K a' w'):(Z2 0 (Z2 4 (Z3 f27))).wp Ad (Exit.then K Q) a w:=by
 obtain ⟨t,rfl⟩:=r.opened;clear r;rw [Z2s]
 try dsimp only
 rw [show t 2=_ from b,show t 3=_ from s,show t 4=_ from p];clear b s p;have l1:w.cell? ⟨b3,12,Ab⟩=Ac (I a1 n.log.length c1):=q▸d.cell 12
 have z:w.cell? ⟨b4,12,Ab⟩=Ac (I a2 m.log.length c2):=b▸l.cell 12
 have l3:w.cell? ⟨b3,4,Ab⟩=Ac (Aa O n.tm):=d.cell 4;have l4:w.cell? ⟨b4,4,Ab⟩=Ac (Aa O m.tm):=l.cell 4;have l5:w.cell? ⟨b3,6,Ab⟩=Ac (Aa O n.ro):=d.cell 6;clear d l q b;generalize n.tm=u4 at *;generalize m.tm=v4 at *;generalize n.ro=u6 at *;generalize Z2h n.log m.log=K1 at *;generalize n.log.length=z1 at *;generalize m.log.length=z2 at *
 conv=>arg 2;whnf
 try dsimp only
 by_cases g1:u4=v4
 ·have h:(u4 == v4)=true:=by simpa using g1
  by_cases c:u6=3
  ·have g:(u6 == 3)=true:=by simpa using c
   have u:¬(K1:Int)<(z1:Int):=by have:=f g1 c;omega
   clear f g1 c;go_quiet ((go_at_call 74;exact Calls.quiet_of (i _)))
   exact o _ _ ⟨rfl,rfl⟩ rfl rfl rfl (by simp [Bi] <;> omega) bdr
  ·have g:(u6 == 3)=false:=by simpa using c
   clear f g1 c;go_quiet ((go_at_call 74;exact Calls.quiet_of (i _)))
   exact o _ _ ⟨rfl,rfl⟩ rfl rfl rfl (by simp [Bi] <;> omega) bdr
 ·have h:(u4 == v4)=false:=by simpa using g1
  clear f g1;go_quiet ((go_at_call 74;exact Calls.quiet_of (i _)))
  exact o _ _ ⟨rfl,rfl⟩ rfl rfl rfl (by simp [Bi] <;> omega) bdr
end
section
variable {oa:Option Addr}{N oc b3:Nat}{Q:Ca->Bn->Ag->Prop}{K:Bn->Ag->Prop}{a:Bn}{w:Ag}
theorem kp9 (d:SzD a 117)(b:Tv a 2=I oa N oc)(c:Tv a 3=Ae (Ac ⟨b3,0,Ab⟩))(e:∀ a' w',SzD a' 117->Tv a' 2=I oa N oc->Tv a' 3=Ae (Ac ⟨b3,0,Ab⟩)->Tv a' 7=Aa O ((0:Nat):Int)->w'=w->K a' w'):(Z2 0 (Z2 5 (Z3 f27))).wp Ad (Exit.then K Q) a w:=by
 obtain ⟨t,rfl⟩:=d.opened;clear d;rw [Z2s]
 try dsimp only
 rw [show t 2=_ from b,show t 3=_ from c];clear b c
 conv=>arg 2;whnf
 go_wp2_with fail
 exact e _ _ ⟨rfl,rfl⟩ rfl rfl rfl rfl
variable {i:Nat}
theorem kp10 (e:SzD a 117)(b:Tv a 2=I oa N oc)(c:Tv a 3=Ae (Ac ⟨b3,0,Ab⟩))(d:Tv a 7=Aa O (i:Int))(f:∀ a' w',SzD a' 117->Tv a' 2=I oa N oc->Tv a' 3=Ae (Ac ⟨b3,0,Ab⟩)->Tv a' 7=Aa O (i:Int)->Tv a' 88=.bool (decide (i<N))->w'=w->K a' w'):(Z2 0 (Z2 0 (Zp (Zb (Z1 1 (Z2 5 (Z3 f27))))))).wp Ad (Exit.then K Q) a w:=by
 obtain ⟨t,rfl⟩:=e.opened;clear e;rw [Z2s]
 try dsimp only
 rw [show t 2=_ from b,show t 3=_ from c,show t 7=_ from d];clear b c d
 conv=>arg 2;whnf
 go_wp2_with fail
 exact f _ _ ⟨rfl,rfl⟩ rfl rfl rfl (by simp [Bi]) rfl
theorem kp11 (hi:i<=1048576)(e:SzD a 117)(b:Tv a 2=I oa N oc)(c:Tv a 3=Ae (Ac ⟨b3,0,Ab⟩))(d:Tv a 7=Aa O (i:Int))(f:∀ a' w',SzD a' 117->Tv a' 2=I oa N oc->Tv a' 3=Ae (Ac ⟨b3,0,Ab⟩)->Tv a' 7=Aa O ((i+1:Nat):Int)->w'=w->K a' w'):(Z1 2 (Zp (Zb (Z1 1 (Z2 5 (Z3 f27)))))).wp Ad (Exit.then K Q) a w:=by
 obtain ⟨t,rfl⟩:=e.opened;clear e;rw [Z2s]
 try dsimp only
 rw [show t 2=_ from b,show t 3=_ from c,show t 7=_ from d];clear b c d;have g:IntKind.i64.wrap ((i:Int)+1)=(i:Int)+1:=wry
 conv=>arg 2;whnf
 go_wp2_with fail
 exact f _ _ ⟨rfl,rfl⟩ rfl rfl (by simp [Bi]) rfl
theorem kp12 {n:Nd}{x:RV}{p:Om}{d of:Nat}(hi:i<N)(hN:N<=1048576)(f:p.m.fr=n.id)(l:p.m.td<=n.sz)(v:SzD a 117)(s:Tv a 2=I (Ac ⟨d,of,Ab⟩) N oc)(y:Tv a 3=Ae (Ac ⟨b3,0,Ab⟩))(q:Tv a 7=Aa O (i:Int))(g:Blk w b3 (ndC n x) 36)(j:w.rangeAt d (of+i*10) (omC p))(HM:Hid (∀ z,Ai w.heap.size w z->Ar Ad 21 #[Aw (omC p).toArray] z λr w'=>r=Aj (Aa O 0)/\Ai z.heap.size z w'))(hP:∀ a' w',SzD a' 117->Tv a' 2=I (Ac ⟨d,of,Ab⟩) N oc->Tv a' 3=Ae (Ac ⟨b3,0,Ab⟩)->Tv a' 7=Aa O (i:Int)->Tv a' 116=.bool false->Ai w.heap.size w w'->K a' w'):(Z2 0 (Zb (Z2 1 (Zp (Zb (Z1 1 (Z2 5 (Z3 f27)))))))).wp Ad (Exit.then K Q) a w:=by
 obtain ⟨t,rfl⟩:=v.opened;clear v;rw [Z2s]
 try dsimp only
 rw [show t 2=_ from s,show t 3=_ from y,show t 7=_ from q];clear s y q;have p0:∀ u:BW w,u.w.cell? ⟨b3,0,Ab⟩=Ac (Aa O n.id):=λu=>(g.below u.h g.lt).cell 0
 have p1:∀ u:BW w,u.w.cell? ⟨b3,1,Ab⟩=Ac (Aa O n.sz):=λu=>(g.below u.h g.lt).cell 1
 have r1:∀ u:BW w,u.w.cell? ⟨d,of+i*10+1,Ab⟩=Ac (Aa O n.id):=λu=>by have o:=Z01 j u.h 1 (Aa O p.m.fr) rfl;rw [f] at o;exact o
 have r2:∀ u:BW w,u.w.cell? ⟨d,of+i*10+2,Ab⟩=Ac (Aa O p.m.td):=λu=>Z01 j u.h 2 (Aa O p.m.td) rfl
 have qm:∀ u:BW w,Sem.run Ad (loadVar 43 ⟨d,of+i*10,Ab⟩) u.w=.ok (Aw (omC p).toArray) u.w:=λu=>run_loadVar_mid u.w d (of+i*10) 43 (omC p) _ (Z01 j u.h) underlying43 rfl Yc
 have ab:Nonempty (BW w):=⟨⟨w,An _ _⟩⟩
 have s1:¬ n.sz<p.m.td:=by omega
 have ac:(i:Int)<(N:Int):=by omega
 clear g j f l;generalize n.id=zi at *;generalize n.sz=zs at *;generalize p.m.td=zt at *;generalize (omC p).toArray=MC at *
 conv=>arg 2;whnf
 refine rqx ?_
 repeat (first | (go_big_quiet_want;refine Jp (W:=w) 43 _ rfl rfl qm ?_;go_big_quiet_on;simp only [Act.put,List.setIfInBounds_toArray,List.set_cons_zero,List.set_cons_succ]) | go_big_quiet_step ((go_at_call 21;exact bwx (HM _ (BW.h _)))))
 refine wpQuiet_nil ?_;intro w5 c;exact hP _ _ ⟨rfl,rfl⟩ rfl rfl rfl (by simp [Bi] <;> omega) c
end
section
theorem nodeFault_k (n:Nd)(x:RV)(B:Nat)(w:Ag)(d:NdO w B n x)(b:Yb n=0):Ar Ad 22 #[Aw (ndC n x)] w λr w'=>r=Aj (Aa O (Yb n))/\Ai w.heap.size w w':=by
 obtain ⟨z1,z2,k,p,o,z⟩:=Z06 n b;obtain ⟨t,s,e,i,a5,g,j,l,v,u,q,f,c,e2,e3,e4,e5,e6,h⟩:=d.laid b;unfold ndC;rw [c,e2,e3,e4,e5,e6];rw [show Yb n=0 from b];exact nodeS_ok h.log h.gr h.nx h.mt h.se h.st b
theorem comK_ge:∀(k:Nat) (l l':List Ent),k<=l.length->l'.take k=l.take k->k<=Z2h l l'
 | 0,_,_,_,_=>Bb _
 | k+1,[],_,h,_=>by simp at h
 | k+1,a :: l,[],_,h=>by simp at h
 | k+1,a :: l,b :: l',h1,h2=>by
  rw [List.take_succ_cons,List.take_succ_cons] at h2;obtain ⟨d,c⟩:=List.cons.inj h2;rw [Z2h,if_pos ((entEqB_eq _ _).2 d.symm)];have:=comK_ge k l l' (by simpa using h1) c;omega
structure KS (w0 w:Ag) (b3 b4:Nat) (n m:Nd) (x y:RV):Prop where
 bl:Ai w0.heap.size w0 w
 a:Blk w b3 (ndC n x) 36
 b:Blk w b4 (ndC m y) 36
variable {w0 w:Ag}{b3 b4:Nat}{n m:Nd}{x y:RV}
theorem KS.below {w':Ag}(h:KS w0 w b3 b4 n m x y)(c:Ai w.heap.size w w'):KS w0 w' b3 b4 n m x y:=
 ⟨h.bl.trans (c.mono h.bl.size),h.a.below c h.a.lt,h.b.below c h.b.lt⟩
variable {Q:Ca->Bn->Ag->Prop}{K:Bn->Ag->Prop}{a:Bn}
theorem kp14 (b:SzD a 117)(c:∀ a' w',SzD a' 117->Tv a' 6=.bool true->w'=w->K a' w'):(Z2 6 (Z3 f27)).wp Ad (Exit.then K Q) a w:=by
 obtain ⟨t,rfl⟩:=b.opened;clear b;rw [Z2s]
 try dsimp only
 conv=>arg 2;whnf
 go_wp2_with fail
 exact c _ _ ⟨rfl,rfl⟩ rfl rfl
theorem kpLoop {D s:Nat}{e:Option Addr}{L:List Om}(hS:KS w0 w b3 b4 n m x y)(hO:Zc omC 10 43 w D (I e L.length s) L)(hE:∀ p∈L,Zh w D p.v p.m.es)(hL:L.length<=1000)(d:∀ p∈L,p.m.es.length<=4096)(h:∀ p∈L,MsOk n.id n.sz p.m)
  (f0:SzD a 117) (e2:Tv a 2=I e L.length s) (e3:Tv a 3=Ae (Ac ⟨b3,0,Ab⟩)) (e7:Tv a 7=Aa O ((0:Nat):Int)) (hP:∀ a' w',SzD a' 117->KS w0 w' b3 b4 n m x y->K a' w'):(Z1 1 (Z2 5 (Z3 f27))).wp Ad (Exit.then K Q) a w:=by
 rw [show Z1 1 (Z2 5 (Z3 f27))=.block 0 (.loop (Zp (Zb (Z1 1 (Z2 5 (Z3 f27)))))) from rfl];refine Cd ?_;refine wp_loop (λa' w'=>∃ i:Nat,i<=L.length/\SzD a' 117/\Tv a' 2=I e L.length s/\Tv a' 3=Ae (Ac ⟨b3,0,Ab⟩)/\Tv a' 7=Aa O (i:Int)/\Ai w.heap.size w w') (λa _=>L.length+1-(RowKit.intOf (Tv a 7)).toNat) ⟨0,Bb _,f0,e2,e3,e7,An _ _⟩ ?_;rintro a1 w1 ⟨i,hi,f1,g2,g3,g7,c⟩;refine sqf (λx=>.seq (.block 1 (Zb (Z2 1 x))) (Z1 2 x)) ?_;intro K1 j;refine sqf (λx=>.cond (Ay 88) .skip (.exit 0)) ?_;intro K2 r;refine kp10 f1 g2 g3 g7 λa2 w2 f2 i2 i3 i7 u2 q2=>r _ _ ?_
 subst q2;rcases B1 i L.length with hlt | hge
 ·refine wp_cond_true (u2.trans (by rw [decide_eq_true hlt])) (Bz (j _ _ ?_))
  refine A0 ?_;intro K3 k;refine Cd ?_;obtain ⟨_,q,aa,hv,hr⟩:=hO.sl omLaw (by unfold maxLen;omega);obtain ⟨ob,of,u,o⟩:=hr i hlt;have hR:=Z01 (o i hlt) c
  have b:e=Ac ⟨ob,of,Ab⟩:=by
   have f:e=q:=by injection hv
   rw [f];exact u
  have g:=List.getElem_mem hlt;obtain ⟨m1,m2,m3⟩:=h _ g;have t:=(hE _ g).es (by have:=d _ g;unfold maxLen;omega);rw [b] at i2;refine sqc ?_;intro K4 l;refine kp12 (p:=L[i]) hlt (by omega) m2 m3 f2 i2 i3 i7 (hS.below c).a hR (λz hz=>?_) λa3 w3 f3 j2 j3 j7 u3 hb3=>l _ _ ?_
  ·have f:=Z35 L[i].m.ki L[i].m.fr L[i].m.td L[i].m.tm L[i].m.li L[i].m.lt L[i].m.cm L[i].m.ok L[i].m.hi L[i].v L[i].m.es z (t.below (c.trans (hz.mono c.size))) (by have:=d _ g;omega)
   rw [show Jr L[i].m.ki L[i].m.fr L[i].m.td L[i].m.tm L[i].m.li L[i].m.lt L[i].m.cm L[i].m.ok L[i].m.hi L[i].m.es=0 from m1] at f;exact f
  ·refine wp_cond_false u3 (Bz ?_)
   refine k _ _ ?_;rw [<-b] at j2;refine kp11 (by omega) f3 j2 j3 j7 λa4 w4 f4 k2 k3 k7 q4=>?_
   subst q4;refine ⟨⟨i+1,hlt,f4,k2,k3,k7,c.trans (hb3.mono c.size)⟩,?_⟩;rw [k7,g7];simp only [RowKit.intOf];omega
 ·refine wp_cond_false (u2.trans (by rw [decide_eq_false (by omega)])) (wp_exit ?_)
  exact hP _ _ f2 (hS.below c)
theorem kept_true (n m:Nd)(x y:RV)(B C D oc:Nat)(oa:Option Addr)(L:List Om)(w:Ag)(hX:NdO w B n x)(hY:NdO w C m y)(hO:Zc omC 10 43 w D (I oa L.length oc) L)(hE:∀ p∈L,Zh w D p.v p.m.es)(hL:L.length<=1000)(ag:∀ p∈L,p.m.es.length<=4096)(ab:∀ p∈L,MsOk n.id n.sz p.m)(f:Kpt n m)(hn:Ya n) :
  Ar Ad 27 #[Aw (ndC n x),Aw (ndC m y),I oa L.length oc] w λe w'=>e=Aj (.bool true)/\Ai w.heap.size w w':=by
 have r:=(Jm m).2 f.ok;have ar:=f.ok.len;have ao:=hn.len;have an:=hn.cm;obtain ⟨a1,c1,s1⟩:=hX.log.shape;obtain ⟨a2,c2,s2⟩:=hY.log.shape
 have aa:∀ z,Ai w.heap.size w z->∀ k:Nat,Ar Ad 74 #[I a1 n.log.length c1,I a2 m.log.length c2] (z.drewN k) λe w'=>e=Aj (Aa O (Z2h n.log m.log:Nat))/\∃ j,w'=(z.drewN k).drewN j:=λz hz k=>
  common_any _ _ _ _ _ (s1▸((hX.log.es (by unfold maxLen;omega)).below hz).below (Z7a z k)) (s2▸((hY.log.es (by unfold maxLen;omega)).below hz).below (Z7a z k)) (by omega) (by omega)
 go_enter func27,ntmps27;show (Z3 f27).wp Ad _ _ _;refine sqf (λx=>.seq (.seq (Z2 0 (Z2 1 x)) (.cond (Ay 38) (Za (Z1 1 (Z2 1 x))) .skip)) (.seq (.seq (Z2 0 (Z2 2 x)) (.cond (Ay 46) (Za (Z1 1 (Z2 2 x))) .skip)) (.seq (.seq (Z2 0 (Z2 3 x)) (.cond (Ay 63) (Za (Z1 1 (Z2 3 x))) .skip)) (.seq (.seq (Z2 0 (Z2 4 x)) (.cond (Ay 84) (Za (Z1 1 (Z2 4 x))) .skip)) (.seq (.seq (Z2 0 (Z2 5 x)) (Z1 1 (Z2 5 x))) (.seq (Z2 6 x) .ret)))))) ?_;intro K1 ae;refine kp0 ⟨rfl,rfl⟩ rfl rfl rfl hX hY λb1 w1 f1 g2 g3 g4 e1=>ae _ _ ?_
 have s:Ai w.heap.size w w1:=e1▸baq.alloc (by simp) _
 have g:KS w w1 w.heap.size (w.heap.size+1) n m x y:=by
  refine ⟨s,e1▸(Blk.new _ _ _).alloc _,?_⟩;rw [e1];have i:=Blk.new (w.alloc (At (ndC n x) 36)) (ndC m y) 36;simpa using i
 clear e1;refine A0 ?_;intro K2 ah;refine A0 ?_;intro K3 ad;refine kp1 f1 g2 g3 g4 g.a g.b f.id f.sz f.tm f.cm (by have i:=nodeFault_k m y C w1 (hY.keep λq _ h2=>s.block q h2) r;rw [r] at i;exact i) λb2 w2 f2 i2 i3 i4 u2 hb2=>ad _ _ ?_
 have d:=g.below hb2;refine wp_cond_false u2 (Bz (ah _ _ ?_));refine A0 ?_;intro K4 af;refine A0 ?_;intro K5 ak;refine kp3 f2 i2 i3 i4 d.a d.b s1 s2 (aa _ d.bl) (by have i:=comK_ge n.cm.toNat n.log m.log (by omega) f.pre;omega) λb3 w3 f3 j2 j3 j4 u3 hb3=>ak _ _ ?_
 have c:=d.below hb3;refine wp_cond_false u3 (Bz (af _ _ ?_));refine A0 ?_;intro K6 aj;refine A0 ?_;intro K7 ai;refine kp5 f3 j2 j3 j4 c.a c.b f.vo λb4 w4 f4 l2 l3 l4 u4 e4=>ai _ _ ?_
 subst e4;refine wp_cond_false u4 (Bz (aj _ _ ?_));refine A0 ?_;intro K8 ac;refine A0 ?_;intro K9 al;refine kp7 f4 l2 l3 l4 c.a c.b s1 s2 (aa _ c.bl) (λe e3=>by have i:=comK_ge n.log.length n.log m.log (Ao _) ((f.lg e e3).trans List.take_length.symm);have h8:=(comK_le n.log m.log).1;omega) λb5 w5 f5 m2 m3 m4 u5 hb5=>al _ _ ?_
 have h:=c.below hb5;refine wp_cond_false u5 (Bz (ac _ _ ?_));refine A0 ?_;intro am u;refine A0 ?_;intro au l;refine kp9 f5 m2 m3 λb6 w6 f6 n2 n3 n7 e6=>l _ _ ?_
 subst e6;refine kpLoop h (hO.block λk e=>h.bl.block k (hO.lts k e).2) (λp hp=>(hE p hp).block λk e=>h.bl.block k (Aq (hE p hp).2 k e).2) hL ag ab f6 n2 n3 n7 λb7 w7 f7 hS7=>u _ _ ?_
 refine A0 ?_;intro aq o;refine kp14 f7 λb8 w8 f8 u8 e8=>o _ _ ?_
 subst e8;obtain ⟨t,rfl⟩:=f8.opened;exact wp_ret (bodyPost_ret (Z5t results27 u8) rfl ⟨rfl,hS7.bl⟩)
end
section
section
variable {w0 w w':Ag} {b3:Nat} {IV JV:Af} {n:Nd} {x:RV} {L M:List Oi} {B:Nat} {R:Rn} {Y:RV}
theorem J0.keepV (h:J0 w B R Y)(c:∀ q,B<=q->q<w.heap.size->(∀ {C:Array Af},Blk w q C 39->False)->(∀ {C:Array Af},Blk w q C 36->False)->w'.heap[q]? = w.heap[q]?):J0 w' B R Y:=by
 have d:∀ {u:Af} {s:List Ent},Zh w B u s->Zh w' B u s:=λho=>ho.block λq e=>c q (Aq ho.2 q e).1 (Aq ho.2 q e).2 (λhb=>ownsRow.neBlk ho.2 hb (by decide) e) (λhb=>ownsRow.neBlk ho.2 hb (by decide) e)
 have b:∀ {u:Af} {s:List Int},Zc inC 1 3 w B u s->Zc inC 1 3 w' B u s:=λho=>ho.block λq e=>c q (ho.lts q e).1 (ho.lts q e).2 (λhb=>Zm ho hb (by decide) q e rfl) (λhb=>Zm ho hb (by decide) q e rfl)
 exact ⟨d h.log,b h.gr,b h.nx,b h.mt,b h.se,b h.st,h.out.block λq e=>c q (h.out.lts q e).1 (h.out.lts q e).2 (λhb=>Zm h.out hb (by decide) q e rfl) (λhb=>Zm h.out hb (by decide) q e rfl),h.outC,λp hp=>d (h.ents p hp),h.ap⟩
theorem J0.belowV (h:J0 w B R Y)(b:Ai w.heap.size w w'):J0 w' B R Y:=h.keepV λq _ h2 _ _=>b.block q h2
theorem J0.rowV {p:Nat}{C:Array Af}(h:J0 w B R Y)(c:Blk w p C 39)(b:Array Af):J0 (w.setRow p b) B R Y:=h.keepV λq _ _ h3 _=>setRow_other _ _ _ _ (λe=>h3 (e ▸ c))
structure KcS (w0 w:Ag) (b3:Nat) (IV JV:Af) (n:Nd) (x:RV) (L M:List Oi):Prop where
 nd:NdS w w0.heap.size b3 n x
 lo:w0.heap.size<=b3
 bel:Ai w0.heap.size w0 w
 ins:Zc oiC 18 46 w w0.heap.size IV L
 ies:∀ p∈L,Zh w w0.heap.size p.v p.i.m.es
 jns:Zc oiC 18 46 w w0.heap.size JV M
 jes:∀ p∈M,Zh w w0.heap.size p.v p.i.m.es
theorem KcS.below (h:KcS w0 w b3 IV JV n x L M)(b:Ai w.heap.size w w'):KcS w0 w' b3 IV JV n x L M:=
 ⟨h.nd.below b,h.lo,h.bel.trans (b.mono h.bel.size),h.ins.below b,λp hp=>(h.ies p hp).below b,h.jns.below b,λp hp=>(h.jes p hp).below b⟩
theorem KcS.take (h:KcS w0 w b3 IV JV n x L M)(f:J0 w w0.heap.size R Y):KcS w0 (w.setRow b3 (ndC R.n Y)) b3 IV JV R.n Y L M:=by
 have c:∀ q,q≠b3->(w.setRow b3 (ndC R.n Y)).heap[q]? = w.heap[q]?:=λq hq=>setRow_other _ _ _ _ hq
 have d:∀ {u:Af} {s:List Ent},Zh w w0.heap.size u s->Zh (w.setRow b3 (ndC R.n Y)) w0.heap.size u s:=λho=>ho.block λq e=>c q (λe2=>ownsRow.neBlk ho.2 h.nd.blk (by decide) (by rw [<-e2];exact e))
 have b:∀ {u:Af} {s:List Oi},Zc oiC 18 46 w w0.heap.size u s->Zc oiC 18 46 (w.setRow b3 (ndC R.n Y)) w0.heap.size u s:=λho=>ho.block λq e=>c q (Zm ho h.nd.blk (by decide) q e)
 exact ⟨NdS.row h.nd.blk rfl f.ndoV,h.lo,Yz h.bel h.lo _,b h.ins,λp hp=>d (h.ies p hp),b h.jns,λp hp=>d (h.jes p hp)⟩
theorem oiAt {V:Af}{S:List Oi}{B i:Nat}(r:Zc oiC 18 46 w B V S)(j:∀ p∈S,Zh w B p.v p.i.m.es)(hS:S.length<=100)(b:∀ p∈S,InOk p.i)(hi:i<S.length):∃ q o c,V=I (Ac ⟨q,o,Ab⟩) S.length c/\(∀ z,Ai w.heap.size w z->z.rangeAt q (o+i*18) (oiC S[i]))/\∀ z,Ai w.heap.size w z->InAt z S[i].i S[i].v:=by
 obtain ⟨_,u,cap,l,s⟩:=r.sl oiLaw (by unfold maxLen;omega);obtain ⟨q,o,t,d⟩:=s i hi;have f:=List.getElem_mem hi;have g:=j _ f;have y:=(b _ f).es;refine ⟨q,o,cap,by rw [l,t],λz hz=>Z01 (d i hi) hz,λz hz=>⟨b _ f,(g.es (by unfold maxLen;omega)).below hz,λk e=>Nat.lt_of_lt_of_le (Aq g.2 k e).2 hz.size,?_⟩⟩;rcases g.2.2 with ⟨e1,e2⟩ | ⟨k,cap,cur,e1,_,_,e2,_⟩
 ·exact ⟨Ab,0,by rw [e1,e2],by omega⟩
 ·exact ⟨_,_,e1,e2⟩
end
variable {v:Af}{Q:Ca->Bn->Ag->Prop}{K:Bn->Ag->Prop}{a:Bn}{w:Ag}
theorem kc0 (b:SzD a 82)(c:Tv a 0=v)(d:∀ a' w',SzD a' 82->Tv a' 0=v->w'=w->K a' w'):(Z2 0 (Z3 Tryz.f6)).wp Ad (Exit.then K Q) a w:=by
 obtain ⟨t,rfl⟩:=b.opened;clear b;rw [Jl]
 try dsimp only
 rw [show t 0=_ from c];clear c
 conv=>arg 2;whnf
 go_wp2_with fail
 exact d _ _ ⟨rfl,rfl⟩ rfl rfl
theorem kc1 {c:Option Addr}{ln d:Nat}(hL:¬(1048576:Int)<(ln:Int))(g:ln<=1048576)(b:SzD a 82)(e:Tv a 0=I c ln d)(f:∀ a' w',SzD a' 82->Tv a' 0=I c ln d->w'=w->K a' w'):(Z2 1 (Z3 Tryz.f6)).wp Ad (Exit.then K Q) a w:=by
 obtain ⟨t,rfl⟩:=b.opened;clear b;rw [Jl]
 try dsimp only
 rw [show t 0=_ from e];clear e
 conv=>arg 2;whnf
 go_wp2_with fail
 exact f _ _ ⟨rfl,rfl⟩ rfl rfl
variable {w0:Ag}{SL:List Inp}
theorem kc3 {N:Nd}(HD:Hid (∀ u,Ai w0.heap.size w0 u->Ar Ad 25 #[v] u λr w'=>∃ x IV L,r=Aj (.tuple #[Aw (ndC N x),IV])/\NdO w' u.heap.size N x/\Zc oiC 18 46 w' u.heap.size IV L/\L.map (·.i)=SL/\(∀ p∈L,Zh w' u.heap.size p.v p.i.m.es)/\Ai u.heap.size u w'))(k:SzD a 82)(s:Tv a 0=v)(y:Ai w0.heap.size w0 w)(hP:∀ a' w' bn x' IV' L',SzD a' 82->Tv a' 0=v->Tv a' 3=Ae (Ac ⟨bn,0,Ab⟩)->Tv a' 4=IV'->NdS w' w.heap.size bn N x'->w.heap.size<=bn->Zc oiC 18 46 w' w.heap.size IV' L'->L'.map (·.i)=SL->(∀ p∈L',Zh w' w.heap.size p.v p.i.m.es)->Ai w.heap.size w w'->K a' w'):(Z2 2 (Z3 Tryz.f6)).wp Ad (Exit.then K Q) a w:=by
 obtain ⟨t,rfl⟩:=k.opened;clear k;rw [Jl]
 try dsimp only
 rw [show t 0=_ from s];clear s;have z:=Z0 y;clear y
 conv=>arg 2;whnf
 go_wp2_with (first
  |(go_at_call 25;go_loud (refine (HD _ z).mono ?_;rintro r c ⟨d,j,L2,rfl,g,hi,l,o,e⟩;have b:Ai c.heap.size c (c.alloc (At (ndC N d) 36)):=(An _ _).alloc (Ao _) _;have HN:Hid (NdS (c.alloc (At (ndC N d) 36)) w.heap.size c.heap.size N d):=⟨Blk.new _ _ _,g.keep λq _ h2=>b.block q h2⟩;have HZ:=Z0 e.size;have HI:=Z0 (hi.below b);have HM:=Z0 l;have HE:=Z0 λp hp=>(o p hp).below b;have HW:Hid (Ai w.heap.size w (c.alloc (At (ndC N d) 36))):=e.alloc e.size _;have f:=Z0 g.one.1;clear b g hi l o e))
  |(refine Zn 36 (Ay 3) _ rfl ?_;go_loud (refine Zt rfl 36 (Ay 3) _ rfl (c.heap.size) rfl rfl rfl Y1 rfl rfl f ?_)))
 exact hP _ _ c.heap.size d j L2 ⟨rfl,rfl⟩ rfl rfl rfl HN HZ HI HM HE HW
theorem kc4 {e3 e4:Af}{N:Nd}(HD:Hid (∀ u,Ai w0.heap.size w0 u->Ar Ad 25 #[v] u λr w'=>∃ x IV L,r=Aj (.tuple #[Aw (ndC N x),IV])/\NdO w' u.heap.size N x/\Zc oiC 18 46 w' u.heap.size IV L/\L.map (·.i)=SL/\(∀ p∈L,Zh w' u.heap.size p.v p.i.m.es)/\Ai u.heap.size u w'))(k:SzD a 82)(s:Tv a 0=v)(h3:Tv a 3=e3)(z:Tv a 4=e4)(y:Ai w0.heap.size w0 w)(hP:∀ a' w' bn x' IV' L',SzD a' 82->Tv a' 3=e3->Tv a' 4=e4->Tv a' 6=IV'->NdS w' w.heap.size bn N x'->w.heap.size<=bn->Zc oiC 18 46 w' w.heap.size IV' L'->L'.map (·.i)=SL->(∀ p∈L',Zh w' w.heap.size p.v p.i.m.es)->Ai w.heap.size w w'->K a' w'):(Z2 3 (Z3 Tryz.f6)).wp Ad (Exit.then K Q) a w:=by
 obtain ⟨t,rfl⟩:=k.opened;clear k;rw [Jl]
 try dsimp only
 rw [show t 0=_ from s,show t 3=_ from h3,show t 4=_ from z];clear s h3 z;have HB:=Z0 y;clear y
 conv=>arg 2;whnf
 go_wp2_with (first
  |(go_at_call 25;go_loud (refine (HD _ HB).mono ?_;rintro r c ⟨d,j,L2,rfl,g,hi,l,o,e⟩;have b:Ai c.heap.size c (c.alloc (At (ndC N d) 36)):=(An _ _).alloc (Ao _) _;have HN:Hid (NdS (c.alloc (At (ndC N d) 36)) w.heap.size c.heap.size N d):=⟨Blk.new _ _ _,g.keep λq _ h2=>b.block q h2⟩;have HZ:=Z0 e.size;have HI:=Z0 (hi.below b);have HM:=Z0 l;have HE:=Z0 λp hp=>(o p hp).below b;have HW:Hid (Ai w.heap.size w (c.alloc (At (ndC N d) 36))):=e.alloc e.size _;have f:=Z0 g.one.1;clear b g hi l o e))
  |(refine Zn 36 (Ay 5) _ rfl ?_;go_loud (refine Zt rfl 36 (Ay 5) _ rfl (c.heap.size) rfl rfl rfl Y1 rfl rfl f ?_)))
 exact hP _ _ c.heap.size d j L2 ⟨rfl,rfl⟩ rfl rfl rfl HN HZ HI HM HE HW
variable {b3:Nat}{IV JV:Af}
theorem kc5 (b:SzD a 82)(d:Tv a 3=Ae (Ac ⟨b3,0,Ab⟩))(c:Tv a 4=IV)(e:Tv a 6=JV)(f:∀ a' w',SzD a' 82->Tv a' 3=Ae (Ac ⟨b3,0,Ab⟩)->Tv a' 4=IV->Tv a' 6=JV->Tv a' 7=Aa O ((0:Nat):Int)->w'=w->K a' w'):(Z2 0 (Z2 4 (Z3 Tryz.f6))).wp Ad (Exit.then K Q) a w:=by
 obtain ⟨t,rfl⟩:=b.opened;clear b;rw [Jl]
 try dsimp only
 rw [show t 3=_ from d,show t 4=_ from c,show t 6=_ from e];clear d c e
 conv=>arg 2;whnf
 go_wp2_with fail
 exact f _ _ ⟨rfl,rfl⟩ rfl rfl rfl rfl rfl
variable {i N ic:Nat}
theorem kc6 {d:Option Addr}(b:SzD a 82)(f:Tv a 3=Ae (Ac ⟨b3,0,Ab⟩))(e:Tv a 4=I d N ic)(g:Tv a 6=JV)(c:Tv a 7=Aa O (i:Nat))(j:∀ a' w',SzD a' 82->Tv a' 3=Ae (Ac ⟨b3,0,Ab⟩)->Tv a' 4=I d N ic->Tv a' 6=JV->Tv a' 7=Aa O (i:Nat)->Tv a' 27=.bool (decide (i<N))->w'=w->K a' w'):(Z2 0 (Z2 0 (Zp (Zb (Z1 1 (Z2 4 (Z3 Tryz.f6))))))).wp Ad (Exit.then K Q) a w:=by
 obtain ⟨t,rfl⟩:=b.opened;clear b;rw [Jl]
 try dsimp only
 rw [show t 3=_ from f,show t 4=_ from e,show t 6=_ from g,show t 7=_ from c];clear f e g c
 conv=>arg 2;whnf
 go_wp2_with fail
 exact j _ _ ⟨rfl,rfl⟩ rfl rfl rfl rfl (by simp [Bi]) rfl
theorem kc7 (hi:i<=1000)(b:SzD a 82)(e:Tv a 3=Ae (Ac ⟨b3,0,Ab⟩))(d:Tv a 4=IV)(f:Tv a 6=JV)(c:Tv a 7=Aa O (i:Nat))(g:∀ a' w',SzD a' 82->Tv a' 3=Ae (Ac ⟨b3,0,Ab⟩)->Tv a' 4=IV->Tv a' 6=JV->Tv a' 7=Aa O ((i+1:Nat):Int)->w'=w->K a' w'):(Z1 2 (Zp (Zb (Z1 1 (Z2 4 (Z3 Tryz.f6)))))).wp Ad (Exit.then K Q) a w:=by
 obtain ⟨t,rfl⟩:=b.opened;clear b;rw [Jl]
 try dsimp only
 rw [show t 3=_ from e,show t 4=_ from d,show t 6=_ from f,show t 7=_ from c];clear e d f c;have j:IntKind.i64.wrap ((i:Int)+1)=((i+1:Nat):Int):=wry
 conv=>arg 2;whnf
 go_wp2_with fail
 exact g _ _ ⟨rfl,rfl⟩ rfl rfl rfl rfl rfl
variable {e7:Af}{n:Nd}{x:RV}
theorem kc8 (d:SzD a 82)(l:Tv a 3=Ae (Ac ⟨b3,0,Ab⟩))(k:Tv a 4=IV)(m:Tv a 6=JV)(f:Tv a 7=e7)(j:Blk w b3 (ndC n x) 36)(g:(ndC n x).all (·.oneCell')=true)(o:∀ a' w',SzD a' 82->Tv a' 3=Ae (Ac ⟨b3,0,Ab⟩)->Tv a' 4=IV->Tv a' 6=JV->Tv a' 7=e7->Tv a' 8=Ae (Ac ⟨w.heap.size,0,Ab⟩)->w'=w.alloc (At (ndC n x) 36)->K a' w'):(Z2 0 (Zb (Z2 1 (Zp (Zb (Z1 1 (Z2 4 (Z3 Tryz.f6)))))))).wp Ad (Exit.then K Q) a w:=by
 obtain ⟨t,rfl⟩:=d.opened;clear d;rw [Jl]
 try dsimp only
 rw [show t 3=_ from l,show t 4=_ from k,show t 6=_ from m,show t 7=_ from f];clear l k m f;have q:=Z0 j;have c:=Z0 g;have e:=Z0 trivial;clear j g
 conv=>arg 2;whnf
 go_wp2_with (first
  |(have b:=e;refine Zd 36 (Ay 3) rfl ?_;clear b;refine Z7 rfl 36 (Ay 3) rfl b3 rfl q underlying36 rfl Y1 rfl ?_;clear e)
  |(refine Zn 36 (Ay 8) _ rfl ?_;go_loud (refine Zt rfl 36 (Ay 8) _ rfl (w.heap.size) rfl rfl rfl Y1 rfl rfl c ?_)))
 exact o _ _ ⟨rfl,rfl⟩ rfl rfl rfl rfl rfl rfl
variable {b8:Nat}
theorem bfSet {d:Ag}{c:Af}(k:NdS w w0.heap.size b8 n x)(l:w0.heap.size<=w.heap.size)(g:Zh d w.heap.size c n.log)(m:Ai w.heap.size w d):NdS (d.setCell ⟨b8,12,Ab⟩ c) w0.heap.size b8 n { x with vl:=c }:=by
 have f:=k.below m;have j:∀ q,q≠b8->(d.setCell ⟨b8,12,Ab⟩ c).heap[q]? = d.heap[q]?:=λq hq=>Below.heap_setCell _ _ _ _ hq
 have b:=f.own.neB f.blk (by decide) (by decide) j;exact ⟨f.blk.set 12 c,(g.block λq e=>j q (by have:=(Aq g.2 q e).1;have:=k.blk.lt;omega)).le l,b.gr,b.nx,b.mt,b.se,b.st,b.ap⟩
theorem kc9 {L M:List Oi}(ah:n.log.length<=4096)(hF:SzD a 82)(h3:Tv a 3=Ae (Ac ⟨b3,0,Ab⟩))(h4:Tv a 4=IV)(h6:Tv a 6=JV)(h7:Tv a 7=e7)(h8:Tv a 8=Ae (Ac ⟨b8,0,Ab⟩))(hS:KcS w0 w b3 IV JV n x L M)(d:NdS w w0.heap.size b8 n x)(ag:w0.heap.size<=b8)(ac:b3≠b8)(hP:∀ a' w' x',SzD a' 82->Tv a' 3=Ae (Ac ⟨b3,0,Ab⟩)->Tv a' 4=IV->Tv a' 6=JV->Tv a' 7=e7->Tv a' 8=Ae (Ac ⟨b8,0,Ab⟩)->KcS w0 w' b3 IV JV n x L M->NdS w' w0.heap.size b8 n x'->K a' w'):(Z2 1 (Zb (Z2 1 (Zp (Zb (Z1 1 (Z2 4 (Z3 Tryz.f6)))))))).wp Ad (Exit.then K Q) a w:=by
 obtain ⟨t,rfl⟩:=hF.opened;clear hF;rw [Jl]
 try dsimp only
 rw [show t 3=_ from h3,show t 4=_ from h4,show t 6=_ from h6,show t 7=_ from h7,show t 8=_ from h8];clear h3 h4 h6 h7 h8;have ae:=hS.nd.own.log.es (by unfold maxLen;omega);obtain ⟨hm,hf,la,lc,hv,hc⟩:=ae;have hz:=hS.bel.size
 have f:Hid (∀ c k,Zh c w.heap.size k n.log->Ai w.heap.size w c->KcS w0 (c.setCell ⟨b8,12,Ab⟩ k) b3 IV JV n x L M/\NdS (c.setCell ⟨b8,12,Ab⟩ k) w0.heap.size b8 n { x with vl:=k }):=λc k g hb=>⟨by
  have o:=hS.below hb;have r:=d.blk.below hb d.blk.lt;have hs:∀ q,q≠b8->(c.setCell ⟨b8,12,Ab⟩ k).heap[q]? = c.heap[q]?:=λq hq=>Below.heap_setCell _ _ _ _ hq
  have hE:∀ {u:Af} {s:List Ent},Zh c w0.heap.size u s->Zh (c.setCell ⟨b8,12,Ab⟩ k) w0.heap.size u s:=λg=>g.block λq e=>hs q (λe2=>ownsRow.neBlk g.2 r (by decide) (by rw [<-e2];exact e))
  have hI:∀ {u:Af} {s:List Oi},Zc oiC 18 46 c w0.heap.size u s->Zc oiC 18 46 (c.setCell ⟨b8,12,Ab⟩ k) w0.heap.size u s:=λg=>g.block λq e=>hs q (Zm g r (by decide) q e)
  exact ⟨⟨o.nd.blk.keep (hs b3 ac),o.nd.own.neB r (by decide) (by decide) hs⟩,o.lo,o.bel.setCell (p:=⟨b8,12,Ab⟩) ag _,hI o.ins,λp hp=>hE (o.ies p hp),hI o.jns,λp hp=>hE (o.jes p hp)⟩,bfSet d hz g hb⟩
 have C8:Hid (∀ c,Ai w.heap.size w c->c.cell? ⟨b8,12,Ab⟩=Ac (I la n.log.length lc)/\c.frozen? ⟨b8,12,Ab⟩=false):=λc hb=>⟨by rw [<-hv];exact (d.blk.below hb d.blk.lt).cell 12,(d.blk.below hb d.blk.lt).free 12⟩
 have c3:∀ ob,(w.alloc ob).cell? ⟨b3,12,Ab⟩=Ac (I la n.log.length lc):=λob=>by rw [<-hv];exact (hS.nd.blk.alloc ob).cell 12
 have ab:Ai w.heap.size w (w.alloc (At #[] 118)):=(An _ _).alloc (Ao _) _;have m:Hid _:=ab;clear ab
 conv=>arg 2;whnf
 cases la with
 | none=>
  have h0:n.log = []:=by
   cases hl:n.log with
   | nil=>rfl
   | cons e l=>
    rw [hl] at hc;obtain ⟨b,af,h,_⟩:=hc 0 (by simp);cases h
  have aa:n.log.length=0:=by rw [h0];rfl
  rw [aa] at c3 C8;obtain ⟨c8,f8⟩:=C8.out _ m;have HN:Hid _:=f.out _ (I (Ac ⟨w.heap.size,0,Ab⟩) 0 0) (by rw [h0];exact Zh.made w w.heap.size (Ao _)) m;clear hS d hc hf hv h0 aa f C8 m
  go_wp2_with fail
  exact hP _ _ _ ⟨rfl,rfl⟩ rfl rfl rfl rfl rfl HN.1 HN.2
 | some A=>
  have HU:Hid (∀ j u,(Zv n.log)[j]? = Ac u->w.cell? (A.add j)=Ac u):=by
   intro j u hj
   cases hl:n.log with
   | nil=>rw [hl] at hj;cases hj
   | cons e l'=>
    rw [hl] at hj hc;obtain ⟨b,af,h,ad⟩:=hc 0 (by simp);injection h with h;subst h;exact Z4c ad j u hj
  have HF:=Z0 hf;clear hS d hc hf hv
  go_wp2_with (at_builtin;go_loud (refine Z3m rfl (Ay 31) (Ay 33) rfl n.log HF (Zh.made w w.heap.size (Ao _)) rfl A lc (λj u hj=>(by have h1:=HU.out j u hj;rw [World.cell?_alloc_lt _ _ _ (World.block_lt_of_cell? w _ h1)];exact h1)) rfl (by simp;omega) (by simp) ?_;intro k c g hg;have z:=m.trans (growE hg (Zh.made w w.heap.size (Ao _)) (by simp));have y:Zh c w.heap.size k n.log:=(by simpa using g);clear g hg;obtain ⟨a3,c3,e3⟩:=y.shape;subst e3;have HN:Hid _:=f.out c _ y z;obtain ⟨c8,f8⟩:=C8.out c z;clear y z))
  exact hP _ _ _ ⟨rfl,rfl⟩ rfl rfl rfl rfl rfl HN.1 HN.2
variable {ib io ix:Nat}{xr:RV}{p:Oi}{R:Rn}{e8:Af}
theorem kc10 (ab:ix<N)(hN:N<=1000)(g:SzD a 82)(f:Tv a 3=Ae (Ac ⟨b3,0,Ab⟩))(h4:Tv a 4=I (Ac ⟨ib,io,Ab⟩) N ic)(h6:Tv a 6=JV)(t:Tv a 7=Aa O (ix:Nat))(h8:Tv a 8=e8)(HB:Hid (Blk w b3 (ndC n xr) 36))(HR:Hid (∀ z,Ai w.heap.size w z->z.rangeAt ib (io+ix*18) (oiC p)))(HF:Hid (∀ z,Ai w.heap.size w z->Ar Ad 9 #[Aw (ndC n xr),Aw (oiC p).toArray] z λe w'=>∃ X,e=Aj (Aw (saC R X))/\J0 w' z.heap.size R X/\Ai z.heap.size z w'))(m:∀ a' w' bq Y,SzD a' 82->Tv a' 3=Ae (Ac ⟨b3,0,Ab⟩)->Tv a' 4=I (Ac ⟨ib,io,Ab⟩) N ic->Tv a' 6=JV->Tv a' 7=Aa O (ix:Nat)->Tv a' 8=e8->Tv a' 9=Ae (Ac ⟨bq,0,Ab⟩)->Ai w.heap.size w w'->Blk w' bq (saC R Y) 39->J0 w' w.heap.size R Y->w.heap.size<=bq->K a' w'):(Z2 2 (Zb (Z2 1 (Zp (Zb (Z1 1 (Z2 4 (Z3 Tryz.f6)))))))).wp Ad (Exit.then K Q) a w:=by
 have aa:(ix:Int)<(N:Int):=by omega
 conv=>arg 2;whnf
 refine Z3q [Ac 36,Ac 37,Ac 38,Ac 39,Ac 40,Ac 41,Ac 9] [Vl (Aw (ndC n xr)),Vl (I (Ac ⟨ib,io,Ab⟩) N ic),Vl (Aa O (ix:Nat)),Vl (Ae (Ac ⟨ib,io+ix*18,Ab⟩)),Vl (Aw (oiC p).toArray),λv W=>∃ y,v=Aw (saC R y)/\J0 W w.heap.size R y,λv W=>∃ q C,v=Ae (Ac ⟨q,0,Ab⟩)/\w.heap.size<=q/\Blk W q C 39/\C.size=21] (by kernel_rfl) rfl g.1 rfl (by decide) (by decide) (Yk (X9 _) (Yk (X9 _) (Yk (X9 _) (Yk (X9 _) (Yk (X9 _) (Yk (λv W Z h ⟨y,c,e2⟩=>⟨y,c,e2.belowV h⟩) (Yk (λv W Z h ⟨q,C,c,e2,e3,e4⟩=>⟨q,C,c,e2,e3.below h e3.lt,e4⟩) sta_n))))))) (Zq (Zq (Zq (Zq (Zq (Zq (Zq lt_z (QO.load rfl rfl rfl rfl rfl (λa o=>o 3 _ rfl f) HB underlying36 rfl Y1 rfl)) (QO.move rfl rfl rfl rfl (.inl rfl) (λa o=>o 4 _ rfl h4))) (QO.move rfl rfl rfl rfl (.inl rfl) (λa o=>o 7 _ rfl t))) ?_) ⟨_,_,rfl,rfl,rfl,rfl,λa u K n o b k=>wp_load_mid 46 (Ay 39) rfl ib (io+ix*18) (n 3 _ _ rfl rfl rfl) (oiC p) _ (HR u b) underlying46 rfl Z20 (k _ _ (An _ _) rfl)⟩) ?_) (QO.alloc 39 zAns rfl rfl rfl rfl rfl (λ_=>by go_simp) λu b=>⟨_,_,rfl,b.size,Blk.new _ _ _,rfl⟩)) λa u N o s d b=>?_
 ·refine QO.val λa u n o b=>?_
  have c:=Zu (n 1 _ _ rfl rfl rfl);have e2:=Zu (n 2 _ _ rfl rfl rfl);clear m;go_simp
 ·refine QO.call rfl rfl rfl rfl rfl (λ_ _=>by go_simp) λa u n o b=>?_
  have c:Tv a 36=_:=n 0 _ _ rfl rfl rfl;have e2:Tv a 40=_:=n 4 _ _ rfl rfl rfl;simp only [List.map_toArray,List.map_cons,List.map_nil,c,e2];exact (HF u b).mono λe w' ⟨y,h1,h2,f⟩=>⟨f,_,h1,y,rfl,h2.le b.size⟩
 ·obtain ⟨y,c,l⟩:=N 5 _ _ (by decide) rfl rfl
  obtain ⟨q,C,e2,r,j,hz⟩:=N 6 _ _ (by decide) rfl rfl;exact Zs rfl rfl (Z0a 39 (Ay 9) (Ay 41) rfl q e2 c j Z2k rfl hz l.one (m _ _ q y ⟨s.trans g.1,d.trans g.2⟩ (o 3 _ rfl f) (o 4 _ rfl h4) (o 6 _ rfl h6) (o 7 _ rfl t) (o 8 _ rfl h8) e2 (Yz b r _) (j.row _) (l.rowV j _) r))
theorem kc11 {e9:Af}(ab:ix<N)(hN:N<=1000)(g:SzD a 82)(f:Tv a 3=Ae (Ac ⟨b3,0,Ab⟩))(h4:Tv a 4=IV)(h6:Tv a 6=I (Ac ⟨ib,io,Ab⟩) N ic)(t:Tv a 7=Aa O (ix:Nat))(h8:Tv a 8=e8)(h9:Tv a 9=e9)(HB:Hid (Blk w b3 (ndC n xr) 36))(HR:Hid (∀ z,Ai w.heap.size w z->z.rangeAt ib (io+ix*18) (oiC p)))(HF:Hid (∀ z,Ai w.heap.size w z->Ar Ad 12 #[Aw (ndC n xr),Aw (oiC p).toArray] z λe w'=>∃ X,e=Aj (Aw (saC R X))/\J0 w' z.heap.size R X/\Ai z.heap.size z w'))(m:∀ a' w' bq Y,SzD a' 82->Tv a' 3=Ae (Ac ⟨b3,0,Ab⟩)->Tv a' 4=IV->Tv a' 6=I (Ac ⟨ib,io,Ab⟩) N ic->Tv a' 7=Aa O (ix:Nat)->Tv a' 8=e8->Tv a' 9=e9->Tv a' 10=Ae (Ac ⟨bq,0,Ab⟩)->Ai w.heap.size w w'->Blk w' bq (saC R Y) 39->J0 w' w.heap.size R Y->w.heap.size<=bq->K a' w'):(Z2 3 (Zb (Z2 1 (Zp (Zb (Z1 1 (Z2 4 (Z3 Tryz.f6)))))))).wp Ad (Exit.then K Q) a w:=by
 have aa:(ix:Int)<(N:Int):=by omega
 conv=>arg 2;whnf
 refine Z3q [Ac 42,Ac 43,Ac 44,Ac 45,Ac 46,Ac 47,Ac 10] [Vl (Aw (ndC n xr)),Vl (I (Ac ⟨ib,io,Ab⟩) N ic),Vl (Aa O (ix:Nat)),Vl (Ae (Ac ⟨ib,io+ix*18,Ab⟩)),Vl (Aw (oiC p).toArray),λv W=>∃ y,v=Aw (saC R y)/\J0 W w.heap.size R y,λv W=>∃ q C,v=Ae (Ac ⟨q,0,Ab⟩)/\w.heap.size<=q/\Blk W q C 39/\C.size=21] (by kernel_rfl) rfl g.1 rfl (by decide) (by decide) (Yk (X9 _) (Yk (X9 _) (Yk (X9 _) (Yk (X9 _) (Yk (X9 _) (Yk (λv W Z h ⟨y,c,e2⟩=>⟨y,c,e2.belowV h⟩) (Yk (λv W Z h ⟨q,C,c,e2,e3,e4⟩=>⟨q,C,c,e2,e3.below h e3.lt,e4⟩) sta_n))))))) (Zq (Zq (Zq (Zq (Zq (Zq (Zq lt_z (QO.load rfl rfl rfl rfl rfl (λa o=>o 3 _ rfl f) HB underlying36 rfl Y1 rfl)) (QO.move rfl rfl rfl rfl (.inl rfl) (λa o=>o 6 _ rfl h6))) (QO.move rfl rfl rfl rfl (.inl rfl) (λa o=>o 7 _ rfl t))) ?_) ⟨_,_,rfl,rfl,rfl,rfl,λa u K n o b k=>wp_load_mid 46 (Ay 45) rfl ib (io+ix*18) (n 3 _ _ rfl rfl rfl) (oiC p) _ (HR u b) underlying46 rfl Z20 (k _ _ (An _ _) rfl)⟩) ?_) (QO.alloc 39 zAns rfl rfl rfl rfl rfl (λ_=>by go_simp) λu b=>⟨_,_,rfl,b.size,Blk.new _ _ _,rfl⟩)) λa u N o s d b=>?_
 ·refine QO.val λa u n o b=>?_
  have c:=Zu (n 1 _ _ rfl rfl rfl);have e2:=Zu (n 2 _ _ rfl rfl rfl);clear m;go_simp
 ·refine QO.call rfl rfl rfl rfl rfl (λ_ _=>by go_simp) λa u n o b=>?_
  have c:Tv a 42=_:=n 0 _ _ rfl rfl rfl;have e2:Tv a 46=_:=n 4 _ _ rfl rfl rfl;simp only [List.map_toArray,List.map_cons,List.map_nil,c,e2];exact (HF u b).mono λe w' ⟨y,h1,h2,f⟩=>⟨f,_,h1,y,rfl,h2.le b.size⟩
 ·obtain ⟨y,c,l⟩:=N 5 _ _ (by decide) rfl rfl
  obtain ⟨q,C,e2,r,j,hz⟩:=N 6 _ _ (by decide) rfl rfl;exact Zs rfl rfl (Z0a 39 (Ay 10) (Ay 47) rfl q e2 c j Z2k rfl hz l.one (m _ _ q y ⟨s.trans g.1,d.trans g.2⟩ (o 3 _ rfl f) (o 4 _ rfl h4) (o 6 _ rfl h6) (o 7 _ rfl t) (o 8 _ rfl h8) (o 9 _ rfl h9) e2 (Yz b r _) (j.row _) (l.rowV j _) r))
end
section
variable {b3 b8 b9 b10 B:Nat}{IV JV e7:Af}{R:Rn}{X:RV}{Q:Ca->Bn->Ag->Prop}{K:Bn->Ag->Prop}{a:Bn}{w:Ag}
theorem kc12 {Y:RV}(p:SzD a 82)(h3:Tv a 3=Ae (Ac ⟨b3,0,Ab⟩))(h4:Tv a 4=IV)(y:Tv a 6=JV)(x:Tv a 7=e7)(v:Tv a 8=Ae (Ac ⟨b8,0,Ab⟩))(z:Tv a 9=Ae (Ac ⟨b9,0,Ab⟩))(d:Tv a 10=Ae (Ac ⟨b10,0,Ab⟩))(c:Blk w b9 (saC R Y) 39)(b:Blk w b10 (saC R X) 39)(l:J0 w B R X)(j:J0 w B R Y)(f:R.code≠9)(HF:Hid (Ar Ad 26 #[Aw (ndC R.n X)] w λe w'=>e=Aj (Aa O 0)/\Ai w.heap.size w w'))(hP:∀ a' w',SzD a' 82->Tv a' 3=Ae (Ac ⟨b3,0,Ab⟩)->Tv a' 4=IV->Tv a' 6=JV->Tv a' 7=e7->Tv a' 8=Ae (Ac ⟨b8,0,Ab⟩)->Tv a' 9=Ae (Ac ⟨b9,0,Ab⟩)->Tv a' 10=Ae (Ac ⟨b10,0,Ab⟩)->Tv a' 72=.bool false->Ai w.heap.size w w'->K a' w'):(Z2 0 (Z2 4 (Zb (Z2 1 (Zp (Zb (Z1 1 (Z2 4 (Z3 Tryz.f6))))))))).wp Ad (Exit.then K Q) a w:=by
 obtain ⟨t,rfl⟩:=p.opened;clear p;rw [Jl]
 try dsimp only
 rw [show t 3=_ from h3,show t 4=_ from h4,show t 6=_ from y,show t 7=_ from x,show t 8=_ from v,show t 9=_ from z,show t 10=_ from d];clear h3 h4 y x v z d;obtain ⟨oa,oc,s⟩:=l.out.shape;obtain ⟨pa,pc,o⟩:=j.out.shape;have g:X.L.length=Y.L.length:=by have h1:=congrArg List.length l.outC;have h2:=congrArg List.length j.outC;rw [B8] at h1 h2;omega
 rw [<-g] at o;have aa:w.cell? ⟨b10,0,Ab⟩=Ac (Aa O R.code):=b.cell 0;have c9:w.cell? ⟨b9,0,Ab⟩=Ac (Aa O R.code):=c.cell 0;have ab:w.cell? ⟨b10,20,Ab⟩=Ac (I oa X.L.length oc):=by rw [<-s];exact b.cell 20
 have d9:w.cell? ⟨b9,20,Ab⟩=Ac (I pa X.L.length pc):=by rw [<-o];exact c.cell 20
 have m:=Z0 (Jh b 2 (ndC R.n X).toList)
 have s9:(R.code == 9)=false:=by simpa using f
 have u:=Z0 trivial;clear c b l j s o g f;generalize R.code=cd at *;generalize X.L.length=ln at *
 conv=>arg 2;whnf
 go_wp2_with (first
  |(have k:=u;refine Zd 36 (Ay 68) rfl ?_;clear k;go_loud (refine wpl_load_midG (gj:=19) (gb:=false) rfl rfl 36 (Ay 68) rfl b10 2 rfl (ndC R.n X).toList _ m underlying36 rfl (by rw [Y1];rfl) ?_);clear u)
  |(go_at_call 26;go_loud (refine HF.mono ?_;rintro r w9 ⟨rfl,q⟩;have i:=Z0 q;clear q)))
 exact hP _ _ ⟨rfl,rfl⟩ rfl rfl rfl rfl rfl rfl rfl (by simp [Bi]) i
variable {n:Nd}
theorem kc14 {y:RV}(l:SzD a 82)(h3:Tv a 3=Ae (Ac ⟨b3,0,Ab⟩))(h4:Tv a 4=IV)(x:Tv a 6=JV)(v:Tv a 7=e7)(q:Tv a 8=Ae (Ac ⟨b8,0,Ab⟩))(z:Tv a 9=Ae (Ac ⟨b9,0,Ab⟩))(d:Tv a 10=Ae (Ac ⟨b10,0,Ab⟩))(f:Blk w b8 (ndC n y) 36)(b:Blk w b10 (saC R X) 39)(u:J0 w B R X)(m:Hid (Ar Ad 27 #[Aw (ndC n y),Aw (ndC R.n X),X.vo] w λe w'=>e=Aj (.bool true)/\Ai w.heap.size w w'))(hP:∀ a' w',SzD a' 82->Tv a' 3=Ae (Ac ⟨b3,0,Ab⟩)->Tv a' 4=IV->Tv a' 6=JV->Tv a' 7=e7->Tv a' 8=Ae (Ac ⟨b8,0,Ab⟩)->Tv a' 9=Ae (Ac ⟨b9,0,Ab⟩)->Tv a' 10=Ae (Ac ⟨b10,0,Ab⟩)->Tv a' 79=.bool false->Ai w.heap.size w w'->K a' w'):(Z2 0 (Z2 5 (Zb (Z2 1 (Zp (Zb (Z1 1 (Z2 4 (Z3 Tryz.f6))))))))).wp Ad (Exit.then K Q) a w:=by
 obtain ⟨t,rfl⟩:=l.opened;clear l;rw [Jl]
 try dsimp only
 rw [show t 3=_ from h3,show t 4=_ from h4,show t 6=_ from x,show t 7=_ from v,show t 8=_ from q,show t 9=_ from z,show t 10=_ from d];clear h3 h4 x v q z d;obtain ⟨oa,oc,i⟩:=u.out.shape;have aa:w.cell? ⟨b10,20,Ab⟩=Ac (I oa X.L.length oc):=by rw [<-i];exact b.cell 20
 rw [i] at m;have k:=Z0 (Jh b 2 (ndC R.n X).toList);have j:=Z0 f;have p:=Z0 trivial;have s:=Z0 trivial;clear f b u i;generalize X.L.length=ln at *
 conv=>arg 2;whnf
 go_wp2_with (first
  |(have c:=p;refine Zd 36 (Ay 8) rfl ?_;clear c;refine Z7 rfl 36 (Ay 8) rfl b8 rfl j underlying36 rfl Y1 rfl ?_;clear p)
  |(have c:=s;refine Zd 36 (Ay 74) rfl ?_;clear c;go_loud (refine wpList_load_mid rfl 36 (Ay 74) rfl b10 2 rfl (ndC R.n X).toList _ k underlying36 rfl (by rw [Y1];rfl) ?_);clear s)
  |(go_at_call 27;go_loud (refine m.mono ?_;rintro r w9 ⟨rfl,o⟩;have g:=Z0 o;clear o)))
 exact hP _ _ ⟨rfl,rfl⟩ rfl rfl rfl rfl rfl rfl rfl (by simp [Bi]) g
theorem kc16 {w0:Ag}{x:RV}{L M:List Oi}(k:SzD a 82)(q:Tv a 3=Ae (Ac ⟨b3,0,Ab⟩))(p:Tv a 4=IV)(o:Tv a 6=JV)(m:Tv a 7=e7)(c:Tv a 10=Ae (Ac ⟨b10,0,Ab⟩))(j:KcS w0 w b3 IV JV n x L M)(b:Blk w b10 (saC R X) 39)(f:J0 w w0.heap.size R X)(s:∀ a' w',SzD a' 82->Tv a' 3=Ae (Ac ⟨b3,0,Ab⟩)->Tv a' 4=IV->Tv a' 6=JV->Tv a' 7=e7->KcS w0 w' b3 IV JV R.n X L M->K a' w'):(Z1 6 (Zb (Z2 1 (Zp (Zb (Z1 1 (Z2 4 (Z3 Tryz.f6)))))))).wp Ad (Exit.then K Q) a w:=by
 obtain ⟨t,rfl⟩:=k.opened;clear k;rw [Jl]
 try dsimp only
 rw [show t 3=_ from q,show t 4=_ from p,show t 6=_ from o,show t 7=_ from m,show t 10=_ from c];clear q p o m c;have r:=Z0 (j.take f);have i:=Z0 j.nd.blk;have g:=Z0 (Jh b 2 (ndC R.n X).toList);have d:=Z0 f.ndoV.one.1;have l:=Z0 trivial;clear j b f
 conv=>arg 2;whnf
 go_wp2_with (first
  |(have e:=l;refine Zd 36 (Ay 80) rfl ?_;clear e;go_loud (refine wpList_load_mid rfl 36 (Ay 80) rfl b10 2 rfl (ndC R.n X).toList _ g underlying36 rfl (by rw [Y1];rfl) ?_);clear l)
  |(refine Zn 36 (Ay 3) _ rfl ?_;go_loud (refine Zg rfl 36 (Ay 3) _ rfl b3 rfl rfl i Y1 rfl rfl d ?_)))
 exact s _ _ ⟨rfl,rfl⟩ rfl rfl rfl rfl r
theorem kc17 (b:SzD a 82)(c:∀ a' w',SzD a' 82->Tv a' 2=.bool true->w'=w->K a' w'):(Z2 5 (Z3 Tryz.f6)).wp Ad (Exit.then K Q) a w:=by
 obtain ⟨t,rfl⟩:=b.opened;clear b;rw [Jl]
 try dsimp only
 conv=>arg 2;whnf
 go_wp2_with fail
 exact c _ _ ⟨rfl,rfl⟩ rfl rfl
end
section
variable {w:Ag}{B:Nat}{n:Nd}{x:RV}
theorem iFaultV (c:NdO w B n x)(b:Yb n=0):Ar Ad 26 #[Aw (ndC n x)] w λe w'=>e=Aj (Aa O 0)/\Ai w.heap.size w w':=by
 obtain ⟨z1,o,m,k,v,q⟩:=Z06 n b;obtain ⟨g,p,y,a4,u,s,l,z,r,i,j,t,d,e2,e3,e4,e5,e6,h⟩:=c.laid b;have f:=nodeI_ok h.log h.gr h.nx h.mt h.se h.st b;unfold ndC;rw [d,e2,e3,e4,e5,e6];exact f
theorem keptV {C:Nat}{i:Inp}{X:RV}(j:Yb n=0)(r:NdO w B n x)(b:J0 w C (Z19 n i) X):Ar Ad 27 #[Aw (ndC n x),Aw (ndC (Z19 n i).n X),X.vo] w λe w'=>e=Aj (.bool true)/\Ai w.heap.size w w':=by
 have d:=Z3w j i;have g:Sm 7 (Z19 n i):=stepA_sm _ _ _ _ _ _ _ _ _ _;have f:∀ p∈X.L,p.m∈(Z19 n i).out:=λp hp=>by rw [<-b.outC];exact List.mem_map_of_mem hp
 have t:X.L.length<=7:=by have o:=congrArg List.length b.outC;rw [B8] at o;have:=g.out;omega
 obtain ⟨s,l,q⟩:=b.out.shape;have c:=b.out;rw [q] at c ⊢;exact kept_true n _ x X B C C l s X.L w r b.ndoV c b.ents (by omega) (λp hp=>by have:=g.es _ (f p hp);omega) (λp hp=>d.out _ (f p hp)) d.k ((Jm _).1 j)
structure KcF (b3:Nat) (IV JV:Af) (i:Nat) (a:Bn):Prop where
 sz:SzD a 82:=by exact ⟨rfl,rfl⟩
 e3:Tv a 3=Ae (Ac ⟨b3,0,Ab⟩):=by exact rfl
 e4:Tv a 4=IV:=by exact rfl
 e6:Tv a 6=JV:=by exact rfl
 e7:Tv a 7=Aa O (i:Nat):=by exact rfl
variable {w0:Ag}{b3:Nat}{IV JV:Af}{L M:List Oi}{Q:Ca->Bn->Ag->Prop}{K:Bn->Ag->Prop}{a:Bn}
theorem kcRound {i:Nat}(g:Yb n=0)(hL:L.length<=100)(ar:L.map (·.i)=M.map (·.i))(au:M.length=L.length)(q:∀ p∈L,InOk p.i)(m:∀ p∈M,InOk p.i)(hi:i<L.length)(j:KcF b3 IV JV i a)(t:KcS w0 w b3 IV JV n x L M)(hP:∀ a' w' n' x',KcF b3 IV JV i a'->KcS w0 w' b3 IV JV n' x' L M->Yb n'=0->K a' w'):(Zb (Z2 1 (Zp (Zb (Z1 1 (Z2 4 (Z3 Tryz.f6))))))).wp Ad (Exit.then K Q) a w:=by
 obtain ⟨R,k⟩:=exq (Z19 n L[i].i)
 have hp:M[i].i=L[i].i:=by
  have h2:(L.map (·.i))[i]? = (M.map (·.i))[i]?:=by rw [ar]
  rw [Cb,Cb,List.getElem?_eq_getElem hi,List.getElem?_eq_getElem (by omega)] at h2;simp only [Option.map_some,Option.some.injEq] at h2;exact h2.symm
 have ag:=(Z4o n g).2;have al:=t.bel.size;have av:=t.nd.blk.lt;have hk:=Z3w g L[i].i;rw [<-k] at hk;refine sqf (λx=>.seq (Z2 1 x) (.seq (Z2 2 x) (.seq (Z2 3 x) (.seq (.seq (Z2 0 (Z2 4 x)) (.cond (Ay 72) (Za (Z1 1 (Z2 4 x))) .skip)) (.seq (.seq (Z2 0 (Z2 5 x)) (.cond (Ay 79) (Za (Z1 1 (Z2 5 x))) .skip)) (Z1 6 x)))))) ?_;intro K1 aq;refine kc8 j.sz j.e3 j.e4 j.e6 j.e7 t.nd.blk t.nd.own.one.1 λa1 w1 f1 p1 q1 r1 t1 u1 e1=>aq _ _ ?_
 have ao:Ai w.heap.size w w1:=by rw [e1];exact (An _ _).alloc (Ao _) _
 have s1:=t.below ao;have n1:NdS w1 w0.heap.size w.heap.size n x:=⟨by rw [e1];exact Blk.new _ _ _,s1.nd.own⟩;refine A0 ?_;intro K2 ab;refine kc9 ag f1 p1 q1 r1 t1 u1 s1 n1 al (by omega) λa2 w2 x8 f2 p2 q2 r2 t2 u2 s2 n2=>ab _ _ ?_
 obtain ⟨qi,oi,ci,o,af,u⟩:=oiAt s2.ins s2.ies hL q hi;refine A0 ?_;intro K3 ae;have ac:Hid (∀ z,Ai w2.heap.size w2 z->Ar Ad 9 #[Aw (ndC n x),Aw (oiC L[i]).toArray] z λe w'=>∃ X,e=Aj (Aw (saC R X))/\J0 w' z.heap.size R X/\Ai z.heap.size z w'):=λz hz=>by rw [k];exact sStepV g (s2.below hz).nd.own (u z hz)
 refine kc10 hi (by omega) f2 p2 (q2.trans o) r2 t2 u2 s2.nd.blk af ac λa3 w3 b9 Y f3 p3 q3 r3 t3 u3 v3 hb3 B9 A9 l9=>ae _ _ ?_
 have f:=s2.below hb3;have n3:=n2.below hb3;have ah:=A9.le s2.bel.size;rw [<-o] at q3;obtain ⟨qj,oj,cj,s,ak,aj⟩:=oiAt f.jns f.jes (by omega) m (show i<M.length by omega);refine A0 ?_;intro K4 v;have ad:Hid (∀ z,Ai w3.heap.size w3 z->Ar Ad 12 #[Aw (ndC n x),Aw (oiC M[i]).toArray] z λe w'=>∃ X,e=Aj (Aw (saC R X))/\J0 w' z.heap.size R X/\Ai z.heap.size z w'):=λz hz=>by rw [k,<-hp];exact iStepV g (f.below hz).nd.own (aj z hz)
 refine kc11 (show i<M.length by omega) (by omega) f3 p3 q3 (r3.trans s) t3 u3 v3 f.nd.blk ak ad λa4 w4 b10 Z f4 p4 q4 r4 t4 u4 v4 x4 hb4 B10 A10 l10=>v _ _ ?_
 have s4:=f.below hb4;have n4:=n3.below hb4;have ai:=B9.below hb4 B9.lt;have r:=ah.belowV hb4;have c:=A10.le f.bel.size;rw [<-s] at r4;refine A0 ?_;intro K5 am;refine A0 ?_;intro K6 an;have l:Yb R.n=0:=by rw [k];exact stepI_ok g _
 refine kc12 f4 p4 q4 r4 t4 u4 v4 x4 ai B10 c r hk.c9 (iFaultV c.ndoV l) λa5 w5 f5 p5 q5 r5 t5 u5 v5 x5 y5 hb5=>an _ _ ?_
 refine wp_cond_false y5 (Bz (am _ _ ?_));have s5:=s4.below hb5;have n5:=n4.below hb5;have d:=B10.below hb5 B10.lt;have b:=c.belowV hb5;refine A0 ?_;intro K7 y;refine A0 ?_;intro K8 aa;refine kc14 f5 p5 q5 r5 t5 u5 v5 x5 n5.blk d b (by rw [k] at b ⊢;exact keptV g n5.own b) λa6 w6 f6 p6 q6 r6 t6 u6 v6 x6 y6 hb6=>aa _ _ ?_
 refine wp_cond_false y6 (Bz (y _ _ ?_));refine kc16 f6 p6 q6 r6 t6 x6 (s5.below hb6) (d.below hb6 d.lt) (b.belowV hb6) λa7 w7 f7 p7 q7 r7 t7 s7=>?_
 exact hP _ _ R.n Z ⟨f7,p7,q7,r7,t7⟩ s7 l
theorem kcLoop (s:Yb n=0)(hL:L.length<=100)(l:L.map (·.i)=M.map (·.i))(f:M.length=L.length)(e:∀ p∈L,InOk p.i)(c:∀ p∈M,InOk p.i)(q:KcF b3 IV JV 0 a)(o:KcS w0 w b3 IV JV n x L M)(t:∀ a' w',SzD a' 82->Ai w0.heap.size w0 w'->K a' w'):(Z1 1 (Z2 4 (Z3 Tryz.f6))).wp Ad (Exit.then K Q) a w:=by
 obtain ⟨ia,ic,d⟩:=o.ins.shape;rw [show Z1 1 (Z2 4 (Z3 Tryz.f6))=.block 0 (.loop (Zp (Zb (Z1 1 (Z2 4 (Z3 Tryz.f6)))))) from rfl];refine Cd ?_;refine wp_loop (λa w=>∃(i:Nat) (n:Nd) (x:RV),i<=L.length/\KcF b3 IV JV i a/\KcS w0 w b3 IV JV n x L M/\Yb n=0) (λa _=>L.length+1-(RowKit.intOf (Tv a 7)).toNat) ⟨0,n,x,Bb _,q,o,s⟩ ?_;rintro v w1 ⟨i,n1,z,hi,b,m,r⟩;refine sqf (λx=>.seq (.block 1 (Zb (Z2 1 x))) (Z1 2 x)) ?_;intro y k;refine sqf (λx=>.cond (Ay 27) .skip (.exit 0)) ?_;intro K2 g;refine kc6 (i:=i) b.sz b.e3 (b.e4.trans d) b.e6 b.e7 λa2 w2 f2 p2 q2 r2 t2 u2 e2=>g _ _ ?_
 subst e2;have u:KcF b3 IV JV i a2:=⟨f2,p2,q2.trans d.symm,r2,t2⟩;rcases B1 i L.length with hlt | hge
 ·refine wp_cond_true (u2.trans (by rw [decide_eq_true hlt])) (Bz (k _ _ ?_))
  refine A0 ?_;intro K3 j;refine Cd ?_;refine wp_inB (kcRound r hL l f e c hlt u m λa3 w3 n3 x3 F3 s3 h3=>j _ _ ?_);refine kc7 (i:=i) (by omega) F3.sz F3.e3 F3.e4 F3.e6 F3.e7 λa4 w4 f4 p4 q4 r4 t4 e4=>?_
  subst e4;refine ⟨⟨i+1,n3,x3,hlt,⟨f4,p4,q4,r4,t4⟩,s3,h3⟩,?_⟩;rw [t4,b.e7];simp only [RowKit.intOf];omega
 ·refine wp_cond_false (u2.trans (by rw [decide_eq_false (by omega)])) (wp_exit ?_)
  exact t _ _ f2 m.bel
theorem Z61 (vl:Af)(l:List Int)(hv:Bs w vl l) :
  Ar Ad 6 #[vl] w λe w'=>e=Aj (.bool true)/\Ai w.heap.size w w':=by
 have HV:=Z0 hv;obtain ⟨aa,h8,a0,d,rfl,_⟩:=hv;unfold maxLen at aa;by_cases hL:l.length<=1048576
 case neg=>
  have j:(1048576:Int)<(l.length:Int):=by omega
  go_enter func6,ntmps6;go_wp2;go_ret;exact ⟨rfl,An _ _⟩
 have j:¬(1048576:Int)<(l.length:Int):=by omega
 obtain ⟨f,s,b,c⟩:=sc_ok l;obtain ⟨N,y⟩:=exq ((scN l).n);obtain ⟨SL,g⟩:=exq (scL l);have HD:Hid (∀ u,Ai w.heap.size w u->Ar Ad 25 #[I a0 l.length d] u λr w'=>∃ x IV L,r=Aj (.tuple #[Aw (ndC N x),IV])/\NdO w' u.heap.size N x/\Zc oiC 18 46 w' u.heap.size IV L/\L.map (·.i)=SL/\(∀ p∈L,Zh w' u.heap.size p.v p.i.m.es)/\Ai u.heap.size u w'):=λu hu=>by rw [y,g];exact Z5d a0 d l u (HV.below hu) hL
 rw [<-y] at f;rw [<-g] at b c;clear h8 y g s;go_enter func6,ntmps6;show (Z3 Tryz.f6).wp Ad _ _ _;refine sqf (λx=>.seq (Z2 1 x) (.seq (Z2 2 x) (.seq (Z2 3 x) (.seq (.seq (Z2 0 (Z2 4 x)) (Z1 1 (Z2 4 x))) (.seq (Z2 5 x) .ret))))) ?_;intro K1 af;refine kc0 (v:=I a0 l.length d) ⟨rfl,rfl⟩ rfl λa1 w1 f1 g0 e1=>af _ _ ?_
 subst e1;refine A0 ?_;intro K2 ab;refine kc1 j hL f1 g0 λa2 w2 f2 i0 e2=>ab _ _ ?_
 subst e2;refine A0 ?_;intro K3 ac;refine kc3 HD f2 i0 (An _ _) λa3 w3 b3 x IV L f3 j0 j3 j4 n3 lo3 o3 m3 es3 hb3=>ac _ _ ?_
 refine A0 ?_;intro K4 t;refine kc4 HD f3 j0 j3 j4 hb3 λa4 w4 b5 x5 JV M f4 k3 k4 k6 n4 lo4 o4 m4 es4 hb4=>t _ _ ?_
 have hz:=hb3.size;have hS:KcS w2 w4 b3 IV JV N x L M:=⟨n3.below hb4,lo3,hb3.trans (hb4.mono hz),o3.below hb4,λp hp=>(es3 p hp).below hb4,o4.le hz,λp hp=>(es4 p hp).le hz⟩;have ag:L.length<=60:=by rw [<-m3,B8] at b;exact b
 have q:M.length=L.length:=by have h1:=congrArg List.length (m4.trans m3.symm);rw [B8,B8] at h1;exact h1
 have o:∀ p∈L,InOk p.i:=λp hp=>c _ (by rw [<-m3];exact List.mem_map_of_mem hp)
 have k:∀ p∈M,InOk p.i:=λp hp=>c _ (by rw [<-m4];exact List.mem_map_of_mem hp)
 refine A0 ?_;intro K5 ad;refine A0 ?_;intro K6 ae;refine kc5 f4 k3 k4 k6 λa5 w5 f5 l3 l4 l6 l7 e5=>ae _ _ ?_
 subst e5;refine kcLoop f (by omega) (m3.trans m4.symm) q o k ⟨f5,l3,l4,l6,l7⟩ hS λa6 w6 f6 b6=>ad _ _ ?_
 refine A0 ?_;intro K7 z;refine kc17 f6 λa7 w7 f7 n2 e7=>z _ _ ?_
 subst e7;exact wp_ret (bodyPost_ret (Z5t results6 n2) f7.2 ⟨rfl,b6⟩)
end
end Go.Proofs.YtmmpoppgabadmaaGreat
namespace Go.Proofs.YtmmpoppgabadmaaGreat.lawCoreKeeps
open Go.ChangeShapes Go.WideShapes Go.ChangeAt Go.RowKit
theorem lifted (os:Os)(a:os.Started)(H:Type)(enc:TypeId×Af->H) :
  ReturnsInHanded {} Tryz.checked os 6 .any (Rows.fnCoreKeepsSpec.pre6 enc Ad Tryz.f6 Rows.fnCoreKeepsRow.domain false) (Rows.fnCoreKeepsSpec.post enc Ad Tryz.f6 false true false false):=by
 refine returnsInHanded_of_change (C:=Tryz.checked) own a (by kernel_rfl) Tryz.func6
  (ChangeSpec.witness6 (enc:=enc) (C:=Tryz.checked) false ⟨#[],#[I Ab 0 0],[]⟩ 8 (by kernel_rfl) (by kernel_rfl) (by kernel_rfl) (by kernel_rfl)) ?_
 intro W d args ds gs g b s r _;have c:∀(j:Nat) t v,Tryz.f6.params[j]? = Ac t->args[j]? = Ac v->Value.okWide Ad W .any d t v:=b;have n:=s;obtain ⟨p,q,f,hV,rfl,ab,aa⟩:=s;have o:DataW.TrodAll enc Ad W 0 (λ_=>true) true Tryz.f6.params.toList args.toList ds p:=f;rw [Tryz.params6] at o c;obtain ⟨k,ac,d0,z,p0,q0,l,rfl,rfl,u,r0⟩:=trodAll_cons o;obtain ⟨rfl,rfl,rfl⟩:=trodAll_nil r0;obtain rfl:args=#[k]:=by cases args;simp_all
 obtain ⟨rfl,rfl⟩:=trodVars_none hV;have y:=u;have i:∀ x∈p0,x.block<W.heap.size:=by obtain ⟨m,hm⟩:=y;exact DataW.trod_lt m _ _ _ hm
 obtain ⟨l0,b0⟩:=open_bytes (c 0 55 k rfl rfl) u;clear f b;refine (Z61 (w:=W) k l0 b0).mono λe W' ⟨he,bel⟩=>?_
 subst he;exact ⟨_,rfl,_,_,_,[],_,[],n,trodAll_mk1 (shut_bool Tryz.underlying4 _),(trodAll_cons_mk (Below.trod laidOut (by kernel_rfl) (of_decide_eq_true (by kernel_rfl)) y bel i) trodAll_mk0),rfl,bel.frame _,λh=>by cases h⟩
theorem over:Rows.fnCoreKeepsRow.holds Tryz.pinned (OpenSpec.ofChange Rows.fnCoreKeepsSpec):=
 OpenClaim.holds_of_wide 6 Tryz.f6 rfl rfl rfl rfl rfl rfl rfl ⟨rfl,rfl,rfl,rfl,rfl⟩ rfl rfl rfl rfl rfl (by kernel_rfl) Tryz.func6 (by kernel_rfl)
  (of_decide_eq_true (by kernel_rfl)) (by unfold Func.isWrapper;first | (rw [if_pos (by decide +kernel)];kernel_rfl) | (rw [if_neg (by decide +kernel)];exact ⟨rfl,rfl⟩))
  (λos started H enc _=>lifted os started H enc)
end Go.Proofs.YtmmpoppgabadmaaGreat.lawCoreKeeps
namespace Go.Proofs.YtmmpoppgabadmaaGreat
open Go.Proofs.Tryz
theorem fnCoreKeeps_proved:Rows.FnCoreKeepsSaid:=lawCoreKeeps.over
#print axioms fnCoreKeeps_proved
end Go.Proofs.YtmmpoppgabadmaaGreat
