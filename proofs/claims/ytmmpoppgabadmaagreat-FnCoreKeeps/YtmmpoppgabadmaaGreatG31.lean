import Derived.Test.YtmmpoppgabadmaaGreatG28
import Derived.Deep.MidRow
import Derived.Test.YtmmpoppgabadmaaGreatG30
set_option linter.unusedVariables false
set_option linter.unusedSimpArgs false
set_option maxRecDepth 100000
set_option maxHeartbeats 16000000
open Go.Value renaming slice → I,int → Aa,pointer → Ae,agg → Aw,string → Az,oneCell' → Bh
open Go.IntKind renaming i64 → O
open Go.Proofs.Tryz renaming prog → Ad
open Go renaming Value → Af,World → Ag,Calls → Ar,wp_seq_k → A0,Act → Bn,wp_cond → B7
open Go.Ending renaming returned → Aj
open _root_.Nat renaming le_trans → Ap,zero_le → Bb
open Go.World.ownsRow renaming lt → Aq
open Go.Operand renaming tmp → Ay
namespace Go.Proofs.YtmmpoppgabadmaaGreat
open Go.Proofs.Tryz
open Go.RowKit
section
section
variable {W w w':Ag} {g:Nat} {v:Af} {l:List Int} {k k' b3 b4 b5:Nat} {n:Nd} {x:RV} {i i':Inp} {ve ve':Af}
theorem DiS.put (h:DiS W g v l b3 b4 b5 w k n x i ve)(j:Nat)(e:j<18)(y:Af)(d:(Z12 i ve).setIfInBounds j y=Z12 i' ve')(sv:∃ a n c,ve'=I a n c):DiS W g v l b3 b4 b5 (w.setCell ⟨b5,j,none⟩ y) k n x i' ve':=by
 have f:=h.gW;have m:=h.lo5;have b:∀ q,q≠b5->(w.setCell ⟨b5,j,none⟩ y).heap[q]? = w.heap[q]?:=λq hq=>Below.heap_setCell _ _ _ _ hq
 exact ⟨h.src.setB h.ib (by omega) j e (inpC_no h.sv) _,h.gW,Z0m h.grown h.lo5 _,h.nb.keep (b b3 h.ne),h.lo3,d▸h.ib.set j y,h.lo5,h.cb.keep (b b4 h.ne4),h.lo4,h.ne4,sv⟩
theorem DiS.cmd (h:DiS W g v l b3 b4 b5 w k n x i ve)(b c d:Int)(e f j:ByteArray):DiS W g v l b3 b4 b5 (w.setCells b5 12 [Aa O b,Aa O c,Aa O d,Az e,Az f,Az j]) k n x { i with cl:=b,sq:=c,op:=d,ky:=e,vv:=f,oo:=j } ve:=by
 have p:DiS W g v l b3 b4 b5 _ k n x { i with cl:=b } ve:=h.put 12 (by omega) (Aa O b) rfl h.sv;have m:DiS W g v l b3 b4 b5 _ k n x { i with cl:=b,sq:=c } ve:=p.put 13 (by omega) (Aa O c) rfl h.sv;have q:DiS W g v l b3 b4 b5 _ k n x { i with cl:=b,sq:=c,op:=d } ve:=m.put 14 (by omega) (Aa O d) rfl h.sv;have r:DiS W g v l b3 b4 b5 _ k n x { i with cl:=b,sq:=c,op:=d,ky:=e } ve:=q.put 15 (by omega) (Az e) rfl h.sv;have o:DiS W g v l b3 b4 b5 _ k n x { i with cl:=b,sq:=c,op:=d,ky:=e,vv:=f } ve:=r.put 16 (by omega) (Az f) rfl h.sv;exact o.put 17 (by omega) (Az j) rfl h.sv
end
variable {W w:Ag}{g b3 b4 b5 k:Nat}{v ve:Af}{l:List Int}{n:Nd}{xr:RV}{i:Inp}{Q:Exit->Bn->Ag->Prop}{K:Bn->Ag->Prop}{a:Bn}
theorem di7 (hL:l.length<=1048576)(hk:k<=700000000)(s:Z0c b3 b4 g b5 a)(j:DiS W g v l b3 b4 b5 w k n xr i ve)(y:∀ a' w',Z0c b3 b4 g b5 a'->DiS W g v l b3 b4 b5 w' (Jy l k) n xr { i with cl:=Z10 l k,sq:=Jc l k,op:=Xa l k,ky:=Z02 l k,vv:=Xe l k,oo:=Xf l k } ve->K a' w'):(Z2 1 (Za (Z1 1 (Yf (Z1 1 (Z2 3 (Z3 f65))))))).wp Ad (Exit.then K Q) a w:=by
 obtain ⟨t,rfl⟩:=s.op;clear s;obtain ⟨u,hd0⟩:=exq (Z10 l k);obtain ⟨d1,hd1⟩:=exq (Jc l k);obtain ⟨p,b⟩:=exq (Xa l k);obtain ⟨m,e⟩:=exq (Z02 l k);obtain ⟨d4,c⟩:=exq (Xe l k);obtain ⟨z,f⟩:=exq (Xf l k);obtain ⟨kc,d⟩:=exq (Jy l k);have HD:Hid (Ar Ad 105 #[Ae (some ⟨g,0,none⟩)] w λr w'=>r=Aj (Aw (cqN u d1 p m d4 z))/\Src w' g v l kc/\w.grownBy w' (some g)):=by rw [hd0,hd1,b,e,c,f,d];exact Z4w g w v l k hL hk j.src
 rw [<-hd0,<-hd1,<-b,<-e,<-c,<-f,<-d] at y;clear d hd0 hd1 b e c f;have HS:=Z0 j;clear j
 conv=>arg 2;whnf
 go_wp2_with (first
  |(go_at_call 105;go_loud (refine HD.mono ?_;rintro r w9 ⟨rfl,q,o⟩;have h:=Z0 (HS.call q o);have HT:=Z0 (Z0r h.ib.there 12 6 (by show 12+6<=18;omega));clear q o))
  |(refine Zn 44 _ _ rfl ?_;go_loud (refine wpList_store_mid rfl 44 (Ay 21) (Ay 20) rfl b5 12 (cqN u d1 p m d4 z) rfl rfl HT Y8 (by simp [Bh]) ?_)))
 exact y _ _ {} (h.cmd _ _ _ _ _ _)
theorem di9 (hL:l.length<=1048576)(u:k<=500000000)(m:Z0c b3 b4 g b5 a)(d:DiS W g v l b3 b4 b5 w k n xr i ve)(o:∀ a' w',Z0c b3 b4 g b5 a'->DiS W g v l b3 b4 b5 w' (Js l k ⟨i.cl,i.sq,i.op,i.ky,i.vv,i.oo⟩).2 n xr { i with cl:=(Js l k ⟨i.cl,i.sq,i.op,i.ky,i.vv,i.oo⟩).1.cl,sq:=(Js l k ⟨i.cl,i.sq,i.op,i.ky,i.vv,i.oo⟩).1.sq,op:=(Js l k ⟨i.cl,i.sq,i.op,i.ky,i.vv,i.oo⟩).1.op,ky:=(Js l k ⟨i.cl,i.sq,i.op,i.ky,i.vv,i.oo⟩).1.ky,vv:=(Js l k ⟨i.cl,i.sq,i.op,i.ky,i.vv,i.oo⟩).1.vl,oo:=(Js l k ⟨i.cl,i.sq,i.op,i.ky,i.vv,i.oo⟩).1.ol } ve->K a' w'):(Za (Z1 3 (Za (Z1 1 (Yf (Z1 1 (Z2 3 (Z3 f65)))))))).wp Ad (Exit.then K Q) a w:=by
 obtain ⟨t,rfl⟩:=m.op;clear m;obtain ⟨e,b⟩:=exq ((Js l k ⟨i.cl,i.sq,i.op,i.ky,i.vv,i.oo⟩));have HD:Hid (∀ z,w=z->Ar Ad 106 #[Ae (some ⟨g,0,none⟩),Aw (cqN i.cl i.sq i.op i.ky i.vv i.oo)] z λr w'=>r=Aj (Aw e.1.arrC)/\Src w' g v l e.2/\z.grownBy w' (some g)):=by rintro z rfl;rw [b];exact Z5z g w v l k _ hL u d.src
 have s:Hid (w.rangeAt b5 12 [Aa O i.cl,Aa O i.sq,Aa O i.op,Az i.ky,Az i.vv,Az i.oo]):=Jh d.ib 12 _;rw [<-b] at o;clear b;have p:=Z0 trivial;have q:=Z0 d;clear d
 conv=>arg 2;whnf
 go_wp2_with (first
  |(have f:=p;refine Zd 44 _ rfl ?_;clear f;refine wpList_load_mid rfl 44 (Ay 26) rfl b5 12 rfl [Aa O i.cl,Aa O i.sq,Aa O i.op,Az i.ky,Az i.vv,Az i.oo] _ s underlying44 rfl Y8 ?_;clear p)
  |(go_at_call 106;go_loud (refine (HD _ rfl).mono ?_;rintro r w9 ⟨rfl,j,h⟩;have c:=Z0 (q.call j h);have y:=Z0 (Z0r c.ib.there 12 6 (by show 12+6<=18;omega));clear j h))
  |(refine Zn 44 _ _ rfl ?_;go_loud (refine wpList_store_mid rfl 44 (Ay 29) (Ay 28) rfl b5 12 e.1.arrC rfl rfl y Y8 (by simp [Bh]) ?_)))
 exact o _ _ {} (c.cmd _ _ _ _ _ _)
end
theorem Z0l {b q:Nat}(h:q≠b):∀(vs:List Af) (w:Ag) (o:Nat),(w.setCells b o vs).heap[q]? = w.heap[q]?
 | [],_,_=>rfl
 | v :: vs,w,o=>(Z0l h vs _ (o+1)).trans (Below.heap_setCell _ _ _ _ h)
section
variable {W w w':Ag} {g:Nat} {v:Af} {l:List Int} {k k' b3 b4 b5:Nat} {n:Nd} {x:RV} {i i':Inp} {ve ve':Af}
theorem DiS.msg (h:DiS W g v l b3 b4 b5 w k n x i ve)(m:Mg)(sv:∃ a n c,ve'=I a n c):DiS W g v l b3 b4 b5 (w.setCells b5 2 (msV m ve').toList) k n x { i with m:=m } ve':=by
 have r:DiS W g v l b3 b4 b5 _ k n x { i with m:={ i.m with ki:=m.ki } } ve:=h.put 2 (by omega) (Aa O m.ki) rfl h.sv;have f:DiS W g v l b3 b4 b5 _ k n x { i with m:={ i.m with ki:=m.ki,fr:=m.fr } } ve:=r.put 3 (by omega) (Aa O m.fr) rfl h.sv;have d:DiS W g v l b3 b4 b5 _ k n x { i with m:={ i.m with ki:=m.ki,fr:=m.fr,td:=m.td } } ve:=f.put 4 (by omega) (Aa O m.td) rfl h.sv;have j:DiS W g v l b3 b4 b5 _ k n x { i with m:={ i.m with ki:=m.ki,fr:=m.fr,td:=m.td,tm:=m.tm } } ve:=d.put 5 (by omega) (Aa O m.tm) rfl h.sv;have q:DiS W g v l b3 b4 b5 _ k n x { i with m:={ i.m with ki:=m.ki,fr:=m.fr,td:=m.td,tm:=m.tm,li:=m.li } } ve:=j.put 6 (by omega) (Aa O m.li) rfl h.sv;have e:DiS W g v l b3 b4 b5 _ k n x { i with m:={ i.m with ki:=m.ki,fr:=m.fr,td:=m.td,tm:=m.tm,li:=m.li,lt:=m.lt } } ve:=q.put 7 (by omega) (Aa O m.lt) rfl h.sv;have p:DiS W g v l b3 b4 b5 _ k n x { i with m:={ i.m with ki:=m.ki,fr:=m.fr,td:=m.td,tm:=m.tm,li:=m.li,lt:=m.lt,cm:=m.cm } } ve:=e.put 8 (by omega) (Aa O m.cm) rfl h.sv;have b:DiS W g v l b3 b4 b5 _ k n x { i with m:={ i.m with ki:=m.ki,fr:=m.fr,td:=m.td,tm:=m.tm,li:=m.li,lt:=m.lt,cm:=m.cm,ok:=m.ok } } ve:=p.put 9 (by omega) (Aa O m.ok) rfl h.sv;have o:DiS W g v l b3 b4 b5 _ k n x { i with m:={ i.m with ki:=m.ki,fr:=m.fr,td:=m.td,tm:=m.tm,li:=m.li,lt:=m.lt,cm:=m.cm,ok:=m.ok,hi:=m.hi } } ve:=b.put 10 (by omega) (Aa O m.hi) rfl h.sv;exact o.put (i':={ i with m:=m }) 11 (by omega) ve' rfl sv
theorem Z2u (b:Nat):∀(vs:List Af) (w:Ag) (o:Nat),(w.setCells b o vs).os=w.os/\(w.setCells b o vs).tape=w.tape/\(w.setCells b o vs).output=w.output/\(w.setCells b o vs).heap.size=w.heap.size
 | [],_,_=>⟨rfl,rfl,rfl,rfl⟩
 | v :: vs,w,o=>by
  obtain ⟨c,a,d,e⟩:=Z2u b vs (w.setCell ⟨b,o,none⟩ v) (o+1);exact ⟨c.trans rfl,a.trans rfl,d.trans rfl,e.trans (by simp [World.setCell])⟩
theorem DiS.dr (h:DiS W g v l b3 b4 b5 w k n x i ve)(s:Src w' g v l k')(d:w.grownBy w' (some g))(m:Mg)(sv:∃ a n c,ve'=I a n c):∃ w0:Ag,w0.heap.size=w.heap.size/\Dr w0 (w'.setCells b5 2 (msV m ve').toList) g v l k' []:=by
 have a:=h.msg m sv;have b:=(h.call s d).msg m sv;obtain ⟨r,u,t,f⟩:=Z2u b5 (msV m ve').toList w 2;obtain ⟨z,q2,q3,q4⟩:=Z2u b5 (msV m ve').toList w' 2;refine ⟨_,f,⟨⟨z.trans (d.os.trans r.symm),q2.trans (d.tape.trans u.symm),q3.trans (d.output.trans t.symm),by rw [f,q4];exact d.size,λq hq hne=>?_⟩,b.src,a.src.lt,a.src.2.2.1,λi x e=>(by simp at e),λi j x y e=>(by simp at e)⟩⟩;by_cases e:q=b5
 ·subst e
  have p:=a.ib;have o:=b.ib;unfold Blk at p o;rw [p,o]
 ·rw [Z0l e,Z0l e]
  exact d.block q (by rw [f] at hq;exact hq) hne
end
theorem sizeMgI:(Tryz.prog.info? 43).map (·.size)=some 10:=by kernel_rfl
theorem di10 {W:Ag}{g b3 b4 b5 k:Nat}{v:Af}{l:List Int}{n:Nd}{d:RV}{i:Inp}{ve:Af}{B:Nat}(hL:l.length<=1048576)(hk:k<=400000000){Q:Exit->Bn->Ag->Prop}{K:Bn->Ag->Prop}{a:Bn}{w:Ag}(hF:Z0c b3 b4 g b5 a)(h:DiS W g v l b3 b4 b5 w k n d i ve)(hO:NdO w B n d)(hE:DfE w g n d)(hP:∀ a' w' ve',Z0c b3 b4 g b5 a'->DiS W g v l b3 b4 b5 w' (dfX l k n).k n d { i with m:=(dfX l k n).m } ve'->Zh w' w.heap.size ve' (dfX l k n).m.es->(∃ w0:Ag,w0.heap.size=w.heap.size/\Dr w0 w' g v l (dfX l k n).k [])->K a' w'):(Z2 0 (Yf (Z1 1 (Yf (Z1 1 (Z2 3 (Z3 f65))))))).wp Ad (Exit.then K Q) a w:=by
 obtain ⟨t,rfl⟩:=hF.op;clear hF;obtain ⟨X,y⟩:=exq (dfX l k n);have HD:Hid (∀ z,w=z->Ar Ad 54 #[Ae (some ⟨g,0,none⟩),Aw (ndC n d)] z λr w'=>∃ ve,r=Aj (Aw (msV X.m ve))/\Zh w' w.heap.size ve X.m.es/\Src w' g v l X.k/\w.grownBy w' (some g)):=by rintro z rfl;rw [y];exact l4drawFor_any g w v l k B n d hL hk h.src hO hE
 rw [<-y] at hP;clear y hO hE;have ad:=Z0 h.nb;have G1:=Z0 trivial;have o:=Z0 h;clear h
 conv=>arg 2;whnf
 go_wp2_with (first
  |(have ac:=G1;refine Zd 36 _ rfl ?_;clear ac;refine Z7 rfl 36 _ rfl b3 rfl ad underlying36 rfl Y1 rfl ?_;clear G1)
  |(go_at_call 54;go_loud (refine (HD _ rfl).mono ?_;rintro r w9 ⟨b,rfl,j,hs,s⟩;have f:=Z0 (o.call hs s);have HT:=Z0 (Z0r f.ib.there 2 10 (by show 2+10<=18;omega));have u:Hid (∃ a n c,b=I a n c):=(by obtain ⟨a,c,e⟩:=j.shape;exact ⟨_,_,_,e⟩);have p:Hid ((msV X.m b).all (·.oneCell')=true):=(by obtain ⟨a,n,c,rfl⟩:=u.out;unfold Hid msV;simp [Bh]);have aa:Hid (Zh (w9.setCells b5 2 (msV X.m b).toList) w.heap.size b X.m.es):=j.block λq e=>Z0l (λe2=>by have h1:=(Aq j.2 q e).1;have h2:=o.ib.lt;omega) _ _ _;have ab:=Z0 (o.dr hs s X.m u);clear hs s j))
  |(refine Zn 43 _ _ rfl ?_;go_loud (refine wpList_store_mid rfl 43 (Ay 33) (Ay 32) rfl b5 2 (msV X.m b) rfl rfl HT sizeMgI p ?_)))
 exact hP _ _ b {} (f.msg X.m u) aa ab
section
def Mg.e (m:Mg):MsgE:=⟨m.ki,m.fr,m.td,m.tm,m.li,m.lt,m.cm,m.ok,m.hi,m.es⟩
def MsgE.g (m:MsgE):Mg:=⟨m.ki,m.fr,m.td,m.tm,m.li,m.lt,m.cm,m.ok,m.hi,m.es⟩
section
structure DiT (W:Ag) (g:Nat) (v:Af) (l:List Int) (b3 b4 b5:Nat) (w:Ag) (k:Nat) (n:Nd) (x:RV) (i:Inp) (ve:Af) (w0:Ag):Prop where
 s:DiS W g v l b3 b4 b5 w k n x i ve
 o:Zh w w0.heap.size ve i.m.es
 d:Dr w0 w g v l k []
 l3:b3<w0.heap.size
 l5:b5<w0.heap.size
 l4:b4<w0.heap.size
 lW:W.heap.size<=w0.heap.size
variable {W w w' w0:Ag} {g:Nat} {v:Af} {l:List Int} {k k' b3 b4 b5:Nat} {n:Nd} {x:RV} {i i':Inp} {ve ve':Af}
theorem DiT.pick1 (h:DiT W g v l b3 b4 b5 w k n x i ve w0)(q:Nat)(hL:l.length<=1048576:=by assumption)(c:k<=900000000:=by omega)(m:0<q:=by omega)(b:q<=256:=by omega) :
  Ar Ad 53 #[Ae (some ⟨g,0,none⟩),Aa O q] w λe w'=>e=Aj (Aa O (Z4 l k q:Nat))/\DiT W g v l b3 b4 b5 w' (k+1) n x i ve w0:=
 (Zk g w v l k q hL c m (by omega) h.s.src).mono λe w' ⟨h1,h2,h3⟩=>⟨h1,by
  rw [show Zf q=1 by unfold Zf;rw [if_pos b]] at h2;have f:=h.d.gl;refine ⟨h.s.call h2 h3,h.o.block λq hq=>h3.block q (Aq h.o.2 q hq).2 (λe=>by injection e with e;have:=(Aq h.o.2 q hq).1;omega),⟨World.grownBy.trans' h.d.grown h3,h2,h.d.gl,h.d.bs0,λi x e=>(by simp at e),λi j x y e=>(by simp at e)⟩,h.l3,h.l5,h.l4,h.lW⟩⟩
theorem DiT.via (h:DiT W g v l b3 b4 b5 w k n x i ve w0)(hd:Dr w0 w' g v l k' []):DiS W g v l b3 b4 b5 w' k' n x i ve:=by
 have c:=h.s.gW;have j:=h.s.lo3;have f:=h.s.lo5;have b:∀ q,q<w0.heap.size->q≠g->w'.heap[q]? = w.heap[q]?:=λq b hne=>(hd.grown.block q b (λe=>hne (by injection e))).trans (h.d.grown.block q b (λe=>hne (by injection e))).symm
 exact ⟨hd.src,h.s.gW,⟨hd.grown.os.trans (h.d.grown.os.symm.trans h.s.grown.os),hd.grown.tape.trans (h.d.grown.tape.symm.trans h.s.grown.tape),hd.grown.output.trans (h.d.grown.output.symm.trans h.s.grown.output),Ap h.lW hd.grown.size,λq h1 h2=>(b q (Nat.lt_of_lt_of_le h1 h.lW) (λe=>h2 (by rw [e]))).trans (h.s.grown.block q h1 h2)⟩,h.s.nb.keep (b b3 h.l3 (by omega)),h.s.lo3,h.s.ib.keep (b b5 h.l5 (by omega)),h.s.lo5,h.s.cb.keep (b b4 h.l4 (by have:=h.s.lo4;omega)),h.s.lo4,h.s.ne4,h.s.sv⟩
end
variable {W w0 w:Ag}{g b3 b4 b5 k:Nat}{v ve:Af}{l:List Int}{n:Nd}{xr:RV}{i:Inp}{Q:Exit->Bn->Ag->Prop}{K:Bn->Ag->Prop}{a:Bn}
theorem di11t (hL:l.length<=1048576)(s:k<=890000000)(f:Z0c b3 b4 g b5 a)(e:DiT W g v l b3 b4 b5 w k n xr i ve w0)(d:∀ a' w',Z0c b3 b4 g b5 a'->Tv a' 36=.bool (decide (Z4 l k 12=0))->DiT W g v l b3 b4 b5 w' (k+1) n xr i ve w0->K a' w'):(Z2 1 (Yf (Z1 1 (Yf (Z1 1 (Z2 3 (Z3 f65))))))).wp Ad (Exit.then K Q) a w:=by
 obtain ⟨t,rfl⟩:=f.op;clear f;obtain ⟨p,b⟩:=exq (Z4 l k 12);have j:=Z0 b;rw [<-b] at d;have q:p<12:=by rw [b];exact Z6 _ _ _
 clear b;have h:=Z0 e;clear e
 conv=>arg 2;whnf
 go_wp2_with (first | (go_at_call 53;go_loud (refine (h.pick1 12).mono ?_;rw [<-j.out];rintro r o ⟨rfl,hd⟩;have c:=Z0 hd;clear hd)))
 exact d _ _ {} (by by_cases m:p=0 <;> simp [Act.eval,m]) c
theorem di12 (hL:l.length<=1048576)(hk:k<=300000000)(hF:Z0c b3 b4 g b5 a)(f:DiT W g v l b3 b4 b5 w k n xr i ve w0)(h : -4294967296<=i.m.tm/\i.m.tm<=4294967296)(u : -4294967296<=i.m.lt/\i.m.lt<=4294967296)(p:i.m.es.length<=200)(hP:∀ a' w' ve',Z0c b3 b4 g b5 a'->DiS W g v l b3 b4 b5 w' (Z2f l k i.m.e).2 n xr { i with m:=(Z2f l k i.m.e).1.g } ve'->Zh w' w0.heap.size ve' (Z2f l k i.m.e).1.es->K a' w'):(Za (Z1 2 (Yf (Z1 1 (Yf (Z1 1 (Z2 3 (Z3 f65)))))))).wp Ad (Exit.then K Q) a w:=by
 obtain ⟨t,rfl⟩:=hF.op;clear hF;obtain ⟨ea,ec,y⟩:=f.o.shape;subst y;obtain ⟨B,hB⟩:=exq (Z2f l k i.m.e);have HD:Hid (∀ z,w=z->Ar Ad 107 #[Ae (some ⟨g,0,none⟩),Aw (i.m.arrC (I ea i.m.es.length ec))] z λr w'=>∃ b c,r=Aj (Aw (B.1.arrC (I b B.1.es.length c)))/\Zh w' w0.heap.size (I b B.1.es.length c) B.1.es/\Dr w0 w' g v l B.2 []):=by rintro z rfl;rw [hB];exact (l1badMsg_any g w0 w v l k i.m.e ea ec i.m.es.length hL hk rfl p h u f.d f.o).mono λr w' ⟨b,c,h1,h2,h3,_⟩=>⟨b,c,h1,h2,h3⟩
 have HR:Hid (w.rangeAt b5 2 [Aa O i.m.ki,Aa O i.m.fr,Aa O i.m.td,Aa O i.m.tm,Aa O i.m.li,Aa O i.m.lt,Aa O i.m.cm,Aa O i.m.ok,Aa O i.m.hi,I ea i.m.es.length ec]):=Jh f.s.ib 2 _;rw [<-hB] at hP;clear hB h u p;have G1:=Z0 trivial;have HS:=Z0 f;clear f
 conv=>arg 2;whnf
 go_wp2_with (first
  |(have ab:=G1;refine Zd 43 (Ay 38) rfl ?_;clear ab;refine wpList_load_mid rfl 43 (Ay 38) rfl b5 2 rfl [Aa O i.m.ki,Aa O i.m.fr,Aa O i.m.td,Aa O i.m.tm,Aa O i.m.li,Aa O i.m.lt,Aa O i.m.cm,Aa O i.m.ok,Aa O i.m.hi,I ea i.m.es.length ec] _ HR underlying43 rfl sizeMgI ?_;clear G1)
  |(go_at_call 107;go_loud (refine (HD _ rfl).mono ?_;rintro r w9 ⟨b,c,rfl,ho,hd⟩;have j:=Z0 (HS.via hd);have HT:=Z0 (Z0r j.ib.there 2 10 (by show 2+10<=18;omega));have aa:Hid (Zh (w9.setCells b5 2 (msV B.1.g (I b B.1.es.length c)).toList) w0.heap.size (I b B.1.es.length c) B.1.es):=ho.block λq e=>Z0l (λe2=>by have h1:=(Aq ho.2 q e).1;have h2:=HS.l5;omega) _ _ _;clear hd ho))
  |(refine Zn 43 (Ay 41) _ rfl ?_;go_loud (refine wpList_store_mid rfl 43 (Ay 41) (Ay 40) rfl b5 2 (B.1.arrC (I b B.1.es.length c)) rfl rfl HT sizeMgI (by simp [Bh]) ?_)))
 exact hP _ _ (I b B.1.es.length c) {} (j.msg B.1.g ⟨_,_,_,rfl⟩) aa
theorem di15 (j:Z0c b3 b4 g b5 a)(b:DiS W g v l b3 b4 b5 w k n xr i ve)(o:∀ a' w',Z0c b3 b4 g b5 a'->w'=w.setRow b4 (Z12 i ve)->K a' w'):(Z2 5 (Z3 f65)).wp Ad (Exit.then K Q) a w:=by
 obtain ⟨t,rfl⟩:=j.op;clear j;have e:=Z0 b.ib;have f:=Z0 b.cb;have h:Hid ((Z12 i ve).all (·.oneCell')=true):=by obtain ⟨a,n,c,rfl⟩:=b.sv;unfold Hid Z12;simp [Bh]
 have m:=Z0 trivial;clear b
 conv=>arg 2;whnf
 go_wp2_with (first
  |(have d:=m;refine Zd 46 (Ay 5) rfl ?_;clear d;refine Z7 rfl 46 (Ay 5) rfl b5 rfl e underlying46 rfl Z20 rfl ?_;clear m)
  |(refine Zn 46 (Ay 4) _ rfl ?_;go_loud (refine Zg rfl 46 (Ay 4) (Ay 49) rfl b4 rfl rfl f Z20 rfl rfl h ?_)))
 exact o _ _ {} rfl
end
section
structure InK where
 i:Inp
 k:Nat
def diC (l:List Int)(k:Nat)(i:Inp):InK:=
 if Z4 l (Jy l k) 6=0 then ⟨{ i with ki:=3,cl:=(Js l (Jy l k+1) ⟨Z10 l k,Jc l k,Xa l k,Z02 l k,Xe l k,Xf l k⟩).1.cl,sq:=(Js l (Jy l k+1) ⟨Z10 l k,Jc l k,Xa l k,Z02 l k,Xe l k,Xf l k⟩).1.sq,op:=(Js l (Jy l k+1) ⟨Z10 l k,Jc l k,Xa l k,Z02 l k,Xe l k,Xf l k⟩).1.op,ky:=(Js l (Jy l k+1) ⟨Z10 l k,Jc l k,Xa l k,Z02 l k,Xe l k,Xf l k⟩).1.ky,vv:=(Js l (Jy l k+1) ⟨Z10 l k,Jc l k,Xa l k,Z02 l k,Xe l k,Xf l k⟩).1.vl,oo:=(Js l (Jy l k+1) ⟨Z10 l k,Jc l k,Xa l k,Z02 l k,Xe l k,Xf l k⟩).1.ol },(Js l (Jy l k+1) ⟨Z10 l k,Jc l k,Xa l k,Z02 l k,Xe l k,Xf l k⟩).2⟩
 else ⟨{ i with ki:=3,cl:=Z10 l k,sq:=Jc l k,op:=Xa l k,ky:=Z02 l k,vv:=Xe l k,oo:=Xf l k },Jy l k+1⟩
def diM (l:List Int)(k:Nat)(n:Nd)(i:Inp):InK:=
 if Z4 l (dfX l k n).k 12=0 then ⟨{ i with m:=(Z2f l ((dfX l k n).k+1) (dfX l k n).m.e).1.g },(Z2f l ((dfX l k n).k+1) (dfX l k n).m.e).2⟩
 else ⟨{ i with m:=(dfX l k n).m },(dfX l k n).k+1⟩
def diB (l:List Int)(k q:Nat)(n:Nd)(i:Inp):InK:=if q<3 then ⟨{ i with ki:=1 },k⟩ else if q=3 then diC l k i else diM l k n i
def diL (l:List Int)(s:InK):InK:=if Z4 l s.k 30=0 then ⟨{ s.i with ki:=(Z4 l (s.k+1) 6:Nat)-1 },s.k+1+1⟩ else ⟨s.i,s.k+1⟩
def diX (l:List Int)(k:Nat)(n:Nd):InK:=diL l (diB l (k+1+1) (Z4 l (k+1) 9) n (inp0 ((Z4 l k 200:Nat)-50)))
structure InOk (i:Inp):Prop where
 dr : -50<=i.dr/\i.dr<=150
 es:i.m.es.length<=200
 ky:i.ky.size<=maxLen
 vv:i.vv.size<=maxLen
 oo:i.oo.size<=maxLen
theorem badC_k (l:List Int)(k:Nat)(c:CmdV):(Js l k c).2<=k+6:=by
 unfold Js;split
 ·exact Nat.le_add_right (k+1+1) 4
 split
 ·exact Nat.le_add_right (k+1+1) 4
 split
 ·exact Nat.le_add_right (k+1+1) 4
 split
 ·exact Nat.le_add_right (k+1+1) 4
 split
 ·exact Nat.le_add_right (k+1) 5
 split
 ·exact Nat.le_add_right (k+1+1) 4
 split
 ·exact Nat.le_add_right (k+1+1) 4
 split
 ·exact Nat.le_add_right (k+1+1) 4
 ·exact Nat.le_refl _
theorem badM_ok (l:List Int)(k:Nat)(m:MsgE)(h:m.es.length<=100):(Z2f l k m).1.es.length<=200/\(Z2f l k m).2<=k+1000:=by
 have j:=(mbV_ok l k).2.2;unfold Z2f;generalize (mbV l k).1=V;generalize (mbV l k).2=K at *;have o:=J9 l (K+1+1) 1 (31+Z4 l (K+1) 4);have e:=Z2n l (K+1+1) 1 (31+Z4 l (K+1) 4);have f:=Z6 l (K+1) 4;have c:=J9 l (K+1) 1 1;have q:=Z2n l (K+1) 1 1;have d:=badC_k l (K+1+1+1) (Z42 m.es (Z4 l (K+1) m.es.length)).cmd
 have key:∀(p:Prop) [Decidable p] (a b:MsgE×Nat),(a.1.es.length<=200/\a.2<=k+1000)->(b.1.es.length<=200/\b.2<=k+1000)->((if p then a else b).1.es.length<=200/\(if p then a else b).2<=k+1000):=λp _ a b c h2=>by
  split
  ·exact c
  ·exact h2
 unfold badN;refine key _ _ _ (by show m.es.length<=200/\K+1+1<=_;omega) ?_;refine key _ _ _ (by show m.es.length<=200/\K+1+1<=_;omega) ?_;refine key _ _ _ (by show m.es.length<=200/\K+1+1<=_;omega) ?_;refine key _ _ _ (by show m.es.length<=200/\K+1+1+1<=_;omega) ?_;refine key _ _ _ (by show m.es.length<=200/\K+1<=_;omega) ?_;refine key _ _ _ (by show m.es.length<=200/\K+1<=_;omega) ?_;refine key _ _ _ (by show m.es.length<=200/\K+1<=_;omega) ?_;refine key _ _ _ (by show m.es.length<=200/\K+1<=_;omega) ?_;refine key _ _ _ (by show m.es.length<=200/\K+1<=_;omega) ?_;split
 ·show (Y0 l (K+1+1) 1 (31+Z4 l (K+1) 4)).1.length<=200/\(Y0 l (K+1+1) 1 (31+Z4 l (K+1) 4)).2.1<=_
  omega
 split
 ·show (Y0 l (K+1) 1 1).1.length<=200/\(Y0 l (K+1) 1 1).2.1<=_
  omega
 split
 ·show (m.es.set _ _).length<=200/\_<=_
  rw [List.length_set];omega
 ·show (m.es.set _ _).length<=200/\(Js l (K+1+1+1) (Z42 m.es (Z4 l (K+1) m.es.length)).cmd).2<=_
  rw [List.length_set];omega
theorem dfX_ok (l:List Int)(k:Nat)(n:Nd)(o:n.log.length<=4096)(h:∀ q,0<=Zy n.log q/\Zy n.log q<=1073741824):(dfX l k n).k<=k+2000/\(dfX l k n).m.es.length<=100/\(0<=(dfX l k n).m.tm/\(dfX l k n).m.tm<=1073741824)/\0<=(dfX l k n).m.lt/\(dfX l k n).m.lt<=1073741824:=by
 obtain ⟨u,z,t,m4,s,m6⟩:=msgD_ok l k;unfold dfX;split
 ·show (X8 l k).k+1<=_/\(X8 l k).es.length<=_/\(0<=(X8 l k).tm/\(X8 l k).tm<=_)/\0<=(X8 l k).lt/\(X8 l k).lt<=_
  omega
 ·have h1:=dfHead_k l ((X8 l k).k+1) n (mgOf (X8 l k))
  obtain ⟨d,f,-⟩:=dfHead_ok l ((X8 l k).k+1) n (mgOf (X8 l k))
  have r:(Z1i l ((X8 l k).k+1) n (mgOf (X8 l k))).m.es.length<=32:=by
   unfold Z1i;dsimp only;split
   ·exact Bb _
   ·exact s
  generalize Z1i l ((X8 l k).k+1) n (mgOf (X8 l k))=H at *;have j:=Z8d l H.k n;have ho:=dfOth_ok l (H.k+1+1) n H.m.ki (Ys l H.k n) j o;unfold dfRest;generalize Jv l (H.k+1+1) n H.m.ki (Ys l H.k n)=OT at *;have y:=dfLogG_ok l OT.2.2 n OT.2.1 H.m.tm H.m.lt d (by omega) h;generalize Z1o l OT.2.2 n OT.2.1 H.m.tm H.m.lt=LG at *;split
  ·unfold dfRep
   split
   ·have:=Xg (n.log.length+2)
    show H.k+1+1+Zf (n.log.length+2)<=_/\H.m.es.length<=_/\(0<=H.m.tm/\H.m.tm<=_)/\0<=H.m.lt/\H.m.lt<=_;omega
   ·show H.k+1+1<=_/\H.m.es.length<=_/\(0<=H.m.tm/\H.m.tm<=_)/\0<=H.m.lt/\H.m.lt<=_
    omega
  ·split
   ·show H.k+1+1<=_/\H.m.es.length<=_/\(0<=H.m.tm/\H.m.tm<=_)/\0<=H.m.lt/\H.m.lt<=_
    omega
   ·split
    ·have p:=dfTm_ok l (LG.2+1) OT.1 H.m.tm d
     show (J7 l n OT.1 _ _ _ _).k<=_/\(J7 l n OT.1 _ _ _ _).es.length<=_/\(0<=(Z22 l (LG.2+1) OT.1 H.m.tm).1/\(Z22 l (LG.2+1) OT.1 H.m.tm).1<=_)/\0<=LG.1/\LG.1<=_;dsimp only;generalize Z22 l (LG.2+1) OT.1 H.m.tm=TM at *;have r:=Z2n l (TM.2+1) (max LG.1 1) (min (Z4 l TM.2 5) (4096-(OT.2.1.toNat:Int)).toNat);have f:=J9 l (TM.2+1) (max LG.1 1) (min (Z4 l TM.2 5) (4096-(OT.2.1.toNat:Int)).toNat);have h5:=Z6 l TM.2 5;generalize Y0 l (TM.2+1) (max LG.1 1) (min (Z4 l TM.2 5) (4096-(OT.2.1.toNat:Int)).toNat)=E at *;have e:=dfEnts_k l n OT.1 TM.1 OT.2.1.toNat ⟨E.1,max LG.1 1,E.2.1⟩ E.1.length (Nat.le_refl _);have c:=Z3n l n OT.1 TM.1 (OT.2.1.toNat:Int) ⟨E.1,max LG.1 1,E.2.1⟩ E.1.length;rw [c];have b:(J7 l n OT.1 TM.1 (OT.2.1.toNat:Int) ⟨E.1,max LG.1 1,E.2.1⟩ E.1.length).k<=E.2.1+E.1.length:=e;refine ⟨Ap b ?_,?_,?_,?_⟩
     ·omega
     ·show E.1.length<=_
      omega
     ·omega
     ·omega
    ·show LG.2<=_/\0<=_/\(0<=H.m.tm/\H.m.tm<=_)/\0<=LG.1/\LG.1<=_
     omega
theorem diX_ok (l:List Int)(k:Nat)(n:Nd)(p:n.log.length<=4096)(o:∀ q,0<=Zy n.log q/\Zy n.log q<=1073741824):InOk (diX l k n).i/\(diX l k n).k<=k+4000:=by
 have u:=Z6 l k 200;have b:InOk (inp0 ((Z4 l k 200:Nat)-50)):=⟨by show -50<=((Z4 l k 200:Nat):Int)-50/\((Z4 l k 200:Nat):Int)-50<=150;omega,Bb _,Bb _,Bb _,Bb _⟩;unfold diX;generalize inp0 ((Z4 l k 200:Nat)-50)=i0 at *
 have r:InOk (diB l (k+1+1) (Z4 l (k+1) 9) n i0).i/\(diB l (k+1+1) (Z4 l (k+1) 9) n i0).k<=k+3900:=by
  generalize Z4 l (k+1) 9=q;generalize hK:k+1+1=K;unfold diB;split
  ·exact ⟨⟨b.dr,b.es,b.ky,b.vv,b.oo⟩,by show K<=_;omega⟩
  split
  ·have t:=Z6r l K
   have z:=cmdK_le l K;have f:(Z02 l K).size<=maxLen/\(Xe l K).size<=maxLen/\(Xf l K).size<=maxLen:=by unfold maxLen;omega
   unfold diC;split
   ·have c:=badC_fits l (Jy l K+1) ⟨Z10 l K,Jc l K,Xa l K,Z02 l K,Xe l K,Xf l K⟩ f
    have h:=badC_k l (Jy l K+1) ⟨Z10 l K,Jc l K,Xa l K,Z02 l K,Xe l K,Xf l K⟩;exact ⟨⟨b.dr,b.es,c.1,c.2.1,c.2.2⟩,Ap h (by omega)⟩
   ·exact ⟨⟨b.dr,b.es,f.1,f.2.1,f.2.2⟩,by show Jy l K+1<=_;omega⟩
  ·obtain ⟨y,j,-,-⟩:=dfX_ok l K n p o
   unfold diM;split
   ·have c:=badM_ok l ((dfX l K n).k+1) (dfX l K n).m.e j
    exact ⟨⟨b.dr,c.1,b.ky,b.vv,b.oo⟩,Ap c.2 (by omega)⟩
   ·exact ⟨⟨b.dr,Ap j (by omega),b.ky,b.vv,b.oo⟩,by show (dfX l K n).k+1<=_;omega⟩
 generalize diB l (k+1+1) (Z4 l (k+1) 9) n i0=s at *;obtain ⟨d,h3⟩:=r;unfold diL;split
 ·exact ⟨⟨d.dr,d.es,d.ky,d.vv,d.oo⟩,by show s.k+1+1<=_;omega⟩
 ·exact ⟨d,by show s.k+1<=_;omega⟩
section
structure DiU (W:Ag) (g:Nat) (v:Af) (l:List Int) (b3 b4 b5:Nat) (w:Ag) (k:Nat) (n:Nd) (x:RV) (i:Inp) (ve:Af):Prop where
 s:DiS W g v l b3 b4 b5 w k n x i ve
 o:Zh w W.heap.size ve i.m.es
variable {W w w' w0:Ag} {g:Nat} {v:Af} {l:List Int} {k k' b3 b4 b5:Nat} {n:Nd} {x:RV} {i i':Inp} {ve ve':Af}
theorem DiU.pick1 (h:DiU W g v l b3 b4 b5 w k n x i ve)(q:Nat)(hL:l.length<=1048576:=by assumption)(c:k<=900000000:=by omega)(f:0<q:=by omega)(b:q<=256:=by omega) :
  Ar Ad 53 #[Ae (some ⟨g,0,none⟩),Aa O q] w λe w'=>e=Aj (Aa O (Z4 l k q:Nat))/\DiU W g v l b3 b4 b5 w' (k+1) n x i ve:=
 (Zk g w v l k q hL c f (by omega) h.s.src).mono λe w' ⟨h1,h2,h3⟩=>⟨h1,by
  rw [show Zf q=1 by unfold Zf;rw [if_pos b]] at h2;have d:=h.s.gW;exact ⟨h.s.call h2 h3,h.o.block λq hq=>h3.block q (Aq h.o.2 q hq).2 (λe=>by injection e with e;have:=(Aq h.o.2 q hq).1;omega)⟩⟩
theorem DiU.kind (h:DiU W g v l b3 b4 b5 w k n x i ve)(y:Int):DiU W g v l b3 b4 b5 (w.setCell ⟨b5,0,none⟩ (Aa O y)) k n x { i with ki:=y } ve:=
 ⟨h.s.kind y,Z0u h.o h.s.ib (by decide) λq hq=>Below.heap_setCell _ _ _ _ hq⟩
end
variable {W w:Ag}{g b3 b4 b5 k:Nat}{v ve:Af}{l:List Int}{n:Nd}{xr:RV}{i:Inp}{Q:Exit->Bn->Ag->Prop}{K:Bn->Ag->Prop}{a:Bn}
theorem di13u (hL:l.length<=1048576)(s:k<=890000000)(f:Z0c b3 b4 g b5 a)(e:DiU W g v l b3 b4 b5 w k n xr i ve)(d:∀ a' w',Z0c b3 b4 g b5 a'->Tv a' 44=.bool (decide (Z4 l k 30=0))->DiU W g v l b3 b4 b5 w' (k+1) n xr i ve->K a' w'):(Z2 0 (Z2 4 (Z3 f65))).wp Ad (Exit.then K Q) a w:=by
 obtain ⟨t,rfl⟩:=f.op;clear f;obtain ⟨p,b⟩:=exq (Z4 l k 30);have j:=Z0 b;rw [<-b] at d;have q:p<30:=by rw [b];exact Z6 _ _ _
 clear b;have h:=Z0 e;clear e
 conv=>arg 2;whnf
 go_wp2_with (first | (go_at_call 53;go_loud (refine (h.pick1 30).mono ?_;rw [<-j.out];rintro r o ⟨rfl,hd⟩;have c:=Z0 hd;clear hd)))
 exact d _ _ {} (by by_cases m:p=0 <;> simp [Act.eval,m]) c
theorem di14u (hL:l.length<=1048576)(y:k<=890000000)(e:Z0c b3 b4 g b5 a)(d:DiU W g v l b3 b4 b5 w k n xr i ve)(f:∀ a' w',Z0c b3 b4 g b5 a'->DiU W g v l b3 b4 b5 w' (k+1) n xr { i with ki:=(Z4 l k 6:Nat)-1 } ve->K a' w'):(Za (Z1 1 (Z2 4 (Z3 f65)))).wp Ad (Exit.then K Q) a w:=by
 obtain ⟨t,rfl⟩:=e.op;clear e;obtain ⟨p,b⟩:=exq (Z4 l k 6);have m:=Z0 b;rw [<-b] at f;have o:p<6:=by rw [b];exact Z6 _ _ _
 clear b;have j:=Z0 d;clear d;have u:IntKind.i64.wrap ((p:Int)-1)=(p:Int)-1:=wry
 conv=>arg 2;whnf
 go_wp2_with (first | (go_at_call 53;go_loud (refine (j.pick1 6).mono ?_;rw [<-m.out];rintro r q ⟨rfl,hd⟩;have c:=Z0 hd;have c9:=hd.s.ib.cell 0;have z:=hd.s.ib.free 0;clear hd)))
 exact f _ _ {} (c.kind _)
end
def DiP (W:Ag)(g:Nat)(v:Af)(l:List Int)(R:InK)(e:Ending)(w':Ag):Prop:=∃ ve,e=Aj (Aw (Z12 R.i ve))/\Zh w' W.heap.size ve R.i.m.es/\Src w' g v l R.k/\W.grownBy w' (some g)
variable {W w:Ag}{g b3 b4 b5:Nat}{v ve:Af}{l:List Int}{n:Nd}{xr:RV}{a:Bn}
theorem diTail {R:InK}(hL:l.length<=1048576)(p:R.k<=800000000)(hF:Z0c b3 b4 g b5 a)(z:DiU W g v l b3 b4 b5 w R.k n xr R.i ve):(Z1 4 (Z3 f65)).wp Ad (bodyPost Ad f65 (DiP W g v l (diL l R))) a w:=by
 rw [show Z1 4 (Z3 f65)=.seq (.seq (Z2 0 (Z2 4 (Z3 f65))) (.cond (Ay 44) (Za (Z1 1 (Z2 4 (Z3 f65)))) .skip)) (.seq (Z2 5 (Z3 f65)) .ret) from rfl];refine A0 ?_;intro u m
 have b:∀ a' w',Z0c b3 b4 g b5 a'->DiU W g v l b3 b4 b5 w' (diL l R).k n xr (diL l R).i ve->u a' w':=by
  intro a5 w5 F5 c;refine m _ _ ?_;refine A0 ?_;intro K5 d;refine di15 F5 c.s λa6 w6 F6 e6=>d _ _ (wp_ret ?_)
  obtain ⟨t,rfl⟩:=F6.sz.opened;have p:∀ q,q≠b4->w6.heap[q]? = w5.heap[q]?:=λq hq=>by rw [e6];exact setRow_other _ _ _ _ hq
  have r:Blk w6 b4 (Z12 (diL l R).i ve) 46:=by rw [e6];exact c.s.cb.row _
  have x:=c.s.lo4;have y:=c.s.gW
  have e:Src w6 g v l (diL l R).k:=by
   rw [e6];exact c.s.src.row c.s.cb (by omega) (Zr) _
  have j:W.grownBy w6 (some g):=by rw [e6];exact Z5s c.s.grown c.s.cb x _
  exact bodyPost_ret (Zl results65 F6.e4 r underlying46 rfl Z20 rfl) rfl ⟨ve,rfl,Z0u c.o c.s.cb (by decide) p,e,j⟩
 refine A0 ?_;intro K2 f;refine di13u hL (by omega) hF z λa1 w1 F1 u1 s1=>f _ _ ?_
 refine B7 u1 ?_;unfold diL at b;by_cases h:Z4 l R.k 30=0
 ·rw [if_pos (by simp [h])]
  rw [if_pos h] at b;refine di14u hL (by omega) F1 s1 λa2 w2 F2 s2=>?_
  exact b _ _ F2 s2
 ·rw [if_neg (by simp [h])]
  rw [if_neg h] at b;exact wp_skip (b _ _ F1 s1)
theorem diBr {B q k:Nat}{i:Inp}{Q:Exit->Bn->Ag->Prop}{K:Bn->Ag->Prop}(hL:l.length<=1048576)(hk:k<=100000000)(hF:Z0c b3 b4 g b5 a)(c:Tv a 6=Aa O (q:Nat))(hS:DiS W g v l b3 b4 b5 w k n xr i ve)(hi:i.m.es = [])(h:ve=I none 0 0)(hO:NdO W B n xr)(h0:Yb n=0)(aa:g<B)(b:∀ a' w' ve',Z0c b3 b4 g b5 a'->DiU W g v l b3 b4 b5 w' (diB l k q n i).k n xr (diB l k q n i).i ve'->K a' w'):(Z2 3 (Z3 f65)).wp Ad (Exit.then K Q) a w:=by
 unfold diB at b;refine sqf (λx=>.cond (Ay 14) (Za (Z1 1 x)) (Yf (Z1 1 x))) ?_;intro K1 ab;refine di3 (q:=q) hF c hS λa1 w1 F1 v1 u1 s1=>ab _ _ ?_
 refine B7 u1 ?_;by_cases x:q<3
 ·rw [if_pos (by simp [x])]
  rw [if_pos x] at b;refine di4 F1 s1 λa2 w2 F2 s2=>?_
  exact b _ _ _ F2 ⟨s2,by rw [hi];exact h ▸ Zh.nil _ _⟩
 rw [if_neg (by simp [x])];rw [if_neg x] at b;refine sqf (λx=>.cond (Ay 17) (Za (Z1 1 x)) (Yf (Z1 1 x))) ?_;intro K2 z;refine di5 (q:=q) F1 v1 s1 λa2 w2 F2 v2 u2 s2=>z _ _ ?_
 refine B7 u2 ?_;by_cases u:q=3
 ·rw [if_pos (by simp [u])]
  rw [if_pos u] at b;unfold diC at b;have ad:=cmdK_le l k;refine sqf (λx=>.seq (Z2 1 x) (.seq (Z2 2 x) (.cond (Ay 24) (Za (Z1 3 x)) .skip))) ?_;intro K3 d;refine di6 F2 s2 λa3 w3 F3 s3=>d _ _ ?_
  refine A0 ?_;intro K4 f;refine di7 hL (by omega) F3 s3 λa4 w4 F4 s4=>f _ _ ?_
  refine A0 ?_;intro K5 y;refine di8 hL (by omega) F4 s4 λa5 w5 F5 u5 s5=>y _ _ ?_
  refine B7 u5 ?_;by_cases c:Z4 l (Jy l k) 6=0
  ·rw [if_pos (by simp [c])]
   rw [if_pos c] at b;refine di9 hL (by omega) F5 s5 λa6 w6 F6 s6=>?_
   exact b _ _ _ F6 ⟨s6,by rw [hi];exact h ▸ Zh.nil _ _⟩
  ·rw [if_neg (by simp [c])]
   rw [if_neg c] at b;exact wp_skip (b _ _ _ F5 ⟨s5,by rw [hi];exact h ▸ Zh.nil _ _⟩)
 rw [if_neg (by simp [u])];rw [if_neg u] at b;unfold diM at b;have ac:=s2.grown.size;have r:=hO.keep λj h1 h2=>s2.grown.block j h2 (λe=>by injection e with e;omega)
 have p:=DfE.of r h0 aa;obtain ⟨x1,x2,x3,x4⟩:=dfX_ok l k n p.lg p.term;refine sqf (λx=>.seq (Z2 1 x) (.cond (Ay 36) (Za (Z1 2 x)) .skip)) ?_;intro K3 d;refine di10 hL (by omega) F2 s2 r p λa3 w3 ve3 F3 s3 o3 d3=>d _ _ ?_
 obtain ⟨w0,t,d0⟩:=d3;have T3:DiT W g v l b3 b4 b5 w3 (dfX l k n).k n xr { i with m:=(dfX l k n).m } ve3 w0:=⟨s3,by rw [t];exact o3,d0,by rw [t];exact s2.nb.lt,by rw [t];exact s2.ib.lt,by rw [t];exact s2.cb.lt,by rw [t];exact ac⟩;refine A0 ?_;intro K4 f;refine di11t hL (by omega) F3 T3 λa4 w4 F4 u4 s4=>f _ _ ?_
 refine B7 u4 ?_;by_cases c:Z4 l (dfX l k n).k 12=0
 ·rw [if_pos (by simp [c])]
  rw [if_pos c] at b;refine di12 hL (by omega) F4 s4 (by show _<=(dfX l k n).m.tm/\(dfX l k n).m.tm<=_;omega) (by show _<=(dfX l k n).m.lt/\(dfX l k n).m.lt<=_;omega) (by show (dfX l k n).m.es.length<=_;omega) λa5 w5 ve5 F5 s5 o5=>?_
  exact b _ _ _ F5 ⟨s5,o5.le s4.lW⟩
 ·rw [if_neg (by simp [c])]
  rw [if_neg c] at b;exact wp_skip (b _ _ _ F4 ⟨s4.s,s4.o.le s4.lW⟩)
theorem Z7e (g:Nat)(w:Ag)(v:Af)(l:List Int)(k B:Nat)(n:Nd)(x:RV)(hL:l.length<=1048576)(t:k<=90000000)(m:Src w g v l k)(h:NdO w B n x)(p:Yb n=0)(b:g<B) :
  Ar Ad 65 #[Ae (some ⟨g,0,none⟩),Aw (ndC n x)] w (DiP w g v l (diX l k n)):=by
 go_enter func65,ntmps65;show (Z3 f65).wp Ad _ _ _;refine sqf (λx=>.seq (Z2 1 x) (.seq (Z2 2 x) (.seq (Z2 3 x) (Z1 4 x)))) ?_;intro s i;refine di0 ⟨rfl,rfl⟩ rfl rfl h λa1 w1 f1 p1 q1 r1 e1=>i _ _ ?_
 have q:DiN w g v l w.heap.size (w.heap.size+1) w1 k n x:=by
  rw [e1];have j:=Blk.new (w.alloc (.cells (ndC n x) 36)) inp00 46;exact ⟨(m.alloc _).alloc _,m.lt,Yr (World.grownBy_alloc _ _ _) _,(Blk.new _ _ _).alloc _,Nat.le_refl _,by simpa using j,by omega⟩
 clear e1;refine A0 ?_;intro y d;refine di1 hL (by omega) f1 p1 q1 r1 q λa2 w2 b5 f2 p2 q2 r2 t2 s2=>d _ _ ?_
 refine A0 ?_;intro r c;refine di2 hL (by omega) ⟨f2,p2,q2,r2,t2⟩ s2 λa3 w3 F3 u3 s3=>c _ _ ?_
 refine A0 ?_;intro z e;refine diBr hL (by omega) F3 u3 s3 rfl rfl h p b λa4 w4 ve4 F4 s4=>e _ _ ?_
 have f:(diB l (k+1+1) (Z4 l (k+1) 9) n (inp0 ((Z4 l k 200:Nat)-50))).k<=800000000:=by
  have o:=DfE.of h p b;have j:=(diX_ok l k n o.lg o.term).2
  have u:(diB l (k+1+1) (Z4 l (k+1) 9) n (inp0 ((Z4 l k 200:Nat)-50))).k<=(diX l k n).k:=by
   unfold diX diL;split <;> (dsimp only;omega)
  omega
 exact diTail hL f F4 s4
end Go.Proofs.YtmmpoppgabadmaaGreat
