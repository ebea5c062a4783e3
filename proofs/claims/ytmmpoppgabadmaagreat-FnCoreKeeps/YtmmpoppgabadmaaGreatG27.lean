import Derived.Test.YtmmpoppgabadmaaGreatG24
set_option linter.unusedVariables false
set_option linter.unusedSimpArgs false
set_option maxRecDepth 100000
set_option maxHeartbeats 16000000
open Go.Value renaming slice → I,int → Aa,pointer → Ae,oneCell' → Bh
open Go.IntKind renaming i64 → O,wrap_i64 → Bl
open _root_.Option renaming none → Ab,some → Ac
open Go.Proofs.Tryz renaming prog → Ad
open Go renaming Value → Af,World → Ag,wp_seq_k → A0,Act → Bn,wp_skip → Bz,wp_cond → B7,Exit → Ca
open _root_.List renaming getElem?_eq_getElem → As,length_set → Bg,map_toArray → Bm,map_cons → Bq,map_nil → Bu
open _root_.Option.some renaming injEq → Bf
open Go.Act renaming eval → Bi
namespace Go.Proofs.YtmmpoppgabadmaaGreat
open Go.Proofs.Tryz
open Go.RowKit
section
theorem eq1 (q:Nat):((q:Int) == 1)=decide (q=1):=by
 by_cases h:q=1
 ·subst h;rfl
 ·have:¬(q:Int)=1:=by omega
  simp [h,this]
variable {w0 w:Ag}{g k b3 b4 b5 q:Nat}{v ve e7:Af}{l:List Int}{n:Nd}{xr:RV}{m:Mg}{Q:Ca->Bn->Ag->Prop}{K:Bn->Ag->Prop}{a:Bn}
theorem df16 (i:q<=10)(e:Zo g b3 b4 b5 a)(d:Tv a 6=Aa O (q:Nat))(b:Tv a 7=e7)(c:FS w0 w g v l b3 b4 b5 n xr k m ve)(h:∀ a' w',Zo g b3 b4 b5 a'->Tv a' 6=Aa O (q:Nat)->Tv a' 7=e7->Tv a' 81=.bool (decide (q=0))->FS w0 w' g v l b3 b4 b5 n xr k m ve->K a' w'):(Z2 0 (Z2 11 (Z3 f54))).wp Ad (Exit.then K Q) a w:=by
 obtain ⟨t,rfl⟩:=e.op;clear e;rw [show t 6=_ from d,show t 7=_ from b];clear d b;have f:=Z0 c;clear c
 conv=>arg 2;whnf
 go_wp2_with fail
 exact h _ _ {} rfl rfl (by simp [Bi,beq0]) f
theorem df17 (hL:l.length<=1048576)(hk:k<=890000000)(x:0<=n.tm/\n.tm<=1073741824){e6:Af}(d:Zo g b3 b4 b5 a)(y:Tv a 6=e6)(hS:FS w0 w g v l b3 b4 b5 n xr k m ve)(i:∀ a' w',Zo g b3 b4 b5 a'->Tv a' 6=e6->Tv a' 7=Aa O (n.tm+1+((Z4 l k 2:Nat):Int))->FS w0 w' g v l b3 b4 b5 n xr (k+1) m ve->K a' w'):(Za (Z1 1 (Z2 11 (Z3 f54)))).wp Ad (Exit.then K Q) a w:=by
 obtain ⟨p,c⟩:=exq (Z4 l k 2);have Hp:=Z0 c;rw [<-c] at i;have bp:p<2:=c▸Z6 _ _ _ (by omega)
 clear c
 conv=>arg 2;whnf
 refine Z14 [Ac 82,Ac 83,Ac 84,Ac 85,Ac 86,Ac 87,Ac 7] [Ae (Ac ⟨b3,4,Ab⟩),Aa O n.tm,Aa O (n.tm+1),Ae (Ac ⟨g,0,Ab⟩),Aa O (p:Int),Aa O (n.tm+1+(p:Int)),Aa O (n.tm+1+(p:Int))] (λW=>FS w0 W g v l b3 b4 b5 n xr k m ve) (λW=>FS w0 W g v l b3 b4 b5 n xr k m ve) (λW=>FS w0 W g v l b3 b4 b5 n xr (k+1) m ve) 4 4 (by kernel_rfl) rfl d.sz.1 rfl (by decide) (by decide) (by decide) [] (.inl rfl) hS.drew (λa' w' L l R t=>i a' w' (d.rf R rfl) (R.keep 6 _ rfl y) (R.new 6 _ _ (l 6 (by decide)) rfl rfl) t) ⟨_,_,_,rfl,rfl,rfl,λu1 u2 u3 u4 u5=>?_⟩ (.inl rfl) (Zq (Zq (Zq (Zq (Zq (Zq (Zq (lt_z) (λ_ _=>?_)) (λ_ _=>?_)) (λ_ _=>?_)) (λ_ _=>?_)) (λp q=>(p rfl).elim)) (λ_ _=>?_)) (λ_ _=>?_))
 all_goals clear i
 ·have b:=u3.y 3
  refine Zs rfl rfl (Yg (N:=53) rfl (λ_ _=>by go_simp) #[Ae (Ac ⟨g,0,Ab⟩),Aa O 2] (by simp only [Bm,Bq,Bu,b,Z51]) ?_);refine Calls.mono (FS.pick1 u5 2) ?_;rw [<-Hp.out];rintro e w2 ⟨rfl,hd⟩;exact ⟨_,rfl,rfl,by rw [if_pos rfl];exact hd⟩
 ·refine PO.val λu1 u2 u3 u4 u5=>?_
  have z:=u4.z d.e3;go_simp
 ·refine PO.val λu1 u2 u3 u4 u5=>?_
  have f:u2.cell? ⟨b3,4,Ab⟩=Ac (Aa O n.tm):=by rcases u5 with h | h | h <;> exact (FS.nb h).cell 4
  have u:=u3.z 0;go_simp
 ·refine PO.val λu1 u2 u3 u4 u5=>?_
  have s:=u3.z 1;go_simp;rw [Bl];omega
 ·refine PO.val λu1 u2 u3 u4 u5=>?_
  have aa:=u4.z d.e0;go_simp
 ·refine PO.val λu1 u2 u3 u4 u5=>?_
  have j:=u3.z 2;have r:=u3.z 4;go_simp;rw [Bl];omega
 ·refine PO.val λu1 u2 u3 u4 u5=>?_
  have o:=u3.z 5;go_simp
theorem df18 (i:q<=10)(e:Zo g b3 b4 b5 a)(d:Tv a 6=Aa O (q:Nat))(b:Tv a 7=e7)(c:FS w0 w g v l b3 b4 b5 n xr k m ve)(h:∀ a' w',Zo g b3 b4 b5 a'->Tv a' 6=Aa O (q:Nat)->Tv a' 7=e7->Tv a' 89=.bool (decide (q=1))->FS w0 w' g v l b3 b4 b5 n xr k m ve->K a' w'):(Z2 0 (Yf (Z1 1 (Z2 11 (Z3 f54))))).wp Ad (Exit.then K Q) a w:=by
 obtain ⟨t,rfl⟩:=e.op;clear e;rw [show t 6=_ from d,show t 7=_ from b];clear d b;have f:=Z0 c;clear c
 conv=>arg 2;whnf
 go_wp2_with fail
 exact h _ _ {} rfl rfl (by simp only [Bi];exact congrArg _ (eq1 q)) f
theorem df19 (d:0<=n.tm/\n.tm<=1073741824)(c:Zo g b3 b4 b5 a)(b:FS w0 w g v l b3 b4 b5 n xr k m ve)(e:∀ a' w',Zo g b3 b4 b5 a'->Tv a' 7=Aa O (n.tm-1)->FS w0 w' g v l b3 b4 b5 n xr k m ve->K a' w'):(Za (Z1 1 (Yf (Z1 1 (Z2 11 (Z3 f54)))))).wp Ad (Exit.then K Q) a w:=by
 obtain ⟨t,rfl⟩:=c.op;clear c;have h:w.cell? ⟨b3,4,Ab⟩=Ac (Aa O n.tm):=b.nb.cell 4;have f:=Z0 b;clear b
 conv=>arg 2;whnf
 go_wp2_with fail
 exact e _ _ {} rfl f
theorem df20 (h:Zo g b3 b4 b5 a)(i:Tv a 7=e7)(e:FS w0 w g v l b3 b4 b5 n xr k m ve)(c:∀ a' w',Zo g b3 b4 b5 a'->Tv a' 7=e7->Tv a' 100=.bool (decide (m.ki=1∨m.ki=2))->FS w0 w' g v l b3 b4 b5 n xr k m ve->K a' w'):(Z2 0 (Yf (Z1 1 (Yf (Z1 1 (Z2 11 (Z3 f54))))))).wp Ad (Exit.then K Q) a w:=by
 obtain ⟨t,rfl⟩:=h.op;clear h;rw [show t 7=_ from i];clear i;obtain ⟨ki,b⟩:=exq (m.ki);have j:w.cell? ⟨b5,0,Ab⟩=Ac (Aa O ki):=b▸e.mb.cell 0
 rw [<-b] at c;have d:=Z0 e;clear e b
 conv=>arg 2;whnf
 by_cases g1:ki=1
 ·go_wp2_with fail
  exact c _ _ {} rfl (by simp [Bi,g1]) d
 ·by_cases f:ki=2
  ·go_wp2_with fail
   exact c _ _ {} rfl (by simp [Bi,f]) d
  ·go_wp2_with fail
   exact c _ _ {} rfl (by simp [Bi,g1,f]) d
theorem df21 (d:0<=n.tm/\n.tm<=1073741824)(c:Zo g b3 b4 b5 a)(b:FS w0 w g v l b3 b4 b5 n xr k m ve)(e:∀ a' w',Zo g b3 b4 b5 a'->Tv a' 7=Aa O (n.tm+1)->FS w0 w' g v l b3 b4 b5 n xr k m ve->K a' w'):(Za (Z1 1 (Yf (Z1 1 (Yf (Z1 1 (Z2 11 (Z3 f54)))))))).wp Ad (Exit.then K Q) a w:=by
 obtain ⟨t,rfl⟩:=c.op;clear c;have h:w.cell? ⟨b3,4,Ab⟩=Ac (Aa O n.tm):=b.nb.cell 4;have f:=Z0 b;clear b
 conv=>arg 2;whnf
 go_wp2_with fail
 exact e _ _ {} rfl f
theorem df22 {f:Int}(i:Zo g b3 b4 b5 a)(j:Tv a 7=Aa O f)(e:FS w0 w g v l b3 b4 b5 n xr k m ve)(o:∀ a' w',Zo g b3 b4 b5 a'->FS w0 w' g v l b3 b4 b5 n xr k { m with tm:=min (max f 1) 1073741824 } ve->K a' w'):(Z2 12 (Z3 f54)).wp Ad (Exit.then K Q) a w:=by
 obtain ⟨t,rfl⟩:=i.op;clear i;rw [show t 7=_ from j];clear j;have m3:=e.mb.cell 3;have z:=e.mb.free 3;have p:=Z0 e;clear e;obtain ⟨x,b⟩:=exq (max f 1);have y:=Z0 b;obtain ⟨M2,c⟩:=exq (min x 1073741824);have u:=Z0 c;rw [<-b,<-c] at o;clear b c
 conv=>arg 2;whnf
 go_wp2_with (first | (go_at_call 94;go_loud (refine (Xt _ _ _).mono ?_;rw [<-y.out];rintro r s ⟨rfl,d⟩;obtain rfl:=d.symm;clear d)) | (go_at_call 55;go_loud (refine (Xh _ _ _).mono ?_;rw [<-u.out];rintro r s ⟨rfl,d⟩;obtain rfl:=d.symm;clear d)))
 exact o _ _ {} (p.set 3 (by omega) _)
theorem df23 (hL:l.length<=1048576)(s:k<=890000000)(f:Zo g b3 b4 b5 a)(e:FS w0 w g v l b3 b4 b5 n xr k m ve)(d:∀ a' w',Zo g b3 b4 b5 a'->Tv a' 8=Aa O (Z4 l k 5:Nat)->FS w0 w' g v l b3 b4 b5 n xr (k+1) m ve->K a' w'):(Z2 13 (Z3 f54)).wp Ad (Exit.then K Q) a w:=by
 obtain ⟨t,rfl⟩:=f.op;clear f;have h:=Z0 e;clear e;obtain ⟨p,b⟩:=exq (Z4 l k 5);have i:=Z0 b;rw [<-b] at d
 clear b
 conv=>arg 2;whnf
 go_wp2_with (go_at_call 53;go_loud (refine (h.pick1 5).mono ?_;rw [<-i.out];rintro r j ⟨rfl,hd⟩;have c:=Z0 hd;clear hd))
 exact d _ _ {} rfl c
end
section
theorem Ju:(Tryz.prog.info? 43).map (·.size)=Ac 10:=by kernel_rfl
variable {w0 w:Ag}{g k b3 b4 b5:Nat}{v ve:Af}{l:List Int}{n:Nd}{xr:RV}{m:Mg}
theorem FS.row5 (h:FS w0 w g v l b3 b4 b5 n xr k m ve)(b:Mg)(e:b.es=m.es):FS w0 (w.setRow b5 (msV b ve)) g v l b3 b4 b5 n xr k b ve:=by
 have d:NoU8 (msV b ve):=by obtain ⟨a,c,f⟩:=h.es.shape;unfold msV;rw [f];exact Zr
 exact ⟨h.dr.row 2 rfl (msV b ve) d,e▸h.es.block λq e'=>setRow_other _ _ _ _ (Y5 h.es h.mb (by decide) q e')⟩
theorem lt1 (q:Nat):decide ((1:Int)<(q:Int))=decide (1<q):=by
 by_cases h:1<q
 ·have:(1:Int)<q:=by omega
  simp [h,this]
 ·have:¬(1:Int)<q:=by omega
  simp [h,this]
variable {e8:Af}{Q:Ca->Bn->Ag->Prop}{K:Bn->Ag->Prop}{a:Bn}
theorem df24 (e:Zo g b3 b4 b5 a)(f:Tv a 8=e8)(b:FS w0 w g v l b3 b4 b5 n xr k m ve)(i:∀ a' w',Zo g b3 b4 b5 a'->Tv a' 8=e8->FS w0 w' g v l b3 b4 b5 n xr k ⟨m.ki,m.fr,m.td,m.tm,0,0,0,0,0,m.es⟩ ve->K a' w'):(Z2 14 (Z3 f54)).wp Ad (Exit.then K Q) a w:=by
 obtain ⟨t,rfl⟩:=e.op;clear e;rw [show t 8=_ from f];clear f;obtain ⟨ea,ec,c⟩:=b.es.shape;have r:w.cell? ⟨b5,9,Ab⟩=Ac (I ea m.es.length ec):=c▸b.mb.cell 9
 have s:w.cell? ⟨b5,0,Ab⟩=Ac (Aa O m.ki):=b.mb.cell 0;have q:w.cell? ⟨b5,1,Ab⟩=Ac (Aa O m.fr):=b.mb.cell 1;have p:w.cell? ⟨b5,2,Ab⟩=Ac (Aa O m.td):=b.mb.cell 2;have o:w.cell? ⟨b5,3,Ab⟩=Ac (Aa O m.tm):=b.mb.cell 3;have j:=Z0 b.mb;have h:Hid (FS w0 (w.setRow b5 (mqN m.ki m.fr m.td m.tm 0 0 0 0 0 (I ea m.es.length ec))) g v l b3 b4 b5 n xr k ⟨m.ki,m.fr,m.td,m.tm,0,0,0,0,0,m.es⟩ ve):=by have d:=b.row5 ⟨m.ki,m.fr,m.td,m.tm,0,0,0,0,0,m.es⟩ rfl;unfold msV at d;rw [c] at d;rw [c];exact d
 clear b c
 conv=>arg 2;whnf
 go_wp2_with (refine Zn 43 _ _ rfl ?_;go_loud (refine Zg rfl 43 _ _ rfl b5 rfl rfl j Ju rfl rfl (by simp [Bh]) ?_))
 exact i _ _ {} rfl h
theorem df25 (h:Zo g b3 b4 b5 a)(j:Tv a 8=e8)(e:FS w0 w g v l b3 b4 b5 n xr k m ve)(c:∀ a' w',Zo g b3 b4 b5 a'->Tv a' 8=e8->Tv a' 133=.bool (decide (m.ki=2∨m.ki=4∨m.ki=6))->FS w0 w' g v l b3 b4 b5 n xr k m ve->K a' w'):(Z2 0 (Z2 15 (Z3 f54))).wp Ad (Exit.then K Q) a w:=by
 obtain ⟨t,rfl⟩:=h.op;clear h;rw [show t 8=_ from j];clear j;obtain ⟨ki,b⟩:=exq (m.ki);have o:w.cell? ⟨b5,0,Ab⟩=Ac (Aa O ki):=b▸e.mb.cell 0
 rw [<-b] at c;have d:=Z0 e;clear e b
 conv=>arg 2;whnf
 by_cases g1:ki=2
 ·go_wp2_with fail
  exact c _ _ {} rfl (by simp [Bi,g1]) d
 ·by_cases f:ki=4
  ·go_wp2_with fail
   exact c _ _ {} rfl (by simp [Bi,f]) d
  ·by_cases i:ki=6
   ·go_wp2_with fail
    exact c _ _ {} rfl (by simp [Bi,i]) d
   ·go_wp2_with fail
    exact c _ _ {} rfl (by simp [Bi,g1,f,i]) d
theorem df26 (c:Zo g b3 b4 b5 a)(d:Tv a 8=e8)(b:FS w0 w g v l b3 b4 b5 n xr k m ve)(f:∀ a' w',Zo g b3 b4 b5 a'->Tv a' 8=e8->FS w0 w' g v l b3 b4 b5 n xr k { m with es:=[] } (I Ab 0 0)->K a' w'):(Z2 0 (Za (Z1 1 (Z2 15 (Z3 f54))))).wp Ad (Exit.then K Q) a w:=by
 obtain ⟨t,rfl⟩:=c.op;clear c;rw [show t 8=_ from d];clear d;obtain ⟨ea,ec,e⟩:=b.es.shape;have i:w.cell? ⟨b5,9,Ab⟩=Ac (I ea m.es.length ec):=e▸b.mb.cell 9
 have j:=b.mb.free 9;have h:=Z0 b;clear b;clear e
 conv=>arg 2;whnf
 go_wp2_with fail
 exact f _ _ {} rfl h.bare
theorem df27 {q:Nat}(h:q<=10)(d:Zo g b3 b4 b5 a)(c:Tv a 8=Aa O (q:Nat))(b:FS w0 w g v l b3 b4 b5 n xr k m ve)(e:∀ a' w',Zo g b3 b4 b5 a'->Tv a' 136=.bool (decide (1<q))->FS w0 w' g v l b3 b4 b5 n xr k m ve->K a' w'):(Z2 1 (Za (Z1 1 (Z2 15 (Z3 f54))))).wp Ad (Exit.then K Q) a w:=by
 obtain ⟨t,rfl⟩:=d.op;clear d;rw [show t 8=_ from c];clear c;have f:=Z0 b;clear b
 conv=>arg 2;whnf
 go_wp2_with fail
 exact e _ _ {} (by simp only [Bi];exact congrArg _ (lt1 q)) f
theorem df28 (c:Zo g b3 b4 b5 a)(b:FS w0 w g v l b3 b4 b5 n xr k m ve)(d:∀ a' w',Zo g b3 b4 b5 a'->FS w0 w' g v l b3 b4 b5 n xr k { m with ok:=1 } ve->K a' w'):(Za (Z1 2 (Za (Z1 1 (Z2 15 (Z3 f54)))))).wp Ad (Exit.then K Q) a w:=by
 obtain ⟨t,rfl⟩:=c.op;clear c;have f:=b.mb.cell 7;have i:=b.mb.free 7;have e:=Z0 b;clear b
 conv=>arg 2;whnf
 go_wp2_with fail
 exact d _ _ {} (e.set 7 (by omega) _)
end
section
variable {w0 w:Ag}{g k b3 b4 b5:Nat}{v ve:Af}{l:List Int}{n:Nd}{xr:RV}{m:Mg}{Q:Ca->Bn->Ag->Prop}{K:Bn->Ag->Prop}{a:Bn}
theorem df29 (hL:l.length<=1048576)(hk:k<=890000000)(i:∃ a c,xr.vl=I a n.log.length c)(ad:n.log.length<=4096)(o:Zo g b3 b4 b5 a)(hS:FS w0 w g v l b3 b4 b5 n xr k m ve)(r:∀ a' w',Zo g b3 b4 b5 a'->Tv a' 9=Aa O ((n.log.length:Int)-((Z4 l k 4:Nat):Int)+((Z4 l (k+1) 2:Nat):Int))->FS w0 w' g v l b3 b4 b5 n xr (k+1+1) m ve->K a' w'):(Z2 16 (Z3 f54)).wp Ad (Exit.then K Q) a w:=by
 obtain ⟨ra,rc,j⟩:=i;have s:=Z0 j;obtain ⟨N,hN⟩:=exq (n.log.length);rw [<-hN] at r s ad;clear hN j;obtain ⟨p,u⟩:=exq (Z4 l k 4);have Hp:=Z0 u;rw [<-u] at r;have bp:p<4:=u▸Z6 _ _ _ (by omega)
 obtain ⟨x,b⟩:=exq (Z4 l (k+1) 2);have ae:=Z0 b;rw [<-b] at r;have ak:x<2:=b▸Z6 _ _ _ (by omega)
 clear u b
 conv=>arg 2;whnf
 refine Z14 [Ac 138,Ac 139,Ac 140,Ac 141,Ac 142,Ac 143,Ac 144,Ac 145,Ac 146,Ac 9] [Ae (Ac ⟨b3,12,Ab⟩),I ra N rc,Aa O (N:Int),Ae (Ac ⟨g,0,Ab⟩),Aa O (p:Int),Aa O ((N:Int)-(p:Int)),Ae (Ac ⟨g,0,Ab⟩),Aa O (x:Int),Aa O ((N:Int)-(p:Int)+(x:Int)),Aa O ((N:Int)-(p:Int)+(x:Int))] (λW=>FS w0 W g v l b3 b4 b5 n xr k m ve) (λW=>FS w0 W g v l b3 b4 b5 n xr (k+1) m ve) (λW=>FS w0 W g v l b3 b4 b5 n xr (k+1+1) m ve) 4 7 (by kernel_rfl) rfl o.sz.1 rfl (by decide) (by decide) (by decide) [] (.inr rfl) hS.drew (λa' w' L l R t=>r a' w' (o.rf R rfl) (R.new 9 _ _ (l 9 (by decide)) rfl rfl) t) ⟨_,_,_,rfl,rfl,rfl,λu1 u2 u3 u4 u5=>?_⟩ (.inr ⟨_,_,_,rfl,rfl,rfl,λu1 u2 u3 u4 u5=>?_⟩) (Zq (Zq (Zq (Zq (Zq (Zq (Zq (Zq (Zq (Zq (lt_z) (λ_ _=>?_)) (λ_ _=>?_)) (λ_ _=>?_)) (λ_ _=>?_)) (λp q=>(p rfl).elim)) (λ_ _=>?_)) (λ_ _=>?_)) (λp q=>(q rfl).elim)) (λ_ _=>?_)) (λ_ _=>?_))
 all_goals clear r
 ·have f:=u3.y 3
  refine Zs rfl rfl (Yg (N:=53) rfl (λ_ _=>by go_simp) #[Ae (Ac ⟨g,0,Ab⟩),Aa O 4] (by simp only [Bm,Bq,Bu,f,Z51]) ?_);refine Calls.mono (FS.pick1 u5 4) ?_;rw [<-Hp.out];rintro e w2 ⟨rfl,hd⟩;exact ⟨_,rfl,rfl,by rw [ifd];exact hd⟩
 ·have d:=u3.y 6
  refine Zs rfl rfl (Yg (N:=53) rfl (λ_ _=>by go_simp) #[Ae (Ac ⟨g,0,Ab⟩),Aa O 2] (by simp only [Bm,Bq,Bu,d,Z51]) ?_);refine Calls.mono (FS.pick1 u5 2) ?_;rw [<-ae.out];rintro e w2 ⟨rfl,hd⟩;exact ⟨_,rfl,rfl,hd⟩
 ·refine PO.val λu1 u2 u3 u4 u5=>?_
  have aj:=u4.z o.e3;go_simp
 ·refine PO.val λu1 u2 u3 u4 u5=>?_
  have ai:u2.cell? ⟨b3,12,Ab⟩=Ac (I ra N rc):=by rcases u5 with h | h | h <;> (rw [<-s.out];exact (FS.nb h).cell 12)
  have aa:=u3.z 0;go_simp
 ·refine PO.val λu1 u2 u3 u4 u5=>?_
  have ac:=u3.z 1;go_simp
 ·refine PO.val λu1 u2 u3 u4 u5=>?_
  have ab:=u4.z o.e0;go_simp
 ·refine PO.val λu1 u2 u3 u4 u5=>?_
  have ah:=u3.z 2;have ag:=u3.z 4;go_simp;rw [Bl];omega
 ·refine PO.val λu1 u2 u3 u4 u5=>?_
  have ab:=u4.z o.e0;go_simp
 ·refine PO.val λu1 u2 u3 u4 u5=>?_
  have y:=u3.z 5;have af:=u3.z 7;go_simp;rw [Bl];omega
 ·refine PO.val λu1 u2 u3 u4 u5=>?_
  have z:=u3.z 8;go_simp
theorem df30 {e:Int}(j:Zo g b3 b4 b5 a)(h:Tv a 9=Aa O e)(i:FS w0 w g v l b3 b4 b5 n xr k m ve)(f:∀ a' w',Zo g b3 b4 b5 a'->Tv a' 9=Aa O (min (max e 0) 4096)->FS w0 w' g v l b3 b4 b5 n xr k m ve->K a' w'):(Z2 17 (Z3 f54)).wp Ad (Exit.then K Q) a w:=by
 obtain ⟨t,rfl⟩:=j.op;clear j;rw [show t 9=_ from h];clear h;have p:=Z0 i;clear i;obtain ⟨s,b⟩:=exq (max e 0);have u:=Z0 b;obtain ⟨x,c⟩:=exq (min s 4096);have q:=Z0 c;rw [<-b,<-c] at f;clear b c
 conv=>arg 2;whnf
 go_wp2_with (first | (go_at_call 94;go_loud (refine (Xt _ _ _).mono ?_;rw [<-u.out];rintro r o ⟨rfl,d⟩;obtain rfl:=d.symm;clear d)) | (go_at_call 55;go_loud (refine (Xh _ _ _).mono ?_;rw [<-q.out];rintro r o ⟨rfl,d⟩;obtain rfl:=d.symm;clear d)))
 exact f _ _ {} rfl p
end
section
variable {w0 w:Ag}{g k b3 b4 b5:Nat}{v ve:Af}{l:List Int}{n:Nd}{xr:RV}{m:Mg}{Q:Ca->Bn->Ag->Prop}{K:Bn->Ag->Prop}{a:Bn}
theorem df31 {e9:Af}(d:Zo g b3 b4 b5 a)(c:Tv a 9=e9)(b:FS w0 w g v l b3 b4 b5 n xr k m ve)(e:∀ a' w',Zo g b3 b4 b5 a'->Tv a' 9=e9->Tv a' 152=.bool (m.ki == 6)->FS w0 w' g v l b3 b4 b5 n xr k m ve->K a' w'):(Z2 0 (Z2 18 (Z3 f54))).wp Ad (Exit.then K Q) a w:=by
 obtain ⟨t,rfl⟩:=d.op;clear d;rw [show t 9=_ from c];clear c;have h:w.cell? ⟨b5,0,Ab⟩=Ac (Aa O m.ki):=b.mb.cell 0;have f:=Z0 b;clear b
 conv=>arg 2;whnf
 go_wp2_with fail
 exact e _ _ {} rfl rfl f
theorem df32 {d:Int}(e:Zo g b3 b4 b5 a)(c:Tv a 9=Aa O d)(b:FS w0 w g v l b3 b4 b5 n xr k m ve)(f:∀ a' w',Zo g b3 b4 b5 a'->FS w0 w' g v l b3 b4 b5 n xr k { m with li:=d } ve->K a' w'):(Z2 0 (Za (Z1 1 (Z2 18 (Z3 f54))))).wp Ad (Exit.then K Q) a w:=by
 obtain ⟨t,rfl⟩:=e.op;clear e;rw [show t 9=_ from c];clear c;have o:=b.mb.cell 4;have j:=b.mb.free 4;have i:=Z0 b;clear b
 conv=>arg 2;whnf
 go_wp2_with fail
 exact f _ _ {} (i.set 4 (by omega) _)
theorem df33 (i:Zo g b3 b4 b5 a)(e:FS w0 w g v l b3 b4 b5 n xr k m ve)(d:∀ a' w',Zo g b3 b4 b5 a'->Tv a' 162=.bool (decide (n.ro=3/\m.ok=0))->FS w0 w' g v l b3 b4 b5 n xr k m ve->K a' w'):(Z2 0 (Z2 1 (Za (Z1 1 (Z2 18 (Z3 f54)))))).wp Ad (Exit.then K Q) a w:=by
 obtain ⟨t,rfl⟩:=i.op;clear i;obtain ⟨ro,b⟩:=exq (n.ro);obtain ⟨ok,c⟩:=exq (m.ok);have n6:w.cell? ⟨b3,6,Ab⟩=Ac (Aa O ro):=b▸e.nb.cell 6
 have j:w.cell? ⟨b5,7,Ab⟩=Ac (Aa O ok):=c▸e.mb.cell 7
 rw [<-b,<-c] at d;have f:=Z0 e;clear e b c
 conv=>arg 2;whnf
 by_cases g1:ro=3
 ·by_cases h:ok=0
  ·go_wp2_with fail
   exact d _ _ {} (by simp [Bi,g1,h]) f
  ·go_wp2_with fail
   exact d _ _ {} (by simp [Bi,g1,h]) f
 ·go_wp2_with fail
  exact d _ _ {} (by simp [Bi,g1]) f
theorem df34 {j:Nat}{y:Int}(x:j<n.nx.length)(z:j<=7)(d:m.fr=(j:Int)+1)(hy:0<=y/\y<=5000)(i:Zo g b3 b4 b5 a)(b:FS w0 w g v l b3 b4 b5 n xr k m ve)(f:∃ q c,xr.vn=I (Ac ⟨q,0,Ab⟩) n.nx.length c/\w.cell? ⟨q,j,Ab⟩=Ac (Aa O y))(hP:∀ a' w',Zo g b3 b4 b5 a'->FS w0 w' g v l b3 b4 b5 n xr k { m with li:=y-1 } ve->K a' w'):(Z2 0 (Za (Z1 1 (Z2 1 (Za (Z1 1 (Z2 18 (Z3 f54)))))))).wp Ad (Exit.then K Q) a w:=by
 obtain ⟨t,rfl⟩:=i.op;clear i;obtain ⟨nq,u,o,ab⟩:=f;have e:w.cell? ⟨b3,14,Ab⟩=Ac (I (Ac ⟨nq,0,Ab⟩) n.nx.length u):=o▸b.nb.cell 14
 have m1:w.cell? ⟨b5,1,Ab⟩=Ac (Aa O ((j:Int)+1)):=d▸b.mb.cell 1
 have m4:=b.mb.cell 4;have f4:=b.mb.free 4;obtain ⟨N,p⟩:=exq (n.nx.length);rw [<-p] at e x;have ac:(j:Int)<(N:Int):=by omega
 have r:IntKind.i64.wrap ((j:Int)+1-1)=(j:Int):=wry
 have aa:=wrx (j:Int)
 clear o p d;have s:=Z0 b;clear b
 conv=>arg 2;whnf
 go_wp2_with fail
 exact hP _ _ {} (s.set 4 (by omega) _)
theorem df35 (hL:l.length<=1048576)(hk:k<=890000000)(d:∃ a c,xr.vl=I a n.log.length c)(j:n.log.length<=4096)(u:Zo g b3 b4 b5 a)(i:FS w0 w g v l b3 b4 b5 n xr k m ve)(q:∀ a' w',Zo g b3 b4 b5 a'->FS w0 w' g v l b3 b4 b5 n xr (k+Zf (n.log.length+2)) { m with hi:=(Z4 l k (n.log.length+2):Nat) } ve->K a' w'):(Z1 1 (Za (Z1 1 (Z2 1 (Za (Z1 1 (Z2 18 (Z3 f54)))))))).wp Ad (Exit.then K Q) a w:=by
 obtain ⟨t,rfl⟩:=u.op;clear u;obtain ⟨y,rc,e⟩:=d;have o:w.cell? ⟨b3,12,Ab⟩=Ac (I y n.log.length rc):=e▸i.nb.cell 12
 clear e;obtain ⟨N,s⟩:=exq (n.log.length);rw [<-s] at o q j;have x:=Z0 i;clear i;clear s;obtain ⟨p,f⟩:=exq (Z4 l k (N+2));have z:=Z0 f;rw [<-f] at q
 clear f
 conv=>arg 2;whnf
 go_wp2_with (go_at_call 53;go_loud (refine (x.pick (N+2)).mono ?_;rw [<-z.out];rintro r w9 ⟨rfl,hd⟩;have b:=Z0 hd;have m8:=b.mb.cell 8;have f8:=b.mb.free 8;clear hd))
 exact q _ _ {} (b.set 8 (by omega) _)
structure FR (w0 w:Ag) (g:Nat) (v:Af) (l:List Int) (b4:Nat) (k:Nat) (m:Mg) (ve:Af):Prop where
 src:Src w g v l k
 grown:w0.grownBy w (Ac g)
 rb:Blk w b4 (msV m ve) 43
 es:Zh w w0.heap.size ve m.es
theorem FS.ret (h:FS w0 w g v l b3 b4 b5 n xr k m ve):FR w0 (w.setRow b4 (msV m ve)) g v l b4 k m ve:=by
 have d:NoU8 (msV m ve):=by obtain ⟨a,c,e⟩:=h.es.shape;unfold msV;rw [e];exact Zr
 have b:=h.dr.row 1 rfl (msV m ve) d;exact ⟨b.src,b.grown,b.blk 1 rfl,h.es.block λq e'=>setRow_other _ _ _ _ (Y5 h.es h.rb (by decide) q e')⟩
theorem df3 (i:SzD a 343)(f:Tv a 4=Ae (Ac ⟨b4,0,Ab⟩))(h:Tv a 5=Ae (Ac ⟨b5,0,Ab⟩))(b:FS w0 w g v l b3 b4 b5 n xr k m ve)(o:∀ a' w',SzD a' 343->Tv a' 4=Ae (Ac ⟨b4,0,Ab⟩)->FR w0 w' g v l b4 k m ve->K a' w'):(Z2 0 (Za (Z1 1 (Z2 2 (Z3 f54))))).wp Ad (Exit.then K Q) a w:=by
 obtain ⟨t,rfl⟩:=i.opened;clear i;rw [Z3x]
 try dsimp only
 rw [show t 4=_ from f,show t 5=_ from h];clear f h;have r:=Z0 b.mb;have e:=Z0 b.rb;have j:=Z0 b.ret;have p:Hid ((msV m ve).all (·.oneCell')=true):=by obtain ⟨a,c,q⟩:=b.es.shape;unfold Hid msV;rw [q];simp [Bh]
 have d:True:=trivial;clear b
 conv=>arg 2;whnf
 go_wp2_with (first
  |(refine Zd 43 _ rfl ?_;clear d;refine Z7 rfl 43 _ rfl b5 rfl r underlying43 rfl Ju rfl ?_)
  |(refine Zn 43 _ _ rfl ?_;refine Zg rfl 43 _ _ rfl b4 rfl rfl e Ju rfl rfl p ?_))
 exact o _ _ ⟨rfl,rfl⟩ rfl j
theorem df36 (i:SzD a 343)(f:Tv a 4=Ae (Ac ⟨b4,0,Ab⟩))(h:Tv a 5=Ae (Ac ⟨b5,0,Ab⟩))(b:FS w0 w g v l b3 b4 b5 n xr k m ve)(o:∀ a' w',SzD a' 343->Tv a' 4=Ae (Ac ⟨b4,0,Ab⟩)->FR w0 w' g v l b4 k m ve->K a' w'):(Z2 2 (Za (Z1 1 (Z2 18 (Z3 f54))))).wp Ad (Exit.then K Q) a w:=by
 obtain ⟨t,rfl⟩:=i.opened;clear i;rw [Z3x]
 try dsimp only
 rw [show t 4=_ from f,show t 5=_ from h];clear f h;have r:=Z0 b.mb;have e:=Z0 b.rb;have j:=Z0 b.ret;have p:Hid ((msV m ve).all (·.oneCell')=true):=by obtain ⟨a,c,q⟩:=b.es.shape;unfold Hid msV;rw [q];simp [Bh]
 have d:True:=trivial;clear b
 conv=>arg 2;whnf
 go_wp2_with (first
  |(refine Zd 43 _ rfl ?_;clear d;refine Z7 rfl 43 _ rfl b5 rfl r underlying43 rfl Ju rfl ?_)
  |(refine Zn 43 _ _ rfl ?_;refine Zg rfl 43 _ _ rfl b4 rfl rfl e Ju rfl rfl p ?_))
 exact o _ _ ⟨rfl,rfl⟩ rfl j
theorem df38 (i:SzD a 343)(f:Tv a 4=Ae (Ac ⟨b4,0,Ab⟩))(h:Tv a 5=Ae (Ac ⟨b5,0,Ab⟩))(b:FS w0 w g v l b3 b4 b5 n xr k m ve)(o:∀ a' w',SzD a' 343->Tv a' 4=Ae (Ac ⟨b4,0,Ab⟩)->FR w0 w' g v l b4 k m ve->K a' w'):(Z2 0 (Za (Z1 1 (Z2 19 (Z3 f54))))).wp Ad (Exit.then K Q) a w:=by
 obtain ⟨t,rfl⟩:=i.opened;clear i;rw [Z3x]
 try dsimp only
 rw [show t 4=_ from f,show t 5=_ from h];clear f h;have r:=Z0 b.mb;have e:=Z0 b.rb;have j:=Z0 b.ret;have p:Hid ((msV m ve).all (·.oneCell')=true):=by obtain ⟨a,c,q⟩:=b.es.shape;unfold Hid msV;rw [q];simp [Bh]
 have d:True:=trivial;clear b
 conv=>arg 2;whnf
 go_wp2_with (first
  |(refine Zd 43 _ rfl ?_;clear d;refine Z7 rfl 43 _ rfl b5 rfl r underlying43 rfl Ju rfl ?_)
  |(refine Zn 43 _ _ rfl ?_;refine Zg rfl 43 _ _ rfl b4 rfl rfl e Ju rfl rfl p ?_))
 exact o _ _ ⟨rfl,rfl⟩ rfl j
theorem df51 (i:SzD a 343)(f:Tv a 4=Ae (Ac ⟨b4,0,Ab⟩))(h:Tv a 5=Ae (Ac ⟨b5,0,Ab⟩))(b:FS w0 w g v l b3 b4 b5 n xr k m ve)(o:∀ a' w',SzD a' 343->Tv a' 4=Ae (Ac ⟨b4,0,Ab⟩)->FR w0 w' g v l b4 k m ve->K a' w'):(Z2 1 (Za (Z1 1 (Z2 24 (Z3 f54))))).wp Ad (Exit.then K Q) a w:=by
 obtain ⟨t,rfl⟩:=i.opened;clear i;rw [Z3x]
 try dsimp only
 rw [show t 4=_ from f,show t 5=_ from h];clear f h;have r:=Z0 b.mb;have e:=Z0 b.rb;have j:=Z0 b.ret;have p:Hid ((msV m ve).all (·.oneCell')=true):=by obtain ⟨a,c,q⟩:=b.es.shape;unfold Hid msV;rw [q];simp [Bh]
 have d:True:=trivial;clear b
 conv=>arg 2;whnf
 go_wp2_with (first
  |(refine Zd 43 _ rfl ?_;clear d;refine Z7 rfl 43 _ rfl b5 rfl r underlying43 rfl Ju rfl ?_)
  |(refine Zn 43 _ _ rfl ?_;refine Zg rfl 43 _ _ rfl b4 rfl rfl e Ju rfl rfl p ?_))
 exact o _ _ ⟨rfl,rfl⟩ rfl j
theorem df71 (i:SzD a 343)(f:Tv a 4=Ae (Ac ⟨b4,0,Ab⟩))(h:Tv a 5=Ae (Ac ⟨b5,0,Ab⟩))(b:FS w0 w g v l b3 b4 b5 n xr k m ve)(o:∀ a' w',SzD a' 343->Tv a' 4=Ae (Ac ⟨b4,0,Ab⟩)->FR w0 w' g v l b4 k m ve->K a' w'):(Z2 31 (Z3 f54)).wp Ad (Exit.then K Q) a w:=by
 obtain ⟨t,rfl⟩:=i.opened;clear i;rw [Z3x]
 try dsimp only
 rw [show t 4=_ from f,show t 5=_ from h];clear f h;have r:=Z0 b.mb;have e:=Z0 b.rb;have j:=Z0 b.ret;have p:Hid ((msV m ve).all (·.oneCell')=true):=by obtain ⟨a,c,q⟩:=b.es.shape;unfold Hid msV;rw [q];simp [Bh]
 have d:True:=trivial;clear b
 conv=>arg 2;whnf
 go_wp2_with (first
  |(refine Zd 43 _ rfl ?_;clear d;refine Z7 rfl 43 _ rfl b5 rfl r underlying43 rfl Ju rfl ?_)
  |(refine Zn 43 _ _ rfl ?_;refine Zg rfl 43 _ _ rfl b4 rfl rfl e Ju rfl rfl p ?_))
 exact o _ _ ⟨rfl,rfl⟩ rfl j
end
section
variable {w0 w:Ag}{g k b3 b4 b5:Nat}{v ve e9:Af}{l:List Int}{n:Nd}{xr:RV}{m:Mg}{Q:Ca->Bn->Ag->Prop}{K:Bn->Ag->Prop}{a:Bn}
theorem df37 (i:Zo g b3 b4 b5 a)(f:Tv a 9=e9)(e:FS w0 w g v l b3 b4 b5 n xr k m ve)(c:∀ a' w',Zo g b3 b4 b5 a'->Tv a' 9=e9->Tv a' 187=.bool (decide (m.ki=2∨m.ki=4))->FS w0 w' g v l b3 b4 b5 n xr k m ve->K a' w'):(Z2 0 (Z2 19 (Z3 f54))).wp Ad (Exit.then K Q) a w:=by
 obtain ⟨t,rfl⟩:=i.op;clear i;rw [show t 9=_ from f];clear f;obtain ⟨ki,b⟩:=exq (m.ki);have j:w.cell? ⟨b5,0,Ab⟩=Ac (Aa O ki):=b▸e.mb.cell 0
 rw [<-b] at c;have d:=Z0 e;clear e b
 conv=>arg 2;whnf
 by_cases g1:ki=2
 ·go_wp2_with fail
  exact c _ _ {} rfl (by simp [Bi,g1]) d
 ·by_cases h:ki=4
  ·go_wp2_with fail
   exact c _ _ {} rfl (by simp [Bi,h]) d
  ·go_wp2_with fail
   exact c _ _ {} rfl (by simp [Bi,g1,h]) d
theorem df39t (hL:l.length<=1048576)(s:k<=890000000)(d:m.ki=5)(h:Zo g b3 b4 b5 a)(f:Tv a 9=e9)(e:FS w0 w g v l b3 b4 b5 n xr k m ve)(i:∀ a' w',Zo g b3 b4 b5 a'->Tv a' 9=e9->Tv a' 10=.bool (decide (Z4 l k 3=0))->FS w0 w' g v l b3 b4 b5 n xr (k+1) m ve->K a' w'):(Z2 20 (Z3 f54)).wp Ad (Exit.then K Q) a w:=by
 obtain ⟨t,rfl⟩:=h.op;clear h;rw [show t 9=_ from f];clear f;have x:w.cell? ⟨b5,0,Ab⟩=Ac (Aa O 5):=d▸e.mb.cell 0
 have j:=Z0 e;clear e;obtain ⟨p,b⟩:=exq (Z4 l k 3);have o:=Z0 b;rw [<-b] at i
 clear b
 conv=>arg 2;whnf
 go_wp2_with (go_at_call 53;go_loud (refine (j.pick1 3).mono ?_;rw [<-o.out];rintro r u ⟨rfl,hd⟩;have c:=Z0 hd;clear hd))
 exact i _ _ {} rfl (by simp [Bi,beq0]) c
theorem df39f (b:¬ m.ki=5)(e:Zo g b3 b4 b5 a)(d:Tv a 9=e9)(c:FS w0 w g v l b3 b4 b5 n xr k m ve)(f:∀ a' w',Zo g b3 b4 b5 a'->Tv a' 9=e9->Tv a' 10=.bool false->FS w0 w' g v l b3 b4 b5 n xr k m ve->K a' w'):(Z2 20 (Z3 f54)).wp Ad (Exit.then K Q) a w:=by
 obtain ⟨t,rfl⟩:=e.op;clear e;rw [show t 9=_ from d];clear d;have j:w.cell? ⟨b5,0,Ab⟩=Ac (Aa O m.ki):=c.mb.cell 0;have i:(m.ki == 5)=false:=by simpa using b
 have h:=Z0 c;clear c
 conv=>arg 2;whnf
 go_wp2_with fail
 exact f _ _ {} rfl rfl h
theorem df40 {b:Bool}(f:Zo g b3 b4 b5 a)(d:Tv a 9=e9)(c:Tv a 10=.bool b)(e:FS w0 w g v l b3 b4 b5 n xr k m ve)(h:∀ a' w',Zo g b3 b4 b5 a'->Tv a' 9=e9->Tv a' 10=.bool b->Tv a' 197=.bool b->FS w0 w' g v l b3 b4 b5 n xr k m ve->K a' w'):(Z2 0 (Z2 21 (Z3 f54))).wp Ad (Exit.then K Q) a w:=by
 obtain ⟨t,rfl⟩:=f.op;clear f;rw [show t 9=_ from d,show t 10=_ from c];clear d c;have i:=Z0 e;clear e
 conv=>arg 2;whnf
 go_wp2_with fail
 exact h _ _ {} rfl rfl rfl i
variable {t9:Int}{e10:Af}
theorem df41 (hL:l.length<=1048576)(hk:k<=890000000)(j:∃ a c,xr.vl=I a n.log.length c)(af:n.log.length<=4096)(r:Zo g b3 b4 b5 a)(h9:Tv a 9=Aa O t9)(aj:Tv a 10=e10)(hS:FS w0 w g v l b3 b4 b5 n xr k m ve)(s:∀ a' w',Zo g b3 b4 b5 a'->Tv a' 10=e10->Tv a' 9=Aa O (max 0 (min ((n.log.length:Int)-1-((Z4 l k 3:Nat):Int)) (max t9 n.cm)))->FS w0 w' g v l b3 b4 b5 n xr (k+1) m ve->K a' w'):(Za (Z1 1 (Z2 21 (Z3 f54)))).wp Ad (Exit.then K Q) a w:=by
 obtain ⟨ra,rc,o⟩:=j;have u:=Z0 o;obtain ⟨N,hN⟩:=exq (n.log.length);rw [<-hN] at s u af;clear hN o;obtain ⟨p,x⟩:=exq (Z4 l k 3);have Hp:=Z0 x;rw [<-x] at s;have bp:p<3:=x▸Z6 _ _ _ (by omega)
 clear x;obtain ⟨y,d⟩:=exq (max t9 n.cm);have H1:=Z0 d;obtain ⟨A2,b⟩:=exq (min ((N:Int)-1-(p:Int)) y);have H2:=Z0 b;obtain ⟨A3,i⟩:=exq (max 0 A2);have H3:=Z0 i;rw [<-d,<-b,<-i] at s;clear d b i
 conv=>arg 2;whnf
 refine Z14 [Ac 198,Ac 199,Ac 200,Ac 201,Ac 202,Ac 203,Ac 204,Ac 205,Ac 206,Ac 207,Ac 208,Ac 209,Ac 210,Ac 9] [Ae (Ac ⟨b3,12,Ab⟩),I ra N rc,Aa O (N:Int),Aa O ((N:Int)-1),Ae (Ac ⟨g,0,Ab⟩),Aa O (p:Int),Aa O ((N:Int)-1-(p:Int)),Aa O t9,Ae (Ac ⟨b3,8,Ab⟩),Aa O n.cm,Aa O y,Aa O A2,Aa O A3,Aa O A3] (λW=>FS w0 W g v l b3 b4 b5 n xr k m ve) (λW=>FS w0 W g v l b3 b4 b5 n xr k m ve) (λW=>FS w0 W g v l b3 b4 b5 n xr (k+1) m ve) 5 5 (by kernel_rfl) rfl r.sz.1 rfl (by decide) (by decide) (by decide) [] (.inl rfl) hS.drew (λa' w' L l R t=>s a' w' (r.rf R rfl) (R.keep 10 _ rfl aj) (R.new 13 _ _ (l 13 (by decide)) rfl rfl) t) ⟨_,_,_,rfl,rfl,rfl,λu1 u2 u3 u4 u5=>?_⟩ (.inl rfl) (Zq (Zq (Zq (Zq (Zq (Zq (Zq (Zq (Zq (Zq (Zq (Zq (Zq (Zq (lt_z) (λ_ _=>?_)) (λ_ _=>?_)) (λ_ _=>?_)) (λ_ _=>?_)) (λ_ _=>?_)) (λp q=>(p rfl).elim)) (λ_ _=>?_)) (λ_ _=>?_)) (λ_ _=>?_)) (λ_ _=>?_)) (λ_ _=>?_)) (λ_ _=>?_)) (λ_ _=>?_)) (λ_ _=>?_))
 all_goals clear s
 ·have f:=u3.y 4
  refine Zs rfl rfl (Yg (N:=53) rfl (λ_ _=>by go_simp) #[Ae (Ac ⟨g,0,Ab⟩),Aa O 3] (by simp only [Bm,Bq,Bu,f,Z51]) ?_);refine Calls.mono (FS.pick1 u5 3) ?_;rw [<-Hp.out];rintro e w2 ⟨rfl,hd⟩;exact ⟨_,rfl,rfl,by rw [if_pos rfl];exact hd⟩
 ·refine PO.val λu1 u2 u3 u4 u5=>?_
  have ac:=u4.z r.e3;go_simp
 ·refine PO.val λu1 u2 u3 u4 u5=>?_
  have ak:u2.cell? ⟨b3,12,Ab⟩=Ac (I ra N rc):=by rcases u5 with h | h | h <;> (rw [<-u.out];exact (FS.nb h).cell 12)
  have ad:=u3.z 0;go_simp
 ·refine PO.val λu1 u2 u3 u4 u5=>?_
  have ai:=u3.z 1;go_simp
 ·refine PO.val λu1 u2 u3 u4 u5=>?_
  have z:=u3.z 2;go_simp;rw [Bl];omega
 ·refine PO.val λu1 u2 u3 u4 u5=>?_
  have al:=u4.z r.e0;go_simp
 ·refine PO.val λu1 u2 u3 u4 u5=>?_
  have ae:=u3.z 3;have aa:=u3.z 5;go_simp;rw [Bl];omega
 ·refine PO.val λu1 u2 u3 u4 u5=>?_
  have am:=Zu (u4 9 _ [12,11,10] rfl h9);go_simp
 ·refine PO.val λu1 u2 u3 u4 u5=>?_
  have ac:=u4.z r.e3;go_simp
 ·refine PO.val λu1 u2 u3 u4 u5=>?_
  have ab:u2.cell? ⟨b3,8,Ab⟩=Ac (Aa O n.cm):=by rcases u5 with h | h | h <;> exact (FS.nb h).cell 8
  have ah:=u3.z 8;go_simp
 ·refine PO.call (N:=94) #[Aa O t9,Aa O n.cm] rfl rfl rfl rfl rfl (λ_ _=>by go_simp) (λu1 u3 u4=>?_) λu2=>?_
  ·simp only [Bm,Bq,Bu,u3.y 7,u3.y 9]
  ·rw [H1.out];exact Xt _ _ _
 ·refine PO.call (N:=55) #[Aa O ((N:Int)-1-(p:Int)),Aa O y] rfl rfl rfl rfl rfl (λ_ _=>by go_simp) (λu1 u3 u4=>?_) λu2=>?_
  ·simp only [Bm,Bq,Bu,u3.y 6,u3.y 10]
  ·rw [H2.out];exact Xh _ _ _
 ·refine PO.call (N:=94) #[Aa O 0,Aa O A2] rfl rfl rfl rfl rfl (λ_ _=>by go_simp) (λu1 u3 u4=>?_) λu2=>?_
  ·simp only [Bm,Bq,Bu,u3.y 11,Z51]
  ·rw [H3.out];exact Xt _ _ _
 ·refine PO.val λu1 u2 u3 u4 u5=>?_
  have ag:=u3.z 12;go_simp
theorem df42 (e:Zo g b3 b4 b5 a)(d:Tv a 9=Aa O t9)(b:Tv a 10=e10)(c:FS w0 w g v l b3 b4 b5 n xr k m ve)(f:∀ a' w',Zo g b3 b4 b5 a'->Tv a' 9=Aa O t9->Tv a' 10=e10->FS w0 w' g v l b3 b4 b5 n xr k { m with li:=t9 } ve->K a' w'):(Z2 22 (Z3 f54)).wp Ad (Exit.then K Q) a w:=by
 obtain ⟨t,rfl⟩:=e.op;clear e;rw [show t 9=_ from d,show t 10=_ from b];clear d b;have o:=c.mb.cell 4;have j:=c.mb.free 4;have i:=Z0 c;clear c
 conv=>arg 2;whnf
 go_wp2_with fail
 exact f _ _ {} rfl rfl (i.set 4 (by omega) _)
theorem df43 (d:Zo g b3 b4 b5 a)(e:Tv a 9=Aa O t9)(b:Tv a 10=e10)(c:FS w0 w g v l b3 b4 b5 n xr k m ve)(f:∀ a' w',Zo g b3 b4 b5 a'->Tv a' 9=Aa O t9->Tv a' 10=e10->Tv a' 214=.bool (decide (0<t9))->FS w0 w' g v l b3 b4 b5 n xr k m ve->K a' w'):(Z2 0 (Z2 23 (Z3 f54))).wp Ad (Exit.then K Q) a w:=by
 obtain ⟨t,rfl⟩:=d.op;clear d;rw [show t 9=_ from e,show t 10=_ from b];clear e b;have h:=Z0 c;clear c
 conv=>arg 2;whnf
 go_wp2_with fail
 exact f _ _ {} rfl rfl rfl h
theorem df44 (e:Zo g b3 b4 b5 a)(d:Tv a 9=Aa O t9)(c:Tv a 10=e10)(b:FS w0 w g v l b3 b4 b5 n xr k m ve)(f:∀ a' w',Zo g b3 b4 b5 a'->Tv a' 9=Aa O t9->Tv a' 10=e10->FS w0 w' g v l b3 b4 b5 n xr k { m with lt:=m.tm } ve->K a' w'):(Z2 0 (Za (Z1 1 (Z2 23 (Z3 f54))))).wp Ad (Exit.then K Q) a w:=by
 obtain ⟨t,rfl⟩:=e.op;clear e;rw [show t 9=_ from d,show t 10=_ from c];clear d c;have j:w.cell? ⟨b5,3,Ab⟩=Ac (Aa O m.tm):=b.mb.cell 3;have o:w.cell? ⟨b5,5,Ab⟩=Ac (Aa O m.lt):=b.mb.cell 5;have i:=b.mb.free 5;have h:=Z0 b;clear b
 conv=>arg 2;whnf
 go_wp2_with fail
 exact f _ _ {} rfl rfl (h.set 5 (by omega) _)
end
section
structure LgQ (w0:Ag) (g:Nat) (x:RV) (n:Nd) (q c:Nat):Prop where
 vl:x.vl=I (Ac ⟨q,0,Ab⟩) n.log.length c
 lt:q<w0.heap.size
 ne:q≠g
 ent:∀ j (h:j<n.log.length),Ja w0 q (j*7) n.log[j]
 fit:∀ e∈n.log,e.fits
variable {w:Ag}
theorem Ja.keep {w':Ag}{b o:Nat}{e:Ent}(h:Ja w b o e)(p:w'.heap[b]? = w.heap[b]?):Ja w' b o e:=by
 have d:∀ j,w'.cell? ⟨b,j,Ab⟩=w.cell? ⟨b,j,Ab⟩:=λj=>by unfold World.cell?;rw [p]
 obtain ⟨y,r,f,s,u,i,t⟩:=h;exact ⟨(d _).trans y,(d _).trans r,(d _).trans f,(d _).trans s,(d _).trans u,(d _).trans i,(d _).trans t⟩
structure GS (w0 w:Ag) (g:Nat) (v:Af) (l:List Int) (b3 b4 b5:Nat) (n:Nd) (x:RV) (k:Nat) (m:Mg) (ve ev:Af) (es:List Ent):Prop where
 dr:Dr w0 w g v l k [(b3,ndC n x,36),(b4,mg10,43),(b5,msV m ve,43)]
 es:Zh w w0.heap.size ev es
theorem Z4u (x:Ent):∀(l:List Ent) (i:Nat) (hi:i<l.length),Zv (l.set i x)=setL (Zv l) (i*7) x.cells
 | [],i,hi=>by simp at hi
 | e :: l,0,hi=>by simp [Zv,Ent.cells,setL]
 | e :: l,i+1,hi=>by
  have b:i<l.length:=by simpa using hi
  have d:e.cells.length=7:=rfl;simp only [List.set_cons_succ,Zv];rw [Z4u x l i b,show (i+1)*7=e.cells.length+(i*7) by rw [d];omega,setL_app _ x.cells (Zv l) (i*7)]
variable {q n c:Nat}
theorem grewCellG {i:Nat}(x:Af):Ye w (I (Ac ⟨q,0,Ab⟩) n c) (w.setCell ⟨q,i,Ab⟩ x) (I (Ac ⟨q,0,Ab⟩) n c):=
 ⟨⟨rfl,rfl,rfl,by simp,λk _ hk=>Below.heap_setCell _ _ _ _ (λe=>hk (by rw [e];rfl))⟩,.inl rfl⟩
theorem Z8h : ∀(vs:List Af) (w:Ag) (i:Nat),Ye w (I (Ac ⟨q,0,Ab⟩) n c) (w.setCells q i vs) (I (Ac ⟨q,0,Ab⟩) n c)
 | [],w,i=>Ye.refl _ _
 | v :: vs,w,i=>(grewCellG v).trans (Z8h vs _ (i+1))
section
variable {w0 w w':Ag} {g:Nat} {v:Af} {l:List Int} {k k' b3 b4 b5:Nat} {n:Nd} {x:RV} {m m':Mg} {ve ev:Af} {es:List Ent}
variable {q:Nat}
theorem FS.old (h:FS w0 w g v l b3 b4 b5 n x k m ve)(b:q<w0.heap.size)(d:q≠g):w.heap[q]? = w0.heap[q]?:=h.dr.grown.block q b (λe=>by injection e with e;exact d e)
theorem GS.old (h:GS w0 w g v l b3 b4 b5 n x k m ve ev es)(b:q<w0.heap.size)(d:q≠g):w.heap[q]? = w0.heap[q]?:=h.dr.grown.block q b (λe=>by injection e with e;exact d e)
theorem GS.call (h:GS w0 w g v l b3 b4 b5 n x k m ve ev es)(d:Src w' g v l k')(b:w.grownBy w' (Ac g)):GS w0 w' g v l b3 b4 b5 n x k' m ve ev es:=
 ⟨h.dr.call d b,h.es.block λq e=>b.block q (World.ownsRow.lt h.es.2 q e).2 (λe'=>by injection e' with e';have f:=(World.ownsRow.lt h.es.2 q e).1;have:=h.dr.gl;omega)⟩
theorem GS.below (h:GS w0 w g v l b3 b4 b5 n x k m ve ev es)(b:Below w.heap.size w w'):GS w0 w' g v l b3 b4 b5 n x k m ve ev es:=⟨h.dr.below b,h.es.below b⟩
theorem GS.pick1 (h:GS w0 w g v l b3 b4 b5 n x k m ve ev es)(q:Nat)(hL:l.length<=1048576:=by assumption)(d:k<=900000000:=by omega)(f:0<q:=by omega)(b:q<=256:=by omega) :
  Calls Ad 53 #[Ae (Ac ⟨g,0,Ab⟩),Aa O q] w λe w'=>e=.returned (Aa O (Z4 l k q:Nat))/\GS w0 w' g v l b3 b4 b5 n x (k+1) m ve ev es:=
 (Zk g w v l k q hL d f (by omega) h.dr.src).mono λe w' ⟨h1,h2,h3⟩=>⟨h1,by rw [show Zf q=1 by unfold Zf;rw [if_pos b]] at h2;exact h.call h2 h3⟩
theorem GS.nb (h:GS w0 w g v l b3 b4 b5 n x k m ve ev es):Blk w b3 (ndC n x) 36:=h.dr.blk 0 rfl
theorem GS.rb (h:GS w0 w g v l b3 b4 b5 n x k m ve ev es):Blk w b4 mg10 43:=h.dr.blk 1 rfl
theorem GS.mb (h:GS w0 w g v l b3 b4 b5 n x k m ve ev es):Blk w b5 (msV m ve) 43:=h.dr.blk 2 rfl
theorem GS.grew (h:GS w0 w g v l b3 b4 b5 n x k m ve ev es)(b:Ye w ev w' ev):Dr w0 w' g v l k [(b3,ndC n x,36),(b4,mg10,43),(b5,msV m ve,43)]:=by
 refine h.dr.grew b (λq e=>(World.ownsRow.lt h.es.2 q e).1) (λy hy=>?_);simp only [List.mem_cons,List.not_mem_nil,or_false] at hy;rcases hy with rfl | rfl | rfl
 ·exact λe=>Y5 h.es h.nb (by decide) _ e rfl
 ·exact λe=>Y5 h.es h.rb (by decide) _ e rfl
 ·exact λe=>Y5 h.es h.mb (by decide) _ e rfl
variable {c:Nat}
theorem GS.setT (h:GS w0 w g v l b3 b4 b5 n x k m ve (I (Ac ⟨q,0,Ab⟩) es.length c) es)(i:Nat)(hi:i<es.length)(T:Int):GS w0 (w.setCell ⟨q,i*7,Ab⟩ (Aa O T)) g v l b3 b4 b5 n x k m ve (I (Ac ⟨q,0,Ab⟩) es.length c) (es.set i (J4 T es[i])):=
 ⟨h.grew (grewCellG _),h.es.setT rfl i hi T⟩
theorem GS.setE (h:GS w0 w g v l b3 b4 b5 n x k m ve (I (Ac ⟨q,0,Ab⟩) es.length c) es)(i:Nat)(hi:i<es.length)(e:Ent)(b:e.fits):GS w0 (w.setCells q (i*7) e.cells) g v l b3 b4 b5 n x k m ve (I (Ac ⟨q,0,Ab⟩) es.length c) (es.set i e):=by
 refine ⟨h.grew (Z8h _ _ _),λy hy=>?_,?_⟩
 ·rcases List.mem_or_eq_of_mem_set hy with hy | hy
  ·exact h.es.1 y hy
  ·subst hy;exact b
 ·rw [Bg,Z4u e es i hi]
  exact Z2t _ _ _ _ h.es.2
theorem GS.done (h:GS w0 w g v l b3 b4 b5 n x k m ve ev es):FS w0 (w.setCell ⟨b5,9,Ab⟩ ev) g v l b3 b4 b5 n x k { m with es:=es } ev:=by
 obtain ⟨a,c,b⟩:=h.es.shape;have hd:=h.dr.set 2 rfl 9 (by show 9<10;omega) ev (by rw [b];rfl);exact ⟨hd,h.es.block λq e=>Below.heap_setCell _ _ _ _ (Y5 h.es h.mb (by decide) q e)⟩
end
variable {w0 w:Ag}{g k b3 b4 b5:Nat}{v ve e10:Af}{l:List Int}{n:Nd}{xr:RV}{m:Mg}{t9:Int}{Q:Ca->Bn->Ag->Prop}{K:Bn->Ag->Prop}{a:Bn}
theorem df45 (b:∃ a c,xr.vl=I a n.log.length c)(h:n.log.length<=4096)(r:Zo g b3 b4 b5 a)(p:Tv a 9=Aa O t9)(e:Tv a 10=e10)(f:FS w0 w g v l b3 b4 b5 n xr k m ve)(o:∀ a' w',Zo g b3 b4 b5 a'->Tv a' 9=Aa O t9->Tv a' 10=e10->Tv a' 222=.bool (decide (t9<=(n.log.length:Int)))->FS w0 w' g v l b3 b4 b5 n xr k m ve->K a' w'):(Z2 0 (Z2 1 (Za (Z1 1 (Z2 23 (Z3 f54)))))).wp Ad (Exit.then K Q) a w:=by
 obtain ⟨t,rfl⟩:=r.op;clear r;rw [show t 9=_ from p,show t 10=_ from e];clear p e;obtain ⟨u,y,d⟩:=b;have i:w.cell? ⟨b3,12,Ab⟩=Ac (I u n.log.length y):=d▸f.nb.cell 12
 clear d;obtain ⟨N,j⟩:=exq (n.log.length);rw [<-j] at i o h;have s:=Z0 f;clear f;clear j
 conv=>arg 2;whnf
 go_wp2_with fail
 exact o _ _ {} rfl rfl rfl s
theorem df46 {q c J:Nat}(e:LgQ w0 g xr n q c)(hJ:J<n.log.length)(ae:n.log.length<=4096)(i:Zo g b3 b4 b5 a)(h9:Tv a 9=Aa O ((J:Int)+1))(z:Tv a 10=e10)(hS:FS w0 w g v l b3 b4 b5 n xr k m ve)(hP:∀ a' w',Zo g b3 b4 b5 a'->Tv a' 9=Aa O ((J:Int)+1)->Tv a' 10=e10->FS w0 w' g v l b3 b4 b5 n xr k { m with lt:=min n.log[J].t m.tm } ve->K a' w'):(Za (Z1 1 (Z2 1 (Za (Z1 1 (Z2 23 (Z3 f54))))))).wp Ad (Exit.then K Q) a w:=by
 have f:=e.vl;have j:=e.ent J hJ;have ai:=e.lt;have y:=e.ne;obtain ⟨r,d⟩:=exq (n.log[J].t);have s:w0.cell? ⟨q,J*7,Ab⟩=Ac (Aa O r):=d▸j.1
 obtain ⟨A1,b⟩:=exq (min n.log[J].t m.tm);rw [<-b] at hP;rw [<-d] at b;have H1:=Z0 b;clear d b;have o:=Z0 f;obtain ⟨N,hN⟩:=exq (n.log.length);rw [<-hN] at o;have au:J<N:=by omega
 have aq:(J:Int)<(N:Int):=by omega
 have aw:N<=4096:=by omega
 clear hN f j e hJ ae;have av:=wrx (J:Int)
 conv=>arg 2;whnf
 refine Z14 [Ac 223,Ac 224,Ac 225,Ac 226,Ac 227,Ac 228,Ac 229,Ac 230,Ac 231,Ac 232,Ac 233,Ab] [Ae (Ac ⟨b3,12,Ab⟩),I (Ac ⟨q,0,Ab⟩) N c,Aa O ((J:Int)+1),Aa O (J:Int),Ae (Ac ⟨q,J*7,Ab⟩),Ae (Ac ⟨q,J*7,Ab⟩),Aa O r,Ae (Ac ⟨b5,3,Ab⟩),Aa O m.tm,Aa O A1,Ae (Ac ⟨b5,5,Ab⟩),undef] (λW=>FS w0 W g v l b3 b4 b5 n xr k m ve) (λW=>FS w0 W g v l b3 b4 b5 n xr k m ve) (λW=>FS w0 W g v l b3 b4 b5 n xr k { m with lt:=A1 } ve) 11 11 (by kernel_rfl) rfl i.sz.1 rfl (by decide) (by decide) (by decide) [] (.inl rfl) hS.drew (λa' w' L l R t=>hP a' w' (i.rf R rfl) (R.keep 9 _ rfl h9) (R.keep 10 _ rfl z) t) ⟨_,_,_,rfl,rfl,rfl,λu1 u2 u3 u4 u5=>?_⟩ (.inl rfl) (Zq (Zq (Zq (Zq (Zq (Zq (Zq (Zq (Zq (Zq (Zq (Zq (lt_z) (λ_ _=>?_)) (λ_ _=>?_)) (λ_ _=>?_)) (λ_ _=>?_)) (λ_ _=>?_)) (λ_ _=>?_)) (λ_ _=>?_)) (λ_ _=>?_)) (λ_ _=>?_)) (λ_ _=>?_)) (λ_ _=>?_)) (λp q=>(p rfl).elim))
 all_goals clear hP
 ·have ad:=u3.y 10
  have ac:=u3.y 9;refine Zs rfl rfl (wp_st1 (.tmp 233) (.tmp 232) rfl ad ac (u5.mb.cell 5) (u5.mb.free 5) rfl ?_);exact ⟨rfl,by rw [if_pos rfl];exact FS.set u5 5 (by omega) _⟩
 ·refine PO.val λu1 u2 u3 u4 u5=>?_
  have an:=u4.z i.e3;go_simp
 ·refine PO.val λu1 u2 u3 u4 u5=>?_
  have am:u2.cell? ⟨b3,12,Ab⟩=Ac (I (Ac ⟨q,0,Ab⟩) N c):=by rcases u5 with h | h | h <;> (rw [<-o.out];exact (FS.nb h).cell 12)
  have al:=u3.z 0;go_simp
 ·refine PO.val λu1 u2 u3 u4 u5=>?_
  have ao:=u4.z h9;go_simp
 ·refine PO.val λu1 u2 u3 u4 u5=>?_
  have aa:=u3.z 2;go_simp
 ·refine PO.val λu1 u2 u3 u4 u5=>?_
  have ag:=u3.z 1;have ab:=u3.z 3;go_simp
 ·refine PO.val λu1 u2 u3 u4 u5=>?_
  have u:=u3.z 4;go_simp
 ·refine PO.val λu1 u2 u3 u4 u5=>?_
  have ar:u2.cell? ⟨q,J*7,Ab⟩=Ac (Aa O r):=by rcases u5 with h | h | h <;> (rw [<-s];unfold World.cell?;rw [FS.old h ai y])
  have ah:=u3.z 5;go_simp
 ·refine PO.val λu1 u2 u3 u4 u5=>?_
  have ak:=u4.z i.e5;go_simp
 ·refine PO.val λu1 u2 u3 u4 u5=>?_
  have af:u2.cell? ⟨b5,3,Ab⟩=Ac (Aa O m.tm):=by rcases u5 with h | h | h <;> exact (FS.mb h).cell 3
  have aj:=u3.z 7;go_simp
 ·refine PO.call (N:=55) #[Aa O r,Aa O m.tm] rfl rfl rfl rfl rfl (λ_ _=>by go_simp) (λu1 u3 u4=>?_) λu2=>?_
  ·simp only [Bm,Bq,Bu,u3.y 6,u3.y 8]
  ·rw [H1.out];exact Xh _ _ _
 ·refine PO.val λu1 u2 u3 u4 u5=>?_
  have ak:=u4.z i.e5;go_simp
theorem df47 (hL:l.length<=1048576)(z:k<=890000000)(j:Zo g b3 b4 b5 a)(h:Tv a 9=Aa O t9)(b:Tv a 10=e10)(i:FS w0 w g v l b3 b4 b5 n xr k m ve)(f:∀ a' w',Zo g b3 b4 b5 a'->Tv a' 9=Aa O t9->Tv a' 10=e10->Tv a' 236=.bool (decide (Z4 l k 6=0))->FS w0 w' g v l b3 b4 b5 n xr (k+1) m ve->K a' w'):(Z2 2 (Za (Z1 1 (Z2 23 (Z3 f54))))).wp Ad (Exit.then K Q) a w:=by
 obtain ⟨t,rfl⟩:=j.op;clear j;rw [show t 9=_ from h,show t 10=_ from b];clear h b;have o:=Z0 i;clear i;obtain ⟨p,d⟩:=exq (Z4 l k 6);have s:=Z0 d;rw [<-d] at f
 clear d
 conv=>arg 2;whnf
 go_wp2_with (go_at_call 53;go_loud (refine (o.pick1 6).mono ?_;rw [<-s.out];rintro r u ⟨rfl,hd⟩;have e:=Z0 hd;clear hd))
 exact f _ _ {} rfl rfl (by simp [Bi,beq0]) e
theorem df48 (u:0<=m.lt/\m.lt<=1099511627776)(j:Zo g b3 b4 b5 a)(h:Tv a 9=Aa O t9)(d:Tv a 10=e10)(e:FS w0 w g v l b3 b4 b5 n xr k m ve)(f:∀ a' w',Zo g b3 b4 b5 a'->Tv a' 9=Aa O t9->Tv a' 10=e10->FS w0 w' g v l b3 b4 b5 n xr k { m with lt:=max 1 (m.lt-1) } ve->K a' w'):(Za (Z1 3 (Za (Z1 1 (Z2 23 (Z3 f54)))))).wp Ad (Exit.then K Q) a w:=by
 obtain ⟨t,rfl⟩:=j.op;clear j;rw [show t 9=_ from h,show t 10=_ from d];clear h d;have m5:w.cell? ⟨b5,5,Ab⟩=Ac (Aa O m.lt):=e.mb.cell 5;have z:=e.mb.free 5;have o:=Z0 e;clear e;obtain ⟨M1,b⟩:=exq (max 1 (m.lt-1));have s:=Z0 b;rw [<-b] at f;clear b;have p:=wrx (m.lt-1)
 conv=>arg 2;whnf
 go_wp2_with (go_at_call 94;go_loud (refine (Xt _ _ _).mono ?_;rw [<-s.out];rintro r y ⟨rfl,i⟩;obtain rfl:=i.symm;clear i))
 exact f _ _ {} rfl rfl (o.set 5 (by omega) _)
theorem df49 (f:Zo g b3 b4 b5 a)(e:Tv a 9=Aa O t9)(b:Tv a 10=e10)(d:FS w0 w g v l b3 b4 b5 n xr k m ve)(h:∀ a' w',Zo g b3 b4 b5 a'->Tv a' 9=Aa O t9->Tv a' 10=e10->Tv a' 244=.bool (m.ki != 5)->FS w0 w' g v l b3 b4 b5 n xr k m ve->K a' w'):(Z2 0 (Z2 24 (Z3 f54))).wp Ad (Exit.then K Q) a w:=by
 obtain ⟨t,rfl⟩:=f.op;clear f;rw [show t 9=_ from e,show t 10=_ from b];clear e b;have j:w.cell? ⟨b5,0,Ab⟩=Ac (Aa O m.ki):=d.mb.cell 0;have i:=Z0 d;clear d
 conv=>arg 2;whnf
 go_wp2_with fail
 exact h _ _ {} rfl rfl rfl i
theorem df50 (d:Zo g b3 b4 b5 a)(b:FS w0 w g v l b3 b4 b5 n xr k m ve)(f:∀ a' w',Zo g b3 b4 b5 a'->FS w0 w' g v l b3 b4 b5 n xr k { m with es:=[] } (I Ab 0 0)->K a' w'):(Z2 0 (Za (Z1 1 (Z2 24 (Z3 f54))))).wp Ad (Exit.then K Q) a w:=by
 obtain ⟨t,rfl⟩:=d.op;clear d;obtain ⟨ea,ec,e⟩:=b.es.shape;have i:w.cell? ⟨b5,9,Ab⟩=Ac (I ea m.es.length ec):=e▸b.mb.cell 9
 have j:=b.mb.free 9;have h:=Z0 b;clear b;clear e
 conv=>arg 2;whnf
 go_wp2_with fail
 exact f _ _ {} h.bare
theorem df52 (hL:l.length<=1048576)(hk:k<=890000000)(aa:0<=t9/\t9<=4096)(o:Zo g b3 b4 b5 a)(u:Tv a 9=Aa O t9)(d:Tv a 10=e10)(j:FS w0 w g v l b3 b4 b5 n xr k m ve)(i:∀ a' w',Zo g b3 b4 b5 a'->Tv a' 9=Aa O t9->Tv a' 10=e10->FS w0 w' g v l b3 b4 b5 n xr (k+1) { m with cm:=min (t9+((Z4 l k 4:Nat):Int)) 4096 } ve->K a' w'):(Z2 25 (Z3 f54)).wp Ad (Exit.then K Q) a w:=by
 obtain ⟨t,rfl⟩:=o.op;clear o;rw [show t 9=_ from u,show t 10=_ from d];clear u d;have z:=Z0 j;clear j;obtain ⟨p,e⟩:=exq (Z4 l k 4);have Hp:=Z0 e;rw [<-e] at i;have bp:p<4:=e▸Z6 _ _ _ (by omega)
 clear e;obtain ⟨A,f⟩:=exq (min (t9+(p:Int)) 4096);have y:=Z0 f;rw [<-f] at i;clear f;have ab:IntKind.i64.wrap (t9+(p:Int))=t9+(p:Int):=wry
 conv=>arg 2;whnf
 go_wp2_with (first
  |(go_at_call 53;go_loud (refine (z.pick1 4).mono ?_;rw [<-Hp.out];rintro r w9 ⟨rfl,hd⟩;have b:=Z0 hd;have m6:=b.mb.cell 6;have f6:=b.mb.free 6;clear hd))
  |(go_at_call 55;go_loud (refine (Xh _ _ _).mono ?_;rw [<-y.out];rintro r w8 ⟨rfl,s⟩;obtain rfl:=s.symm;clear s)))
 exact i _ _ {} rfl rfl (b.set 6 (by omega) _)
theorem df53 (j:Zo g b3 b4 b5 a)(h:Tv a 9=Aa O t9)(d:Tv a 10=e10)(e:FS w0 w g v l b3 b4 b5 n xr k m ve)(f:∀ a' w',Zo g b3 b4 b5 a'->Tv a' 9=Aa O t9->Tv a' 10=e10->Tv a' 11=Aa O (max m.lt 1)->FS w0 w' g v l b3 b4 b5 n xr k m ve->K a' w'):(Z2 26 (Z3 f54)).wp Ad (Exit.then K Q) a w:=by
 obtain ⟨t,rfl⟩:=j.op;clear j;rw [show t 9=_ from h,show t 10=_ from d];clear h d;have y:w.cell? ⟨b5,5,Ab⟩=Ac (Aa O m.lt):=e.mb.cell 5;have o:=Z0 e;clear e;obtain ⟨u,b⟩:=exq (max m.lt 1);have p:=Z0 b;rw [<-b] at f;clear b
 conv=>arg 2;whnf
 go_wp2_with (go_at_call 94;go_loud (refine (Xt _ _ _).mono ?_;rw [<-p.out];rintro r s ⟨rfl,i⟩;obtain rfl:=i.symm;clear i))
 exact f _ _ {} rfl rfl rfl o
variable {e9 e11:Af}
theorem df54t (hL:l.length<=1048576)(z:k<=890000000)(i:Zo g b3 b4 b5 a)(h:Tv a 9=e9)(d:Tv a 10=.bool true)(b:Tv a 11=e11)(o:FS w0 w g v l b3 b4 b5 n xr k m ve)(j:∀ a' w',Zo g b3 b4 b5 a'->Tv a' 9=e9->Tv a' 10=.bool true->Tv a' 11=e11->Tv a' 261=.bool (decide (Z4 l k 2=0))->FS w0 w' g v l b3 b4 b5 n xr (k+1) m ve->K a' w'):(Z2 0 (Z2 27 (Z3 f54))).wp Ad (Exit.then K Q) a w:=by
 obtain ⟨t,rfl⟩:=i.op;clear i;rw [show t 9=_ from h,show t 10=_ from d,show t 11=_ from b];clear h d b;have s:=Z0 o;clear o;obtain ⟨p,e⟩:=exq (Z4 l k 2);have u:=Z0 e;rw [<-e] at j
 clear e
 conv=>arg 2;whnf
 go_wp2_with (go_at_call 53;go_loud (refine (s.pick1 2).mono ?_;rw [<-u.out];rintro r w9 ⟨rfl,hd⟩;have f:=Z0 hd;clear hd))
 exact j _ _ {} rfl rfl rfl (by simp [Bi,beq0]) f
theorem df54f (f:Zo g b3 b4 b5 a)(h:Tv a 9=e9)(d:Tv a 10=.bool false)(b:Tv a 11=e11)(e:FS w0 w g v l b3 b4 b5 n xr k m ve)(i:∀ a' w',Zo g b3 b4 b5 a'->Tv a' 9=e9->Tv a' 10=.bool false->Tv a' 11=e11->Tv a' 261=.bool false->FS w0 w' g v l b3 b4 b5 n xr k m ve->K a' w'):(Z2 0 (Z2 27 (Z3 f54))).wp Ad (Exit.then K Q) a w:=by
 obtain ⟨t,rfl⟩:=f.op;clear f;rw [show t 9=_ from h,show t 10=_ from d,show t 11=_ from b];clear h d b;have j:=Z0 e;clear e
 conv=>arg 2;whnf
 go_wp2_with fail
 exact i _ _ {} rfl rfl rfl rfl j
theorem df55 (p:0<=m.tm/\m.tm<=1099511627776)(j:Zo g b3 b4 b5 a)(h:Tv a 9=e9)(e:Tv a 10=e10)(d:Tv a 11=e11)(f:FS w0 w g v l b3 b4 b5 n xr k m ve)(o:∀ a' w',Zo g b3 b4 b5 a'->Tv a' 9=e9->Tv a' 10=e10->Tv a' 11=e11->FS w0 w' g v l b3 b4 b5 n xr k { m with tm:=min (m.tm+1) 1073741824 } ve->K a' w'):(Za (Z1 1 (Z2 27 (Z3 f54)))).wp Ad (Exit.then K Q) a w:=by
 obtain ⟨t,rfl⟩:=j.op;clear j;rw [show t 9=_ from h,show t 10=_ from e,show t 11=_ from d];clear h e d;have z:w.cell? ⟨b5,3,Ab⟩=Ac (Aa O m.tm):=f.mb.cell 3;have f3:=f.mb.free 3;have s:=Z0 f;clear f;obtain ⟨M1,b⟩:=exq (min (m.tm+1) 1073741824);have u:=Z0 b;rw [<-b] at o;clear b;have y:=wrx (m.tm+1)
 conv=>arg 2;whnf
 go_wp2_with (go_at_call 55;go_loud (refine (Xh _ _ _).mono ?_;rw [<-u.out];rintro r w9 ⟨rfl,i⟩;obtain rfl:=i.symm;clear i))
 exact o _ _ {} rfl rfl rfl (s.set 3 (by omega) _)
theorem df56 (hL:l.length<=1048576)(hk:k<=590000000){b:Int}(aa:0<=t9/\t9<=4096)(j:0<=b/\b<=1073741824)(z:Zo g b3 b4 b5 a)(o:Tv a 9=Aa O t9)(f:Tv a 10=e10)(e:Tv a 11=Aa O b)(hS:FS w0 w g v l b3 b4 b5 n xr k m ve)(hP:∀ a' w' (ev:Af),Zo g b3 b4 b5 a'->Tv a' 9=Aa O t9->Tv a' 10=e10->Tv a' 11=Aa O b->Tv a' 12=ev->GS w0 w' g v l b3 b4 b5 n xr (Y0 l (k+1) b (min (Z4 l k 5) (4096-t9).toNat)).2.1 m ve ev (Y0 l (k+1) b (min (Z4 l k 5) (4096-t9).toNat)).1->K a' w'):(Z2 28 (Z3 f54)).wp Ad (Exit.then K Q) a w:=by
 obtain ⟨t,rfl⟩:=z.op;clear z;rw [show t 9=_ from o,show t 10=_ from f,show t 11=_ from e];clear o f e;have HS:=Z0 hS;clear hS;obtain ⟨C,i⟩:=exq (min (Z4 l k 5) (4096-t9).toNat);rw [<-i] at hP;obtain ⟨p,h⟩:=exq (Z4 l k 5);have Hp:=Z0 h;rw [<-h] at i;have bp:p<5:=h▸Z6 _ _ _ (by omega)
 clear h;have HC:Hid ((C:Int)=min (p:Int) (4096-t9)):=by unfold Hid;omega
 have ac:C<=5:=by omega
 clear i;have ab:=wrx (4096-t9)
 conv=>arg 2;whnf
 go_wp2_with (first
  |(go_at_call 53;go_loud (refine (HS.pick1 5).mono ?_;rw [<-Hp.out];rintro r w9 ⟨rfl,hd⟩;have d:=Z0 hd;clear hd))
  |(go_at_call 55;go_loud (refine (Xh _ _ _).mono ?_;rw [<-HC.out];rintro r w8 ⟨rfl,y⟩;obtain rfl:=y.symm;clear y))
  |(go_at_call 96;go_loud (refine (Xw g _ v l _ C b hL (by omega) (by omega) j d.dr.src).mono ?_;rintro r w7 ⟨ev,rfl,ho,u,s⟩;have HG:Hid (GS w0 w7 g v l b3 b4 b5 n xr (Y0 l (k+1) b C).2.1 m ve ev (Y0 l (k+1) b C).1):=⟨d.dr.call u s,ho.le d.dr.size⟩;clear ho u s)))
 exact hP _ _ _ {} rfl rfl rfl rfl HG
end
section
variable {w0 w:Ag}{g k b3 b4 b5 q c N:Nat}{v ve:Af}{l:List Int}{n:Nd}{x:RV}{m:Mg}{es:List Ent}
theorem GS.setT' (h:GS w0 w g v l b3 b4 b5 n x k m ve (I (Ac ⟨q,0,Ab⟩) N c) es)(d:es.length=N)(i:Nat)(hi:i<es.length)(T:Int):GS w0 (w.setCell ⟨q,i*7,Ab⟩ (Aa O T)) g v l b3 b4 b5 n x k m ve (I (Ac ⟨q,0,Ab⟩) N c) (es.set i (J4 T es[i])):=by
 subst d;exact h.setT i hi T
theorem GS.setE' (h:GS w0 w g v l b3 b4 b5 n x k m ve (I (Ac ⟨q,0,Ab⟩) N c) es)(f:es.length=N)(i:Nat)(hi:i<es.length)(e:Ent)(d:e.fits):GS w0 (w.setCells q (i*7) e.cells) g v l b3 b4 b5 n x k m ve (I (Ac ⟨q,0,Ab⟩) N c) (es.set i e):=by
 subst f;exact h.setE i hi e d
theorem sizeEnF:(Tryz.prog.info? 118).map (·.size)=Ac 7:=by kernel_rfl
variable {b o:Nat}{e:Ent}
theorem Ja.range (h:Ja w b o e):w.rangeAt b o e.cells:=by
 obtain ⟨z,r,f,s,y,p,t⟩:=h;intro j u d;rcases j with _ | _ | _ | _ | _ | _ | _ | j
 ·simp only [Ent.cells,List.getElem?_cons_zero,Bf] at d;subst d;exact z
 ·simp only [Ent.cells,List.getElem?_cons_zero,List.getElem?_cons_succ,Bf] at d;subst d;exact r
 ·simp only [Ent.cells,List.getElem?_cons_zero,List.getElem?_cons_succ,Bf] at d;subst d;exact f
 ·simp only [Ent.cells,List.getElem?_cons_zero,List.getElem?_cons_succ,Bf] at d;subst d;exact s
 ·simp only [Ent.cells,List.getElem?_cons_zero,List.getElem?_cons_succ,Bf] at d;subst d;exact y
 ·simp only [Ent.cells,List.getElem?_cons_zero,List.getElem?_cons_succ,Bf] at d;subst d;exact p
 ·simp only [Ent.cells,List.getElem?_cons_zero,List.getElem?_cons_succ,Bf] at d;subst d;exact t
 ·simp [Ent.cells] at d
theorem Ja.thereE (h:Ja w b o e)(s:∀ j,w.frozen? ⟨b,j,Ab⟩=false):w.there b o 7:=by
 obtain ⟨y,p,d,r,u,f,t⟩:=h;intro j z;refine ⟨?_,s _⟩;rcases (show j=0∨j=1∨j=2∨j=3∨j=4∨j=5∨j=6 by omega) with rfl | rfl | rfl | rfl | rfl | rfl | rfl
 ·rw [Nat.add_zero,y];rfl
 ·rw [p];rfl
 ·rw [d];rfl
 ·rw [r];rfl
 ·rw [u];rfl
 ·rw [f];rfl
 ·rw [t];rfl
variable {xr:RV}{ev e9 e10 e11:Af}{Q:Ca->Bn->Ag->Prop}{K:Bn->Ag->Prop}{a:Bn}
theorem df57 {e12:Af}(r:Zo g b3 b4 b5 a)(j:Tv a 9=e9)(h:Tv a 10=e10)(f:Tv a 11=e11)(d:Tv a 12=e12)(p:GS w0 w g v l b3 b4 b5 n xr k m ve ev es)(s:∀ a' w',Zo g b3 b4 b5 a'->Tv a' 9=e9->Tv a' 10=e10->Tv a' 11=e11->Tv a' 12=e12->Tv a' 13=Aa O 0->GS w0 w' g v l b3 b4 b5 n xr k m ve ev es->K a' w'):(Z2 0 (Z2 29 (Z3 f54))).wp Ad (Exit.then K Q) a w:=by
 obtain ⟨t,rfl⟩:=r.op;clear r;rw [show t 9=_ from j,show t 10=_ from h,show t 11=_ from f,show t 12=_ from d];clear j h f d;have u:=Z0 p;clear p
 conv=>arg 2;whnf
 go_wp2_with fail
 exact s _ _ {} rfl rfl rfl rfl rfl u
variable {ec i:Nat}
theorem df58 {ea:Option Addr}(aa:N<=100)(u:i<=100)(s:Zo g b3 b4 b5 a)(p:Tv a 9=e9)(j:Tv a 10=e10)(h:Tv a 11=e11)(f:Tv a 12=I ea N ec)(d:Tv a 13=Aa O (i:Int))(r:GS w0 w g v l b3 b4 b5 n xr k m ve ev es)(y:∀ a' w',Zo g b3 b4 b5 a'->Tv a' 9=e9->Tv a' 10=e10->Tv a' 11=e11->Tv a' 12=I ea N ec->Tv a' 13=Aa O (i:Int)->Tv a' 278=.bool (decide (i<N))->GS w0 w' g v l b3 b4 b5 n xr k m ve ev es->K a' w'):(Z2 0 (Z2 0 (Zp (Zb (Z1 1 (Z2 29 (Z3 f54))))))).wp Ad (Exit.then K Q) a w:=by
 obtain ⟨t,rfl⟩:=s.op;clear s;rw [show t 9=_ from p,show t 10=_ from j,show t 11=_ from h,show t 12=_ from f,show t 13=_ from d];clear p j h f d;have z:=Z0 r;clear r
 conv=>arg 2;whnf
 go_wp2_with fail
 exact y _ _ {} rfl rfl rfl rfl rfl (by simp [Bi]) z
variable {P:Nat}{ot:Bool}{lw:Int}
theorem df60 (hN:es.length=N)(hi:i<N)(ab:N<=100)(u:P<=4096)(s:Zo g b3 b4 b5 a)(p:Tv a 9=Aa O (P:Int))(j:Tv a 10=.bool ot)(h:Tv a 11=Aa O lw)(f:Tv a 12=I (Ac ⟨q,0,Ab⟩) N ec)(d:Tv a 13=Aa O (i:Int))(r:GS w0 w g v l b3 b4 b5 n xr k m ve (I (Ac ⟨q,0,Ab⟩) N ec) es)(y:∀ a' w',Zo g b3 b4 b5 a'->Tv a' 9=Aa O (P:Int)->Tv a' 10=.bool ot->Tv a' 11=Aa O lw->Tv a' 12=I (Ac ⟨q,0,Ab⟩) N ec->Tv a' 13=Aa O (i:Int)->Tv a' 14=Aa O ((P:Int)+(i:Int))->GS w0 w' g v l b3 b4 b5 n xr k m ve (I (Ac ⟨q,0,Ab⟩) N ec) es->K a' w'):(Z2 0 (Zb (Z2 1 (Zp (Zb (Z1 1 (Z2 29 (Z3 f54)))))))).wp Ad (Exit.then K Q) a w:=by
 obtain ⟨t,rfl⟩:=s.op;clear s;rw [show t 9=_ from p,show t 10=_ from j,show t 11=_ from h,show t 12=_ from f,show t 13=_ from d];clear p j h f d;have z:=Z0 r;clear r;have aa:IntKind.i64.wrap ((P:Int)+(i:Int))=(P:Int)+(i:Int):=wry
 conv=>arg 2;whnf
 go_wp2_with fail
 exact y _ _ {} rfl rfl rfl rfl rfl rfl z
theorem df61 (hN:es.length=N)(hi:i<N)(aa:N<=100)(y:P<=4096)(u:Zo g b3 b4 b5 a)(r:Tv a 9=Aa O (P:Int))(p:Tv a 10=.bool ot)(h:Tv a 11=Aa O lw)(f:Tv a 12=I (Ac ⟨q,0,Ab⟩) N ec)(d:Tv a 13=Aa O (i:Int))(j:Tv a 14=Aa O ((P:Int)+(i:Int)))(s:GS w0 w g v l b3 b4 b5 n xr k m ve (I (Ac ⟨q,0,Ab⟩) N ec) es)(z:∀ a' w',Zo g b3 b4 b5 a'->Tv a' 9=Aa O (P:Int)->Tv a' 10=.bool ot->Tv a' 11=Aa O lw->Tv a' 12=I (Ac ⟨q,0,Ab⟩) N ec->Tv a' 13=Aa O (i:Int)->Tv a' 14=Aa O ((P:Int)+(i:Int))->Tv a' 284=.bool ot->GS w0 w' g v l b3 b4 b5 n xr k m ve (I (Ac ⟨q,0,Ab⟩) N ec) es->K a' w'):(Z2 0 (Z2 1 (Zb (Z2 1 (Zp (Zb (Z1 1 (Z2 29 (Z3 f54))))))))).wp Ad (Exit.then K Q) a w:=by
 obtain ⟨t,rfl⟩:=u.op;clear u;rw [show t 9=_ from r,show t 10=_ from p,show t 11=_ from h,show t 12=_ from f,show t 13=_ from d,show t 14=_ from j];clear r p h f d j;have HS:=Z0 s;clear s
 conv=>arg 2;whnf
 go_wp2_with fail
 exact z _ _ {} rfl rfl rfl rfl rfl rfl rfl HS
theorem df62 (hN:es.length=N)(hi:i<N)(ad:N<=100)(ac:P<=4096)(hF:Zo g b3 b4 b5 a)(h9:Tv a 9=Aa O (P:Int))(u:Tv a 10=.bool ot)(f:Tv a 11=Aa O lw)(r:Tv a 12=I (Ac ⟨q,0,Ab⟩) N ec)(p:Tv a 13=Aa O (i:Int))(j:Tv a 14=Aa O ((P:Int)+(i:Int)))(y:GS w0 w g v l b3 b4 b5 n xr k m ve (I (Ac ⟨q,0,Ab⟩) N ec) es)(hP:∀ a' w',Zo g b3 b4 b5 a'->Tv a' 9=Aa O (P:Int)->Tv a' 10=.bool ot->Tv a' 11=Aa O lw->Tv a' 12=I (Ac ⟨q,0,Ab⟩) N ec->Tv a' 13=Aa O (i:Int)->Tv a' 14=Aa O ((P:Int)+(i:Int))->GS w0 w' g v l b3 b4 b5 n xr k m ve (I (Ac ⟨q,0,Ab⟩) N ec) (es.set i (J4 m.tm (es[i]'(by omega))))->K a' w'):(Za (Z1 1 (Z2 1 (Zb (Z2 1 (Zp (Zb (Z1 1 (Z2 29 (Z3 f54)))))))))).wp Ad (Exit.then K Q) a w:=by
 obtain ⟨t,rfl⟩:=hF.op;clear hF;rw [show t 9=_ from h9,show t 10=_ from u,show t 11=_ from f,show t 12=_ from r,show t 13=_ from p,show t 14=_ from j];clear h9 u f r p j;obtain ⟨T,hT⟩:=exq (m.tm);have m3:w.cell? ⟨b5,3,Ab⟩=Ac (Aa O T):=hT▸y.mb.cell 3
 rw [<-hT] at hP;clear hT;have s:i<es.length:=by omega
 obtain ⟨q9,d,hE,h⟩:=Z1t (k:=i) y.es hN.symm s (by unfold maxLen;omega);injection d with d;injection d with d;subst d;have e0:=hE.1;have f0:=h (i*7);have ae:(i:Int)<(N:Int):=by omega
 have z:=Z0 s;have aa:=Z0 hN;clear hE h;have HS:=Z0 y;clear y
 conv=>arg 2;whnf
 go_wp2_with fail
 exact hP _ _ {} rfl rfl rfl rfl rfl rfl (HS.setT' aa i z T)
theorem df68 (hN:es.length=N)(hi:i<N)(ad:N<=100)(ac:P<=4096)(hF:Zo g b3 b4 b5 a)(h9:Tv a 9=Aa O (P:Int))(u:Tv a 10=.bool ot)(f:Tv a 11=Aa O lw)(r:Tv a 12=I (Ac ⟨q,0,Ab⟩) N ec)(p:Tv a 13=Aa O (i:Int))(j:Tv a 14=Aa O ((P:Int)+(i:Int)))(y:GS w0 w g v l b3 b4 b5 n xr k m ve (I (Ac ⟨q,0,Ab⟩) N ec) es)(hP:∀ a' w',Zo g b3 b4 b5 a'->Tv a' 9=Aa O (P:Int)->Tv a' 10=.bool ot->Tv a' 11=Aa O lw->Tv a' 12=I (Ac ⟨q,0,Ab⟩) N ec->Tv a' 13=Aa O (i:Int)->Tv a' 14=Aa O ((P:Int)+(i:Int))->GS w0 w' g v l b3 b4 b5 n xr k m ve (I (Ac ⟨q,0,Ab⟩) N ec) (es.set i (J4 m.tm (es[i]'(by omega))))->K a' w'):(Za (Z1 1 (Z2 3 (Zb (Z2 1 (Zp (Zb (Z1 1 (Z2 29 (Z3 f54)))))))))).wp Ad (Exit.then K Q) a w:=by
 obtain ⟨t,rfl⟩:=hF.op;clear hF;rw [show t 9=_ from h9,show t 10=_ from u,show t 11=_ from f,show t 12=_ from r,show t 13=_ from p,show t 14=_ from j];clear h9 u f r p j;obtain ⟨T,hT⟩:=exq (m.tm);have m3:w.cell? ⟨b5,3,Ab⟩=Ac (Aa O T):=hT▸y.mb.cell 3
 rw [<-hT] at hP;clear hT;have s:i<es.length:=by omega
 obtain ⟨q9,d,hE,h⟩:=Z1t (k:=i) y.es hN.symm s (by unfold maxLen;omega);injection d with d;injection d with d;subst d;have e0:=hE.1;have f0:=h (i*7);have ae:(i:Int)<(N:Int):=by omega
 have z:=Z0 s;have aa:=Z0 hN;clear hE h;have HS:=Z0 y;clear y
 conv=>arg 2;whnf
 go_wp2_with fail
 exact hP _ _ {} rfl rfl rfl rfl rfl rfl (HS.setT' aa i z T)
theorem df66 (hN:es.length=N)(hi:i<N)(ab:N<=100)(ad:P<=4096)(hF:Zo g b3 b4 b5 a)(h9:Tv a 9=Aa O (P:Int))(u:Tv a 10=.bool ot)(f:Tv a 11=Aa O lw)(r:Tv a 12=I (Ac ⟨q,0,Ab⟩) N ec)(p:Tv a 13=Aa O (i:Int))(j:Tv a 14=Aa O ((P:Int)+(i:Int)))(hS:GS w0 w g v l b3 b4 b5 n xr k m ve (I (Ac ⟨q,0,Ab⟩) N ec) es)(hP:∀ a' w',Zo g b3 b4 b5 a'->Tv a' 9=Aa O (P:Int)->Tv a' 10=.bool ot->Tv a' 11=Aa O lw->Tv a' 12=I (Ac ⟨q,0,Ab⟩) N ec->Tv a' 13=Aa O (i:Int)->Tv a' 14=Aa O ((P:Int)+(i:Int))->GS w0 w' g v l b3 b4 b5 n xr k m ve (I (Ac ⟨q,0,Ab⟩) N ec) (es.set i (J4 lw (es[i]'(by omega))))->K a' w'):(Za (Z1 1 (Z2 2 (Zb (Z2 1 (Zp (Zb (Z1 1 (Z2 29 (Z3 f54)))))))))).wp Ad (Exit.then K Q) a w:=by
 obtain ⟨t,rfl⟩:=hF.op;clear hF;rw [show t 9=_ from h9,show t 10=_ from u,show t 11=_ from f,show t 12=_ from r,show t 13=_ from p,show t 14=_ from j];clear h9 u f r p j;have s:i<es.length:=by omega
 obtain ⟨q9,d,hE,h⟩:=Z1t (k:=i) hS.es hN.symm s (by unfold maxLen;omega);injection d with d;injection d with d;subst d;have e0:=hE.1;have f0:=h (i*7);have ac:(i:Int)<(N:Int):=by omega
 have y:=Z0 s;have z:=Z0 hN;clear hE h;have HS:=Z0 hS;clear hS
 conv=>arg 2;whnf
 go_wp2_with fail
 exact hP _ _ {} rfl rfl rfl rfl rfl rfl (HS.setT' z i y lw)
theorem df63t (hN:es.length=N)(hi:i<N)(ad:N<=100)(ae:P<=4096)(hL:l.length<=1048576)(hk:k<=890000000)(d:∃ a c,xr.vl=I a n.log.length c)(ab:n.log.length<=4096)(hA:P+i<n.log.length)(hF:Zo g b3 b4 b5 a)(h9:Tv a 9=Aa O (P:Int))(z:Tv a 10=.bool ot)(f:Tv a 11=Aa O lw)(u:Tv a 12=I (Ac ⟨q,0,Ab⟩) N ec)(s:Tv a 13=Aa O (i:Int))(j:Tv a 14=Aa O ((P:Int)+(i:Int)))(hS:GS w0 w g v l b3 b4 b5 n xr k m ve (I (Ac ⟨q,0,Ab⟩) N ec) es)(hP:∀ a' w',Zo g b3 b4 b5 a'->Tv a' 9=Aa O (P:Int)->Tv a' 10=.bool ot->Tv a' 11=Aa O lw->Tv a' 12=I (Ac ⟨q,0,Ab⟩) N ec->Tv a' 13=Aa O (i:Int)->Tv a' 14=Aa O ((P:Int)+(i:Int))->Tv a' 300=.bool (decide (¬ Z4 l k 3=0))->GS w0 w' g v l b3 b4 b5 n xr (k+1) m ve (I (Ac ⟨q,0,Ab⟩) N ec) es->K a' w'):(Z2 0 (Yf (Z1 1 (Z2 1 (Zb (Z2 1 (Zp (Zb (Z1 1 (Z2 29 (Z3 f54))))))))))).wp Ad (Exit.then K Q) a w:=by
 obtain ⟨t,rfl⟩:=hF.op;clear hF;rw [show t 9=_ from h9,show t 10=_ from z,show t 11=_ from f,show t 12=_ from u,show t 13=_ from s,show t 14=_ from j];clear h9 z f u s j;obtain ⟨ra,rc,h⟩:=d;have ac:w.cell? ⟨b3,12,Ab⟩=Ac (I ra n.log.length rc):=h▸hS.nb.cell 12
 clear h;obtain ⟨LN,y⟩:=exq (n.log.length);rw [<-y] at ac ab hA;clear y;have hb:decide ((P:Int)+(i:Int)<(LN:Int))=true:=by simp;omega
 have HS:=Z0 hS;clear hS;obtain ⟨p,hp⟩:=exq (Z4 l k 3);have Hp:=Z0 hp;rw [<-hp] at hP
 clear hp
 conv=>arg 2;whnf
 go_wp2_with (go_at_call 53;go_loud (refine (HS.pick1 3).mono ?_;rw [<-Hp.out];rintro r w9 ⟨rfl,hd⟩;have aa:=Z0 hd;clear hd))
 exact hP _ _ {} rfl rfl rfl rfl rfl rfl (by simp [Bi,bne,beq0]) aa
theorem df63f (hN:es.length=N)(hi:i<N)(ab:N<=100)(ac:P<=4096)(d:∃ a c,xr.vl=I a n.log.length c)(y:n.log.length<=4096)(hA:¬ P+i<n.log.length)(hF:Zo g b3 b4 b5 a)(h9:Tv a 9=Aa O (P:Int))(u:Tv a 10=.bool ot)(f:Tv a 11=Aa O lw)(r:Tv a 12=I (Ac ⟨q,0,Ab⟩) N ec)(p:Tv a 13=Aa O (i:Int))(j:Tv a 14=Aa O ((P:Int)+(i:Int)))(z:GS w0 w g v l b3 b4 b5 n xr k m ve (I (Ac ⟨q,0,Ab⟩) N ec) es)(hP:∀ a' w',Zo g b3 b4 b5 a'->Tv a' 9=Aa O (P:Int)->Tv a' 10=.bool ot->Tv a' 11=Aa O lw->Tv a' 12=I (Ac ⟨q,0,Ab⟩) N ec->Tv a' 13=Aa O (i:Int)->Tv a' 14=Aa O ((P:Int)+(i:Int))->Tv a' 300=.bool false->GS w0 w' g v l b3 b4 b5 n xr k m ve (I (Ac ⟨q,0,Ab⟩) N ec) es->K a' w'):(Z2 0 (Yf (Z1 1 (Z2 1 (Zb (Z2 1 (Zp (Zb (Z1 1 (Z2 29 (Z3 f54))))))))))).wp Ad (Exit.then K Q) a w:=by
 obtain ⟨t,rfl⟩:=hF.op;clear hF;rw [show t 9=_ from h9,show t 10=_ from u,show t 11=_ from f,show t 12=_ from r,show t 13=_ from p,show t 14=_ from j];clear h9 u f r p j;obtain ⟨ra,rc,h⟩:=d;have aa:w.cell? ⟨b3,12,Ab⟩=Ac (I ra n.log.length rc):=h▸z.nb.cell 12
 clear h;obtain ⟨LN,s⟩:=exq (n.log.length);rw [<-s] at aa y hA;clear s;have hb:decide ((P:Int)+(i:Int)<(LN:Int))=false:=by simp;omega
 have HS:=Z0 z;clear z
 conv=>arg 2;whnf
 go_wp2_with fail
 exact hP _ _ {} rfl rfl rfl rfl rfl rfl rfl HS
theorem df64 (hN:es.length=N)(hi:i<N)(au:N<=100)(ar:P<=4096){q2 c2:Nat}(j:LgQ w0 g xr n q2 c2)(aj:n.log.length<=4096)(hA:P+i<n.log.length)(hF:Zo g b3 b4 b5 a)(h9:Tv a 9=Aa O (P:Int))(r:Tv a 10=.bool ot)(p:Tv a 11=Aa O lw)(ac:Tv a 12=I (Ac ⟨q,0,Ab⟩) N ec)(ab:Tv a 13=Aa O (i:Int))(aa:Tv a 14=Aa O ((P:Int)+(i:Int)))(hS:GS w0 w g v l b3 b4 b5 n xr k m ve (I (Ac ⟨q,0,Ab⟩) N ec) es)(hP:∀ a' w',Zo g b3 b4 b5 a'->Tv a' 9=Aa O (P:Int)->Tv a' 10=.bool ot->Tv a' 11=Aa O lw->Tv a' 12=I (Ac ⟨q,0,Ab⟩) N ec->Tv a' 13=Aa O (i:Int)->Tv a' 14=Aa O ((P:Int)+(i:Int))->GS w0 w' g v l b3 b4 b5 n xr k m ve (I (Ac ⟨q,0,Ab⟩) N ec) (es.set i (n.log[P+i]'hA))->K a' w'):(Za (Z1 1 (Yf (Z1 1 (Z2 1 (Zb (Z2 1 (Zp (Zb (Z1 1 (Z2 29 (Z3 f54)))))))))))).wp Ad (Exit.then K Q) a w:=by
 obtain ⟨t,rfl⟩:=hF.op;clear hF;rw [show t 9=_ from h9,show t 10=_ from r,show t 11=_ from p,show t 12=_ from ac,show t 13=_ from ab,show t 14=_ from aa];clear h9 r p ac ab aa;have y:=j.vl;have d:(n.log[P+i]'hA).fits:=j.fit _ (List.getElem_mem _);have h:=(j.ent (P+i) hA).keep (hS.old j.lt j.ne);obtain ⟨e,he⟩:=exq (n.log[P+i]'hA);rw [<-he] at h d hP;have am:w.cell? ⟨b3,12,Ab⟩=Ac (I (Ac ⟨q2,0,Ab⟩) n.log.length c2):=y▸hS.nb.cell 12
 obtain ⟨LN,ad⟩:=exq (n.log.length);have al:((P:Int)+(i:Int))<(LN:Int):=by omega
 have ah:P+i<LN:=by omega
 have ao:LN<=4096:=by omega
 rw [<-ad] at am;clear ad y he hA aj;have ag:i<es.length:=by omega
 obtain ⟨q9,f,hE,s⟩:=Z1t (k:=i) hS.es hN.symm ag (by unfold maxLen;omega);injection f with f;injection f with f;subst f;have an:=hE.thereE s;have z:=h.range;have aw:(i:Int)<(N:Int):=by omega
 have aq:=wrx (i:Int)
 obtain ⟨A,ae⟩:=exq (P+i);have af:(P:Int)+(i:Int)=(A:Int):=by omega
 rw [af] at hP al ⊢;rw [<-ae] at z ah
 have ai:=Z0 ag;have ak:=Z0 hN;have u:=Z0 d;clear hE s h d ae af j;have G1:True:=trivial;have G2:True:=trivial;have HS:=Z0 hS;clear hS
 conv=>arg 2;whnf
 go_wp2_with (first
  |(refine Zd _ _ rfl ?_;clear G1;refine wpList_load_mid rfl 118 (.tmp 306) rfl q2 (A*7) rfl e.cells _ z underlying118 rfl sizeEnF ?_)
  |(refine Zn _ _ _ rfl ?_;clear G2;refine wpList_store_mid rfl 118 (.tmp 308) (.tmp 307) rfl q (i*7) e.cells.toArray rfl rfl an sizeEnF (by simp [Ent.cells,Bh]) ?_))
 exact hP _ _ {} rfl rfl rfl rfl rfl rfl (HS.setE' ak i ai e u)
theorem df65 (hN:es.length=N)(hi:i<N)(ae:N<=100)(ac:P<=4096)(hF:Zo g b3 b4 b5 a)(h9:Tv a 9=Aa O (P:Int))(y:Tv a 10=.bool ot)(h:Tv a 11=Aa O lw)(s:Tv a 12=I (Ac ⟨q,0,Ab⟩) N ec)(r:Tv a 13=Aa O (i:Int))(p:Tv a 14=Aa O ((P:Int)+(i:Int)))(z:GS w0 w g v l b3 b4 b5 n xr k m ve (I (Ac ⟨q,0,Ab⟩) N ec) es)(hP:∀ a' w',Zo g b3 b4 b5 a'->Tv a' 9=Aa O (P:Int)->Tv a' 10=.bool ot->Tv a' 11=Aa O lw->Tv a' 12=I (Ac ⟨q,0,Ab⟩) N ec->Tv a' 13=Aa O (i:Int)->Tv a' 14=Aa O ((P:Int)+(i:Int))->Tv a' 315=.bool (decide ((es[i]'(by omega)).t<lw))->GS w0 w' g v l b3 b4 b5 n xr k m ve (I (Ac ⟨q,0,Ab⟩) N ec) es->K a' w'):(Z2 0 (Z2 2 (Zb (Z2 1 (Zp (Zb (Z1 1 (Z2 29 (Z3 f54))))))))).wp Ad (Exit.then K Q) a w:=by
 obtain ⟨t,rfl⟩:=hF.op;clear hF;rw [show t 9=_ from h9,show t 10=_ from y,show t 11=_ from h,show t 12=_ from s,show t 13=_ from r,show t 14=_ from p];clear h9 y h s r p;obtain ⟨TT,f⟩:=exq ((es[i]'(by omega)).t);rw [<-f] at hP;have u:i<es.length:=by omega
 obtain ⟨q9,d,hE,j⟩:=Z1t (k:=i) z.es hN.symm u (by unfold maxLen;omega);injection d with d;injection d with d;subst d;have e0:=hE.1;have af:(i:Int)<(N:Int):=by omega
 clear hE j;rw [<-f] at e0;clear f;have HS:=Z0 z;clear z
 conv=>arg 2;whnf
 go_wp2_with fail
 exact hP _ _ {} rfl rfl rfl rfl rfl rfl rfl HS
theorem df67 (hN:es.length=N)(hi:i<N)(ae:N<=100)(ac:P<=4096)(hF:Zo g b3 b4 b5 a)(h9:Tv a 9=Aa O (P:Int))(y:Tv a 10=.bool ot)(h:Tv a 11=Aa O lw)(s:Tv a 12=I (Ac ⟨q,0,Ab⟩) N ec)(r:Tv a 13=Aa O (i:Int))(p:Tv a 14=Aa O ((P:Int)+(i:Int)))(z:GS w0 w g v l b3 b4 b5 n xr k m ve (I (Ac ⟨q,0,Ab⟩) N ec) es)(hP:∀ a' w',Zo g b3 b4 b5 a'->Tv a' 9=Aa O (P:Int)->Tv a' 10=.bool ot->Tv a' 11=Aa O lw->Tv a' 12=I (Ac ⟨q,0,Ab⟩) N ec->Tv a' 13=Aa O (i:Int)->Tv a' 14=Aa O ((P:Int)+(i:Int))->Tv a' 328=.bool (decide (m.tm<(es[i]'(by omega)).t))->GS w0 w' g v l b3 b4 b5 n xr k m ve (I (Ac ⟨q,0,Ab⟩) N ec) es->K a' w'):(Z2 0 (Z2 3 (Zb (Z2 1 (Zp (Zb (Z1 1 (Z2 29 (Z3 f54))))))))).wp Ad (Exit.then K Q) a w:=by
 obtain ⟨t,rfl⟩:=hF.op;clear hF;rw [show t 9=_ from h9,show t 10=_ from y,show t 11=_ from h,show t 12=_ from s,show t 13=_ from r,show t 14=_ from p];clear h9 y h s r p;obtain ⟨TT,f⟩:=exq ((es[i]'(by omega)).t);rw [<-f] at hP;have u:i<es.length:=by omega
 obtain ⟨q9,d,hE,j⟩:=Z1t (k:=i) z.es hN.symm u (by unfold maxLen;omega);injection d with d;injection d with d;subst d;have e0:=hE.1;have af:(i:Int)<(N:Int):=by omega
 clear hE j;rw [<-f] at e0;clear f;obtain ⟨T,hT⟩:=exq (m.tm);have m3:w.cell? ⟨b5,3,Ab⟩=Ac (Aa O T):=hT▸z.mb.cell 3
 rw [<-hT] at hP;clear hT;have HS:=Z0 z;clear z
 conv=>arg 2;whnf
 go_quiet (fail)
 exact hP _ _ {} rfl rfl rfl rfl rfl rfl (by simp [Bi]) (HS.below bdr)
theorem df69 (hN:es.length=N)(hi:i<N)(ae:N<=100)(ac:P<=4096)(hF:Zo g b3 b4 b5 a)(h9:Tv a 9=Aa O (P:Int))(y:Tv a 10=.bool ot)(h:Tv a 11=Aa O lw)(s:Tv a 12=I (Ac ⟨q,0,Ab⟩) N ec)(r:Tv a 13=Aa O (i:Int))(p:Tv a 14=Aa O ((P:Int)+(i:Int)))(z:GS w0 w g v l b3 b4 b5 n xr k m ve (I (Ac ⟨q,0,Ab⟩) N ec) es)(hP:∀ a' w',Zo g b3 b4 b5 a'->Tv a' 9=Aa O (P:Int)->Tv a' 10=.bool ot->Tv a' 11=Aa O (es[i]'(by omega)).t->Tv a' 12=I (Ac ⟨q,0,Ab⟩) N ec->Tv a' 13=Aa O (i:Int)->GS w0 w' g v l b3 b4 b5 n xr k m ve (I (Ac ⟨q,0,Ab⟩) N ec) es->K a' w'):(Z1 4 (Zb (Z2 1 (Zp (Zb (Z1 1 (Z2 29 (Z3 f54)))))))).wp Ad (Exit.then K Q) a w:=by
 obtain ⟨t,rfl⟩:=hF.op;clear hF;rw [show t 9=_ from h9,show t 10=_ from y,show t 11=_ from h,show t 12=_ from s,show t 13=_ from r,show t 14=_ from p];clear h9 y h s r p;obtain ⟨TT,f⟩:=exq ((es[i]'(by omega)).t);rw [<-f] at hP;have u:i<es.length:=by omega
 obtain ⟨q9,d,hE,j⟩:=Z1t (k:=i) z.es hN.symm u (by unfold maxLen;omega);injection d with d;injection d with d;subst d;have e0:=hE.1;have af:(i:Int)<(N:Int):=by omega
 clear hE j;rw [<-f] at e0;clear f;have HS:=Z0 z;clear z
 conv=>arg 2;whnf
 go_wp2_with fail
 exact hP _ _ {} rfl rfl rfl rfl rfl HS
theorem df59 (hN:es.length=N)(hi:i<N)(ab:N<=100)(u:P<=4096)(s:Zo g b3 b4 b5 a)(p:Tv a 9=Aa O (P:Int))(j:Tv a 10=.bool ot)(h:Tv a 11=Aa O lw)(f:Tv a 12=I (Ac ⟨q,0,Ab⟩) N ec)(d:Tv a 13=Aa O (i:Int))(r:GS w0 w g v l b3 b4 b5 n xr k m ve (I (Ac ⟨q,0,Ab⟩) N ec) es)(y:∀ a' w',Zo g b3 b4 b5 a'->Tv a' 9=Aa O (P:Int)->Tv a' 10=.bool ot->Tv a' 11=Aa O lw->Tv a' 12=I (Ac ⟨q,0,Ab⟩) N ec->Tv a' 13=Aa O ((i:Int)+1)->GS w0 w' g v l b3 b4 b5 n xr k m ve (I (Ac ⟨q,0,Ab⟩) N ec) es->K a' w'):(Z1 2 (Zp (Zb (Z1 1 (Z2 29 (Z3 f54)))))).wp Ad (Exit.then K Q) a w:=by
 obtain ⟨t,rfl⟩:=s.op;clear s;rw [show t 9=_ from p,show t 10=_ from j,show t 11=_ from h,show t 12=_ from f,show t 13=_ from d];clear p j h f d;have z:=Z0 r;clear r;have aa:IntKind.i64.wrap ((i:Int)+1)=(i:Int)+1:=wry
 conv=>arg 2;whnf
 go_wp2_with fail
 exact y _ _ {} rfl rfl rfl rfl rfl z
theorem df70 (u:Zo g b3 b4 b5 a)(d:Tv a 12=ev)(p:GS w0 w g v l b3 b4 b5 n xr k m ve ev es)(y:∀ a' w',Zo g b3 b4 b5 a'->FS w0 w' g v l b3 b4 b5 n xr k { m with es:=es } ev->K a' w'):(Z2 30 (Z3 f54)).wp Ad (Exit.then K Q) a w:=by
 obtain ⟨t,rfl⟩:=u.op;clear u;rw [show t 12=_ from d];clear d;have r:=p.es.shape;obtain ⟨ea,ec,s⟩:=r;have f:=Z0 (p.mb.cell 9);have m9:=f.out;have f9:=p.mb.free 9;have z:=Z0 p.done;obtain ⟨EN,j⟩:=exq (es.length);rw [<-j] at s;clear j p f;subst s
 conv=>arg 2;whnf
 go_wp2_with fail
 exact y _ _ {} z
end
structure DfE (w0:Ag) (g:Nat) (n:Nd) (x:RV):Prop where
 sz:3<=n.sz/\n.sz<=7
 id:1<=n.id/\n.id<=n.sz
 tm:0<=n.tm/\n.tm<=1073741824
 lg:n.log.length<=4096
 vl:∃ a c,x.vl=I a n.log.length c
 lq:0<n.log.length->∃ q c,LgQ w0 g x n q c
 lt:∀ e∈n.log,0<=e.t/\e.t<=1073741824
 nx:n.ro=3->∀ j:Nat,(j:Int)<n.sz->j<n.nx.length/\(0<=n.nx.getD j 0/\n.nx.getD j 0<=5000)/\∃ q c,x.vn=I (Ac ⟨q,0,Ab⟩) n.nx.length c/\q<w0.heap.size/\q≠g/\w0.cell? ⟨q,j,Ab⟩=Ac (Aa O (n.nx.getD j 0))
def J5 (l:List Int)(n:Nd)(r K:Int)(k:Nat)(ki:Int):Int×Nat:=if n.ro=r then (if Z4 l k 3=0 then ki else K,k+1) else (ki,k)
theorem dfKind_eq (l:List Int)(k:Nat)(n:Nd)(ki:Int):Z6c l k n ki=J5 l n 3 6 (J5 l n 2 4 (J5 l n 1 2 k ki).2 (J5 l n 1 2 k ki).1).2 (J5 l n 2 4 (J5 l n 1 2 k ki).2 (J5 l n 1 2 k ki).1).1:=by
 unfold Z6c J5;by_cases c:n.ro=1
 ·simp [c]
 ·by_cases b:n.ro=2
  ·simp [b]
  ·by_cases d:n.ro=3
   ·simp [d]
   ·simp [c,b,d]
theorem Z6s (l:List Int)(n:Nd)(r K:Int)(k:Nat)(ki:Int):(J5 l n r K k ki).2<=k+1:=by
 unfold J5;split <;> simp
def dfT0 (l:List Int)(k:Nat)(n:Nd)(ki:Int):Int×Nat:=
 if Z4 l k 7=0 then (n.tm+1+(Z4 l (k+1) 2:Nat),k+1+1) else if Z4 l k 7=1 then (n.tm-1,k+1) else if ki=1∨ki=2 then (n.tm+1,k+1) else (n.tm,k+1)
theorem dfTerm_eq (l:List Int)(k:Nat)(n:Nd)(ki:Int):dfTerm l k n ki=(min (max (dfT0 l k n ki).1 1) 1073741824,(dfT0 l k n ki).2):=rfl
theorem dfT0_k (l:List Int)(k:Nat)(n:Nd)(ki:Int):(dfT0 l k n ki).2<=k+2:=by
 unfold dfT0;split
 ·simp
 ·split
  ·simp
  ·split <;> simp
theorem dfHead_k (l:List Int)(k:Nat)(n:Nd)(m:Mg):(Z1i l k n m).k<=k+7:=by
 show (dfTerm l (Z6c l (k+1) n m.ki).2 n (Z6c l (k+1) n m.ki).1).2+1<=_;rw [dfTerm_eq,dfKind_eq];have c:=Z6s l n 1 2 (k+1) m.ki;have b:=Z6s l n 2 4 (J5 l n 1 2 (k+1) m.ki).2 (J5 l n 1 2 (k+1) m.ki).1;generalize J5 l n 1 2 (k+1) m.ki=A at *;have d:=Z6s l n 3 6 (J5 l n 2 4 A.2 A.1).2 (J5 l n 2 4 A.2 A.1).1;generalize J5 l n 2 4 A.2 A.1=B at *;have e:=dfT0_k l (J5 l n 3 6 B.2 B.1).2 n (J5 l n 3 6 B.2 B.1).1;omega
section
variable {w0:Ag} {g b3 b4 b5:Nat} {v:Af} {l:List Int} {n:Nd} {xr:RV} {m:Mg} {ve:Af} {k:Nat} {Q:Ca->Bn->Ag->Prop} {a:Bn} {w:Ag}
theorem dfA3 (hL:l.length<=1048576)(s:k<=800000000)(d:DfE w0 g n xr)(o:Zo g b3 b4 b5 a)(j:FS w0 w g v l b3 b4 b5 n xr k m ve)(c:∀ a' w',Zo g b3 b4 b5 a'->FS w0 w' g v l b3 b4 b5 n xr (k+1) { m with td:=n.id,fr:=Z2r l k n } ve->(Z1 6 (Z3 f54)).wp Ad Q a' w'):(Z1 3 (Z3 f54)).wp Ad Q a w:=by
 refine sqg (λx=>.seq (Z2 4 x) (.seq (Z2 5 x) (Z1 6 x))) ?_;intro q i;refine df4 o j λa1 w1 F1 s1=>i _ _ ?_
 refine A0 ?_;intro t e;refine df5 hL (by omega) d.sz d.id F1 s1 λa2 w2 F2 s2=>e _ _ ?_
 refine A0 ?_;intro p b;refine sqc ?_;intro r f;refine df6 F2 s2 λa3 w3 F3 u3 s3=>f _ _ ?_
 refine B7 u3 ?_;by_cases h:1+(n.id+(Z4 l k (n.sz.toNat-1):Nat))%n.sz=n.id
 ·rw [if_pos (by simpa using h)]
  rw [show Z2r l k n=1+n.id%n.sz from if_pos h] at c;refine df7 d.sz d.id F3 s3 λa4 w4 F4 s4=>b _ _ ?_
  exact c _ _ F4 s4
 ·rw [if_neg (by simpa using h)]
  rw [show Z2r l k n=1+(n.id+(Z4 l k (n.sz.toNat-1):Nat))%n.sz from if_neg h] at c;exact Bz (b _ _ (c _ _ F3 s3))
theorem dfA6 (hL:l.length<=1048576)(p:k<=800000000)(j:Zo g b3 b4 b5 a)(i:FS w0 w g v l b3 b4 b5 n xr k m ve)(b:∀ a' w',Zo g b3 b4 b5 a'->FS w0 w' g v l b3 b4 b5 n xr (J5 l n 1 2 k m.ki).2 { m with ki:=(J5 l n 1 2 k m.ki).1 } ve->(Z1 7 (Z3 f54)).wp Ad Q a' w'):(Z1 6 (Z3 f54)).wp Ad Q a w:=by
 refine sqn ?_;intro o c;refine sqc ?_;intro q d;by_cases h:n.ro=1
 ·have e:J5 l n 1 2 k m.ki=(if Z4 l k 3=0 then m.ki else 2,k+1):=if_pos h
  rw [e] at b;refine df8t hL (by omega) h j i λa1 w1 F1 u1 s1=>d _ _ ?_
  refine B7 u1 ?_;by_cases f:Z4 l k 3=0
  ·rw [if_neg (by simp [f])]
   rw [if_pos f] at b;exact Bz (c _ _ (b _ _ F1 s1))
  ·rw [if_pos (by simp [f])]
   rw [if_neg f] at b;refine df9 F1 s1 λa2 w2 F2 s2=>c _ _ ?_
   exact b _ _ F2 s2
 ·have e:J5 l n 1 2 k m.ki=(m.ki,k):=if_neg h
  rw [e] at b;refine df8f h j i λa1 w1 F1 u1 s1=>d _ _ ?_
  refine B7 u1 ?_;exact Bz (c _ _ (b _ _ F1 s1))
theorem dfA7 (hL:l.length<=1048576)(p:k<=800000000)(j:Zo g b3 b4 b5 a)(i:FS w0 w g v l b3 b4 b5 n xr k m ve)(b:∀ a' w',Zo g b3 b4 b5 a'->FS w0 w' g v l b3 b4 b5 n xr (J5 l n 2 4 k m.ki).2 { m with ki:=(J5 l n 2 4 k m.ki).1 } ve->(Z1 8 (Z3 f54)).wp Ad Q a' w'):(Z1 7 (Z3 f54)).wp Ad Q a w:=by
 refine sqn ?_;intro o c;refine sqc ?_;intro q d;by_cases h:n.ro=2
 ·have e:J5 l n 2 4 k m.ki=(if Z4 l k 3=0 then m.ki else 4,k+1):=if_pos h
  rw [e] at b;refine df10t hL (by omega) h j i λa1 w1 F1 u1 s1=>d _ _ ?_
  refine B7 u1 ?_;by_cases f:Z4 l k 3=0
  ·rw [if_neg (by simp [f])]
   rw [if_pos f] at b;exact Bz (c _ _ (b _ _ F1 s1))
  ·rw [if_pos (by simp [f])]
   rw [if_neg f] at b;refine df11 F1 s1 λa2 w2 F2 s2=>c _ _ ?_
   exact b _ _ F2 s2
 ·have e:J5 l n 2 4 k m.ki=(m.ki,k):=if_neg h
  rw [e] at b;refine df10f h j i λa1 w1 F1 u1 s1=>d _ _ ?_
  refine B7 u1 ?_;exact Bz (c _ _ (b _ _ F1 s1))
theorem dfA8 (hL:l.length<=1048576)(p:k<=800000000)(j:Zo g b3 b4 b5 a)(i:FS w0 w g v l b3 b4 b5 n xr k m ve)(b:∀ a' w',Zo g b3 b4 b5 a'->FS w0 w' g v l b3 b4 b5 n xr (J5 l n 3 6 k m.ki).2 { m with ki:=(J5 l n 3 6 k m.ki).1 } ve->(Z1 9 (Z3 f54)).wp Ad Q a' w'):(Z1 8 (Z3 f54)).wp Ad Q a w:=by
 refine sqn ?_;intro o c;refine sqc ?_;intro q d;by_cases h:n.ro=3
 ·have e:J5 l n 3 6 k m.ki=(if Z4 l k 3=0 then m.ki else 6,k+1):=if_pos h
  rw [e] at b;refine df12t hL (by omega) h j i λa1 w1 F1 u1 s1=>d _ _ ?_
  refine B7 u1 ?_;by_cases f:Z4 l k 3=0
  ·rw [if_neg (by simp [f])]
   rw [if_pos f] at b;exact Bz (c _ _ (b _ _ F1 s1))
  ·rw [if_pos (by simp [f])]
   rw [if_neg f] at b;refine df13 F1 s1 λa2 w2 F2 s2=>c _ _ ?_
   exact b _ _ F2 s2
 ·have e:J5 l n 3 6 k m.ki=(m.ki,k):=if_neg h
  rw [e] at b;refine df12f h j i λa1 w1 F1 u1 s1=>d _ _ ?_
  refine B7 u1 ?_;exact Bz (c _ _ (b _ _ F1 s1))
theorem dfA9 (hL:l.length<=1048576)(hk:k<=800000000)(x:DfE w0 g n xr)(hF:Zo g b3 b4 b5 a)(hS:FS w0 w g v l b3 b4 b5 n xr k m ve)(z:∀ c w',Zo g b3 b4 b5 c->FS w0 w' g v l b3 b4 b5 n xr (dfT0 l k n m.ki).2 { m with tm:=min (max (dfT0 l k n m.ki).1 1) 1073741824 } ve->(Z1 13 (Z3 f54)).wp Ad Q c w'):(Z1 9 (Z3 f54)).wp Ad Q a w:=by
 have aa:=Z6 l k 7;refine sqg (λx=>.seq (Z2 10 x) (.seq (Z2 11 x) (.seq (Z2 12 x) (Z1 13 x)))) ?_;intro K1 u;refine df14 hL (by omega) hF hS λa1 w1 F1 u1 s1=>u _ _ ?_
 refine A0 ?_;intro K2 p;refine df15 F1 u1 s1 λa2 w2 F2 u2 v2 s2=>p _ _ ?_
 refine A0 ?_;intro y o
 have b:∀ c w' s t,Zo g b3 b4 b5 c->Tv c 7=Aa O t->FS w0 w' g v l b3 b4 b5 n xr s m ve->dfT0 l k n m.ki=(t,s)->y c w':=by
  intro c w' s t F' e7 s' et;refine o _ _ ?_;rw [et] at z;refine A0 ?_;intro K4 q;refine df22 F' e7 s' λa9 w9 F9 s9=>q _ _ ?_
  exact z _ _ F9 s9
 refine sqf (λx=>.cond (.tmp 81) (Za (Z1 1 x)) (Yf (Z1 1 x))) ?_;intro K5 j;refine df16 (by omega) F2 u2 v2 s2 λa3 w3 F3 u3 v3 x3 s3=>j _ _ ?_
 refine B7 x3 ?_;unfold dfT0 at b;by_cases h:Z4 l k 7=0
 ·rw [if_pos (by simp [h])]
  simp only [h,if_true] at b;refine wp_mono (Q:=Exit.then y (λ_ _ _=>False)) ?_ (λe c w' h9=>by cases e <;> first | exact h9 | exact h9.elim);refine df17 hL (by omega) x.tm F3 u3 s3 λa4 w4 F4 u4 v4 s4=>?_
  exact b _ _ _ _ F4 v4 s4 rfl
 ·rw [if_neg (by simp [h])]
  simp only [h,if_false] at b;refine sqf (λx=>.cond (.tmp 89) (Za (Z1 1 x)) (Yf (Z1 1 x))) ?_;intro K6 r;refine df18 (by omega) F3 u3 v3 s3 λa4 w4 F4 u4 v4 x4 s4=>r _ _ ?_
  refine B7 x4 ?_;by_cases f:Z4 l k 7=1
  ·rw [if_pos (by simp [f])]
   simp only [f,if_true] at b;refine df19 x.tm F4 s4 λa5 w5 F5 v5 s5=>?_
   exact b _ _ _ _ F5 v5 s5 rfl
  ·rw [if_neg (by simp [f])]
   simp only [f,if_false] at b;refine sqc ?_;intro K7 i;refine df20 F4 v4 s4 λa5 w5 F5 v5 x5 s5=>i _ _ ?_
   refine B7 x5 ?_;by_cases d:m.ki=1∨m.ki=2
   ·rw [if_pos (by simp [d])]
    simp only [d,if_true] at b;refine df21 x.tm F5 s5 λa6 w6 F6 v6 s6=>?_
    exact b _ _ _ _ F6 v6 s6 rfl
   ·rw [if_neg (by simp [d])]
    simp only [d,if_false] at b;exact Bz (b _ _ _ _ F5 v5 s5 rfl)
theorem dfA13 (hL:l.length<=1048576)(y:k<=800000000)(q:Zo g b3 b4 b5 a)(r:FS w0 w g v l b3 b4 b5 n xr k m ve)(b:∀ a' w' ve',Zo g b3 b4 b5 a'->FS w0 w' g v l b3 b4 b5 n xr (k+1) ⟨m.ki,m.fr,m.td,m.tm,0,0,0,if (m.ki == 2 || m.ki == 4 || m.ki == 6)=true/\1<Z4 l k 5 then 1 else 0,0,if (m.ki == 2 || m.ki == 4 || m.ki == 6)=true then [] else m.es⟩ ve'->(Z1 16 (Z3 f54)).wp Ad Q a' w'):(Z1 13 (Z3 f54)).wp Ad Q a w:=by
 have s:=Z6 l k 5;refine sqg (λx=>.seq (Z2 14 x) (.seq (Z2 15 x) (Z1 16 x))) ?_;intro x p;refine df23 hL (by omega) q r λa1 w1 F1 u1 s1=>p _ _ ?_
 refine A0 ?_;intro K2 i;refine df24 F1 u1 s1 λa2 w2 F2 u2 s2=>i _ _ ?_
 refine A0 ?_;intro t c;refine sqc ?_;intro K4 j;refine df25 F2 u2 s2 λa3 w3 F3 u3 x3 s3=>j _ _ ?_
 refine B7 x3 ?_;by_cases h:m.ki=2∨m.ki=4∨m.ki=6
 ·rw [if_pos (by simpa using h)]
  have d:(m.ki == 2 || m.ki == 4 || m.ki == 6)=true:=by simp;omega
  rw [d] at b;simp only [true_and,if_true] at b;refine sqf (λx=>.seq (Z2 1 x) (.cond (.tmp 136) (Za (Z1 2 x)) .skip)) ?_;intro z f;refine df26 F3 u3 s3 λa4 w4 F4 u4 s4=>f _ _ ?_
  refine A0 ?_;intro u o;refine df27 (by omega) F4 u4 s4 λa5 w5 F5 x5 s5=>o _ _ ?_
  refine B7 x5 ?_;by_cases e:1<Z4 l k 5
  ·rw [if_pos (by simp [e])]
   simp only [e,if_true] at b;refine df28 F5 s5 λa6 w6 F6 s6=>c _ _ ?_
   exact b _ _ _ F6 s6
  ·rw [if_neg (by simp [e])]
   simp only [e,if_false] at b;exact Bz (c _ _ (b _ _ _ F5 s5))
 ·rw [if_neg (by simpa using h)]
  have d:(m.ki == 2 || m.ki == 4 || m.ki == 6)=false:=by simp;omega
  rw [d] at b;simp only [Bool.false_eq_true,false_and,if_false] at b;exact Bz (c _ _ (b _ _ _ F3 s3))
theorem dfA16 (hL:l.length<=1048576)(j:k<=800000000)(d:DfE w0 g n xr)(h:Zo g b3 b4 b5 a)(f:FS w0 w g v l b3 b4 b5 n xr k m ve)(e:∀ a' w',Zo g b3 b4 b5 a'->Tv a' 9=Aa O (Ys l k n)->FS w0 w' g v l b3 b4 b5 n xr (k+1+1) m ve->(Z1 18 (Z3 f54)).wp Ad Q a' w'):(Z1 16 (Z3 f54)).wp Ad Q a w:=by
 refine sqg (λx=>.seq (Z2 17 x) (Z1 18 x)) ?_;intro i c;refine df29 hL (by omega) d.vl d.lg h f λa1 w1 F1 u1 s1=>c _ _ ?_
 refine A0 ?_;intro o b;refine df30 F1 u1 s1 λa2 w2 F2 u2 s2=>b _ _ ?_
 exact e _ _ F2 u2 s2
theorem dfHeadW (hL:l.length<=1048576)(t:k<=700000000)(d:DfE w0 g n xr)(q:Zo g b3 b4 b5 a)(j:FS w0 w g v l b3 b4 b5 n xr k m ve)(h:∀ a' w' ve',Zo g b3 b4 b5 a'->Tv a' 9=Aa O (Ys l (Z1i l k n m).k n)->FS w0 w' g v l b3 b4 b5 n xr ((Z1i l k n m).k+1+1) (Z1i l k n m).m ve'->(Z1 18 (Z3 f54)).wp Ad Q a' w'):(Z1 3 (Z3 f54)).wp Ad Q a w:=by
 refine dfA3 hL (by omega) d q j λa1 w1 F1 s1=>?_
 refine dfA6 hL (by omega) F1 s1 λa2 w2 F2 s2=>?_
 have u:=Z6s l n 1 2 (k+1) m.ki;refine dfA7 hL (by show (J5 l n 1 2 (k+1) m.ki).2<=_;omega) F2 s2 λa3 w3 F3 s3=>?_
 have s:=Z6s l n 2 4 (J5 l n 1 2 (k+1) m.ki).2 (J5 l n 1 2 (k+1) m.ki).1;refine dfA8 hL (by show (J5 l n 2 4 (J5 l n 1 2 (k+1) m.ki).2 (J5 l n 1 2 (k+1) m.ki).1).2<=_;omega) F3 s3 λa4 w4 F4 s4=>?_
 have e:=dfKind_eq l (k+1) n m.ki;obtain ⟨b,c⟩:=exq (Z6c l (k+1) n m.ki);have f:FS w0 w4 g v l b3 b4 b5 n xr b.2 { { m with td:=n.id,fr:=Z2r l k n } with ki:=b.1 } ve:=by rw [c,e];exact s4
 have i:b.2<=k+4:=by rw [c,e];have x:=Z6s l n 3 6 (J5 l n 2 4 (J5 l n 1 2 (k+1) m.ki).2 (J5 l n 1 2 (k+1) m.ki).1).2 (J5 l n 2 4 (J5 l n 1 2 (k+1) m.ki).2 (J5 l n 1 2 (k+1) m.ki).1).1;omega
 clear s4 e;refine dfA9 hL (by omega) d F4 f λa5 w5 F5 s5=>?_
 have o:=dfT0_k l b.2 n b.1;refine dfA13 hL (by show (dfT0 l b.2 n b.1).2<=_;omega) F5 s5 λa6 w6 ve6 F6 s6=>?_
 have p:Z1i l k n m=⟨⟨b.1,Z2r l k n,n.id,min (max (dfT0 l b.2 n b.1).1 1) 1073741824,0,0,0,if (b.1 == 2 || b.1 == 4 || b.1 == 6)=true/\1<Z4 l (dfT0 l b.2 n b.1).2 5 then 1 else 0,0,if (b.1 == 2 || b.1 == 4 || b.1 == 6)=true then [] else m.es⟩,(dfT0 l b.2 n b.1).2+1⟩:=by
  rw [c];rfl
 rw [p] at h;refine dfA16 hL (by show (dfT0 l b.2 n b.1).2+1<=_;omega) d F6 s6 λa7 w7 F7 u7 s7=>?_
 exact h _ _ _ F7 u7 s7
end
structure DfLp (g b3 b4 b5 P:Nat) (ot:Bool) (ev:Af) (a:Bn) (low:Int) (i:Nat):Prop where
 fr:Zo g b3 b4 b5 a
 e9:Tv a 9=Aa O (P:Int)
 e10:Tv a 10=.bool ot
 e11:Tv a 11=Aa O low
 e12:Tv a 12=ev
 e13:Tv a 13=Aa O (i:Int)
def dfE0 (l:List Int)(n:Nd)(ot:Bool)(tm:Int)(P:Nat)(k:Nat)(e:Ent)(i:Nat):Ent×Nat:=
 if ot=true then (J4 tm e,k) else if P+i<n.log.length then (if Z4 l k 3=0 then (e,k+1) else ((n.log[P+i]?).getD e,k+1)) else (e,k)
def dfE1 (low:Int)(e:Ent):Ent:=if e.t<low then J4 low e else e
def dfE2 (tm:Int)(e:Ent):Ent:=if tm<e.t then J4 tm e else e
theorem dfEnt_eq (l:List Int)(n:Nd)(ot:Bool)(tm:Int)(P:Nat)(s:FeS)(i:Nat)(hi:i<s.es.length):dfEnt l n ot tm (P:Int) s i=⟨s.es.set i (dfE2 tm (dfE1 s.low (dfE0 l n ot tm P s.k s.es[i] i).1)),(dfE2 tm (dfE1 s.low (dfE0 l n ot tm P s.k s.es[i] i).1)).t,(dfE0 l n ot tm P s.k s.es[i] i).2⟩:=by
 unfold dfEnt;rw [As hi,show ((P:Int)+(i:Nat)).toNat=P+i by omega];rfl
theorem dfE0_k (l:List Int)(n:Nd)(ot:Bool)(tm:Int)(P k:Nat)(e:Ent)(i:Nat):(dfE0 l n ot tm P k e i).2<=k+1:=by
 unfold dfE0;split
 ·simp
 ·split
  ·split <;> simp
  ·simp
section
variable {w0:Ag} {g b3 b4 b5:Nat} {v:Af} {l:List Int} {n:Nd} {xr:RV} {m:Mg} {ve:Af} {k:Nat} {K:Bn->Ag->Prop} {Q:Ca->Bn->Ag->Prop} {a:Bn} {w:Ag} {q N ec i P:Nat} {ot:Bool}
variable {ev:Af}
theorem GS.put1 {L:List Ent}{T:Int}{e:Ent}{i:Nat}{h0:i<(L.set i e).length}(h:GS w0 w g v l b3 b4 b5 n xr k m ve ev ((L.set i e).set i (J4 T ((L.set i e)[i]'h0)))):GS w0 w g v l b3 b4 b5 n xr k m ve ev (L.set i (J4 T e)):=by
 rw [List.getElem_set_self,List.set_set] at h;exact h
theorem dfRound {S:FeS}(hL:l.length<=1048576)(hk:S.k<=800000000)(y:DfE w0 g n xr)(p:S.es.length=N)(hi:i<N)(c:N<=100)(f:P<=4096)(hF:DfLp g b3 b4 b5 P ot (I (Ac ⟨q,0,Ab⟩) N ec) a S.low i)(hS:GS w0 w g v l b3 b4 b5 n xr S.k m ve (I (Ac ⟨q,0,Ab⟩) N ec) S.es)(hP:∀ a' w',DfLp g b3 b4 b5 P ot (I (Ac ⟨q,0,Ab⟩) N ec) a' (dfEnt l n ot m.tm (P:Int) S i).low (i+1)->GS w0 w' g v l b3 b4 b5 n xr (dfEnt l n ot m.tm (P:Int) S i).k m ve (I (Ac ⟨q,0,Ab⟩) N ec) (dfEnt l n ot m.tm (P:Int) S i).es->K a' w'):(Zp (Zb (Z1 1 (Z2 29 (Z3 f54))))).wp Ad (Exit.then K Q) a w:=by
 have ac:i<S.es.length:=by omega
 rw [dfEnt_eq l n ot _ P S i ac] at hP;obtain ⟨o,b⟩:=exq (dfE0 l n ot m.tm P S.k S.es[i] i);rw [<-b] at hP;have ah:o.2<=S.k+1:=by rw [b];exact dfE0_k _ _ _ _ _ _ _ _
 refine sqf (λx=>.seq (.block 1 (Zb (Z2 1 x))) (Z1 2 x)) ?_;intro K1 ag;refine sqf (λx=>.cond (.tmp 278) .skip (.exit 0)) ?_;intro K2 ae;refine df58 c (by omega) hF.fr hF.e9 hF.e10 hF.e11 hF.e12 hF.e13 hS λa1 w1 F1 c1 d1 l1 m1 n1 u1 s1=>ae _ _ ?_
 have P1:DfLp g b3 b4 b5 P ot (I (Ac ⟨q,0,Ab⟩) N ec) a1 S.low i:=⟨F1,c1,d1,l1,m1,n1⟩;refine wp_cond_true (u1.trans (by rw [decide_eq_true hi])) (Bz (ag _ _ ?_));refine A0 ?_;intro K3 ad;refine wp_block ?_;refine sqf (λx=>.seq (Z2 1 x) (.seq (Z2 2 x) (.seq (Z2 3 x) (Z1 4 x)))) ?_;intro K4 ab;refine df60 p hi c f P1.fr P1.e9 P1.e10 P1.e11 P1.e12 P1.e13 s1 λa2 w2 F2 c2 d2 l2 m2 n2 z2 s2=>ab _ _ ?_
 have P2:DfLp g b3 b4 b5 P ot (I (Ac ⟨q,0,Ab⟩) N ec) a2 S.low i:=⟨F2,c2,d2,l2,m2,n2⟩;refine A0 ?_;intro K5 af
 have hA:∀ a3 w3,DfLp g b3 b4 b5 P ot (I (Ac ⟨q,0,Ab⟩) N ec) a3 S.low i->Tv a3 14=Aa O ((P:Int)+(i:Int))->GS w0 w3 g v l b3 b4 b5 n xr o.2 m ve (I (Ac ⟨q,0,Ab⟩) N ec) (S.es.set i o.1)->K5 a3 w3:=by
  intro a3 w3 d z3 s3;refine af _ _ ?_;refine A0 ?_;intro K6 s
  have hB:∀ a5 w5,DfLp g b3 b4 b5 P ot (I (Ac ⟨q,0,Ab⟩) N ec) a5 S.low i->Tv a5 14=Aa O ((P:Int)+(i:Int))->GS w0 w5 g v l b3 b4 b5 n xr o.2 m ve (I (Ac ⟨q,0,Ab⟩) N ec) (S.es.set i (dfE1 S.low o.1))->K6 a5 w5:=by
   intro a5 w5 z z5 s5;refine s _ _ ?_;refine A0 ?_;intro K7 r
   have hC:∀ a7 w7,DfLp g b3 b4 b5 P ot (I (Ac ⟨q,0,Ab⟩) N ec) a7 S.low i->Tv a7 14=Aa O ((P:Int)+(i:Int))->GS w0 w7 g v l b3 b4 b5 n xr o.2 m ve (I (Ac ⟨q,0,Ab⟩) N ec) (S.es.set i (dfE2 m.tm (dfE1 S.low o.1)))->K7 a7 w7:=by
    intro a7 w7 P7 z7 s7;refine r _ _ ?_;refine wp_mono (Q:=Exit.then K3 (λ_ _ _=>False)) ?_ (λe a' w' h9=>by cases e <;> first | exact h9 | exact h9.elim);refine df69 (List.length_set.trans p) hi c f P7.fr P7.e9 P7.e10 P7.e11 P7.e12 P7.e13 z7 s7 λa8 w8 F8 c8 d8 l8 m8 n8 s8=>ad _ _ ?_
    rw [List.getElem_set_self] at l8;refine df59 (es:=S.es.set i (dfE2 m.tm (dfE1 S.low o.1))) (List.length_set.trans p) hi c f F8 c8 d8 l8 m8 n8 s8 λa9 w9 F9 c9 d9 l9 m9 n9 s9=>?_
    exact hP _ _ ⟨F9,c9,d9,l9,m9,n9⟩ s9
   refine sqc ?_;intro K8 x;refine df67 (es:=S.es.set i (dfE1 S.low o.1)) (List.length_set.trans p) hi c f z.fr z.e9 z.e10 z.e11 z.e12 z.e13 z5 s5 λa6 w6 F6 c6 d6 l6 m6 n6 z6 x6 s6=>x _ _ ?_
   have u:DfLp g b3 b4 b5 P ot (I (Ac ⟨q,0,Ab⟩) N ec) a6 S.low i:=⟨F6,c6,d6,l6,m6,n6⟩;rw [List.getElem_set_self] at x6;refine B7 x6 ?_;unfold dfE2 at hC;by_cases h:m.tm<(dfE1 S.low o.1).t
   ·rw [if_pos (by simp [h])]
    simp only [h,if_true] at hC;refine df68 (es:=S.es.set i (dfE1 S.low o.1)) (List.length_set.trans p) hi c f u.fr u.e9 u.e10 u.e11 u.e12 u.e13 z6 s6 λa8 w8 F8 c8 d8 l8 m8 n8 z8 s8=>?_
    exact hC _ _ ⟨F8,c8,d8,l8,m8,n8⟩ z8 s8.put1
   ·rw [if_neg (by simp [h])]
    simp only [h,if_false] at hC;exact Bz (hC _ _ u z6 s6)
  refine sqc ?_;intro K8 x;refine df65 (es:=S.es.set i o.1) (List.length_set.trans p) hi c f d.fr d.e9 d.e10 d.e11 d.e12 d.e13 z3 s3 λa4 w4 F4 c4 d4 l4 m4 n4 z4 x4 s4=>x _ _ ?_
  have j:DfLp g b3 b4 b5 P ot (I (Ac ⟨q,0,Ab⟩) N ec) a4 S.low i:=⟨F4,c4,d4,l4,m4,n4⟩;rw [List.getElem_set_self] at x4;refine B7 x4 ?_;unfold dfE1 at hB;by_cases h:o.1.t<S.low
  ·rw [if_pos (by simp [h])]
   simp only [h,if_true] at hB;refine df66 (es:=S.es.set i o.1) (List.length_set.trans p) hi c f j.fr j.e9 j.e10 j.e11 j.e12 j.e13 z4 s4 λa8 w8 F8 c8 d8 l8 m8 n8 z8 s8=>?_
   exact hB _ _ ⟨F8,c8,d8,l8,m8,n8⟩ z8 s8.put1
  ·rw [if_neg (by simp [h])]
   simp only [h,if_false] at hB;exact Bz (hB _ _ j z4 s4)
 refine sqf (λx=>.cond (.tmp 284) (Za (Z1 1 x)) (Yf (Z1 1 x))) ?_;intro K6 s;refine df61 p hi c f P2.fr P2.e9 P2.e10 P2.e11 P2.e12 P2.e13 z2 s2 λa3 w3 F3 c3 d3 l3 m3 n3 z3 x3 s3=>s _ _ ?_
 have d:DfLp g b3 b4 b5 P ot (I (Ac ⟨q,0,Ab⟩) N ec) a3 S.low i:=⟨F3,c3,d3,l3,m3,n3⟩;refine B7 x3 ?_;unfold dfE0 at b
 cases aa:ot with
 | true=>
  rw [if_pos rfl];rw [aa,if_pos rfl] at b;subst b;refine df62 p hi c f d.fr d.e9 d.e10 d.e11 d.e12 d.e13 z3 s3 λa8 w8 F8 c8 d8 l8 m8 n8 z8 s8=>?_
  exact hA _ _ ⟨F8,c8,d8,l8,m8,n8⟩ z8 s8
 | false=>
  rw [if_neg (by simp)];rw [aa,if_neg (by simp)] at b;refine sqc ?_;intro K7 r;by_cases h2:P+i<n.log.length
  ·rw [if_pos h2] at b
   obtain ⟨q2,c2,hQ⟩:=y.lq (by omega);refine df63t p hi c f hL (by omega) y.vl y.lg h2 d.fr d.e9 d.e10 d.e11 d.e12 d.e13 z3 s3 λa4 w4 F4 c4 d4 l4 m4 n4 z4 x4 s4=>r _ _ ?_
   have j:DfLp g b3 b4 b5 P ot (I (Ac ⟨q,0,Ab⟩) N ec) a4 S.low i:=⟨F4,c4,d4,l4,m4,n4⟩;refine B7 x4 ?_;by_cases h3:Z4 l S.k 3=0
   ·rw [if_neg (by simp [h3])]
    rw [if_pos h3] at b;subst b;exact Bz (hA _ _ j z4 (by rw [List.set_getElem_self];exact s4))
   ·rw [if_pos (by simp [h3])]
    rw [if_neg h3,As h2] at b;subst b;refine df64 p hi c f hQ y.lg h2 j.fr j.e9 j.e10 j.e11 j.e12 j.e13 z4 s4 λa8 w8 F8 c8 d8 l8 m8 n8 z8 s8=>?_
    exact hA _ _ ⟨F8,c8,d8,l8,m8,n8⟩ z8 s8
  ·rw [if_neg h2] at b
   subst b;refine df63f p hi c f y.vl y.lg h2 d.fr d.e9 d.e10 d.e11 d.e12 d.e13 z3 s3 λa4 w4 F4 c4 d4 l4 m4 n4 z4 x4 s4=>r _ _ ?_
   have j:DfLp g b3 b4 b5 P ot (I (Ac ⟨q,0,Ab⟩) N ec) a4 S.low i:=⟨F4,c4,d4,l4,m4,n4⟩;refine B7 x4 ?_;exact Bz (hA _ _ j z4 (by rw [List.set_getElem_self];exact s4))
theorem Z3n (l:List Int)(n:Nd)(ot:Bool)(tm pl:Int)(s:FeS):∀ i,(J7 l n ot tm pl s i).es.length=s.es.length
 | 0=>rfl
 | i+1=>by
  show ((J7 l n ot tm pl s i).es.set i _).length=_;rw [Bg,Z3n l n ot tm pl s i]
theorem dfEnts_k (l:List Int)(n:Nd)(ot:Bool)(tm:Int)(P:Nat)(s:FeS):∀ i,i<=s.es.length->(J7 l n ot tm (P:Int) s i).k<=s.k+i
 | 0,_=>Nat.le_refl _
 | i+1,hi=>by
  have c:=dfEnts_k l n ot tm P s i (by omega);have b:=Z3n l n ot tm (P:Int) s i;show (dfEnt l n ot tm (P:Int) (J7 l n ot tm (P:Int) s i) i).k<=_;rw [dfEnt_eq l n ot tm P _ i (by omega)];have d:=dfE0_k l n ot tm P (J7 l n ot tm (P:Int) s i).k ((J7 l n ot tm (P:Int) s i).es[i]'(by omega)) i;show (dfE0 l n ot tm P (J7 l n ot tm (P:Int) s i).k ((J7 l n ot tm (P:Int) s i).es[i]'(by omega)) i).2<=_;omega
theorem dfLoop {S0:FeS}(hL:l.length<=1048576)(hk:S0.k<=700000000)(hE:DfE w0 g n xr)(u:S0.es.length<=100)(h:P<=4096)(y:DfLp g b3 b4 b5 P ot ev a S0.low 0)(p:GS w0 w g v l b3 b4 b5 n xr S0.k m ve ev S0.es)(hP:∀ e w',Zo g b3 b4 b5 e->Tv e 12=ev->GS w0 w' g v l b3 b4 b5 n xr (J7 l n ot m.tm (P:Int) S0 S0.es.length).k m ve ev (J7 l n ot m.tm (P:Int) S0 S0.es.length).es->K e w'):(Z1 1 (Z2 29 (Z3 f54))).wp Ad (Exit.then K Q) a w:=by
 rw [show Z1 1 (Z2 29 (Z3 f54))=.block 0 (.loop (Zp (Zb (Z1 1 (Z2 29 (Z3 f54)))))) from rfl];refine wp_block ?_;refine wp_loop (λa w=>∃(i:Nat),i<=S0.es.length/\DfLp g b3 b4 b5 P ot ev a (J7 l n ot m.tm (P:Int) S0 i).low i/\GS w0 w g v l b3 b4 b5 n xr (J7 l n ot m.tm (P:Int) S0 i).k m ve ev (J7 l n ot m.tm (P:Int) S0 i).es) (λa _=>S0.es.length+1-(RowKit.intOf (Tv a 13)).toNat) ⟨0,Nat.zero_le _,y,p⟩ ?_;rintro a1 w1 ⟨i,hi,d,o⟩;have c:=Z3n l n ot m.tm (P:Int) S0 i;have x:=dfEnts_k l n ot m.tm P S0 i hi;rcases Nat.lt_or_ge i S0.es.length with hlt | hge
 ·obtain ⟨ea,ec,b⟩:=p.es.shape
  obtain ⟨q,t,_,_⟩:=Z1t (k:=i) (by have r:=o.es;rw [b] at r;exact r) c.symm (by omega) (by unfold maxLen;omega);subst t;subst b;refine dfRound (S:=(J7 l n ot m.tm (P:Int) S0 i)) hL (by omega) hE c hlt (by omega) h d o ?_;intro e w' s f;refine ⟨⟨i+1,by omega,s,f⟩,?_⟩;rw [s.e13,d.e13];simp only [RowKit.intOf];omega
 ·have z:i=S0.es.length:=by omega
  subst z;obtain ⟨ea,ec,b⟩:=p.es.shape;subst b;refine sqf (λx=>.seq (.block 1 (Zb (Z2 1 x))) (Z1 2 x)) ?_;intro K1 aa;refine sqf (λx=>.cond (.tmp 278) .skip (.exit 0)) ?_;intro K2 j;refine df58 (by omega) (by omega) d.fr d.e9 d.e10 d.e11 d.e12 d.e13 o λa2 w2 F2 c2 d2 l2 m2 n2 u2 f=>j _ _ ?_
  refine wp_cond_false (u2.trans (by rw [decide_eq_false (Nat.lt_irrefl _)])) (wp_exit ?_);exact hP _ _ F2 m2 f
end
def dfRep (l:List Int)(k:Nat)(n:Nd)(m:Mg)(p:Int):FmS:=
 if n.ro=3/\m.ok=0 then ⟨{ m with li:=n.nx.getD (m.fr-1).toNat 0-1,hi:=(Z4 l k (n.log.length+2):Nat) },k+Zf (n.log.length+2)⟩ else ⟨{ m with li:=p },k⟩
def Jv (l:List Int)(k:Nat)(n:Nd)(ki p:Int):Bool×Int×Nat:=
 if ki=5 then (if Z4 l k 3=0 then (true,max 0 (min ((n.log.length:Int)-1-(Z4 l (k+1) 3:Nat)) (max p n.cm)),k+1+1) else (false,p,k+1)) else (false,p,k)
theorem dfOth_ok (l:List Int)(k:Nat)(n:Nd)(ki p:Int)(b:0<=p/\p<=4096)(c:n.log.length<=4096):0<=(Jv l k n ki p).2.1/\(Jv l k n ki p).2.1<=4096/\(Jv l k n ki p).2.2<=k+2:=by
 unfold Jv;split
 ·split
  ·simp only []
   omega
  ·simp only []
   omega
 ·simp only []
  omega
def dfLt (n:Nd)(p tm:Int):Int:=if p<=n.log.length then min (Zy n.log p.toNat) tm else tm
def Z1o (l:List Int)(k:Nat)(n:Nd)(p tm lt:Int):Int×Nat:=if 0<p then (if Z4 l k 6=0 then max 1 (dfLt n p tm-1) else dfLt n p tm,k+1) else (lt,k)
theorem dfLogG_ok (l:List Int)(k:Nat)(n:Nd)(p tm lt:Int)(c:1<=tm/\tm<=1073741824)(f:0<=lt/\lt<=1073741824)(b:∀ q,0<=Zy n.log q/\Zy n.log q<=1073741824):0<=(Z1o l k n p tm lt).1/\(Z1o l k n p tm lt).1<=1073741824/\(Z1o l k n p tm lt).2<=k+1:=by
 have e:=b p.toNat
 have d:0<=dfLt n p tm/\dfLt n p tm<=1073741824:=by
  unfold dfLt;split <;> omega
 unfold Z1o;split
 ·split
  ·simp only []
   omega
  ·simp only []
   omega
 ·simp only []
  omega
theorem DfE.term {w0:Ag}{g:Nat}{n:Nd}{x:RV}(h:DfE w0 g n x)(q:Nat):0<=Zy n.log q/\Zy n.log q<=1073741824:=by
 unfold Zy;split
 ·omega
 ·cases b:n.log[q-1]? with
  | none=>simp
  | some e=>exact h.lt e (List.mem_of_getElem? b)
def Z22 (l:List Int)(k:Nat)(ot:Bool)(tm:Int):Int×Nat:=if ot=true then (if Z4 l k 2=0 then (min (tm+1) 1073741824,k+1) else (tm,k+1)) else (tm,k)
theorem dfTm_ok (l:List Int)(k:Nat)(b:Bool)(tm:Int)(h:1<=tm/\tm<=1073741824):(1<=(Z22 l k b tm).1/\(Z22 l k b tm).1<=1073741824)/\(Z22 l k b tm).2<=k+1:=by
 unfold Z22;split
 ·split
  ·simp only []
   omega
  ·simp only []
   omega
 ·simp only []
  omega
section
variable {w0:Ag} {g b3 b4 b5:Nat} {v:Af} {l:List Int} {n:Nd} {xr:RV} {m:Mg} {ve:Af} {k:Nat} {Q:Ca->Bn->Ag->Prop} {a:Bn} {w:Ag}
variable {p:Int}
theorem dfB18 (hL:l.length<=1048576)(hk:k<=800000000)(i:DfE w0 g n xr)(ab:1<=m.fr/\m.fr<=n.sz)(hF:Zo g b3 b4 b5 a)(z:Tv a 9=Aa O p)(hS:FS w0 w g v l b3 b4 b5 n xr k m ve)(f:m.ki=6->∀ a' w' ve',SzD a' 343->Tv a' 4=Ae (Ac ⟨b4,0,Ab⟩)->FR w0 w' g v l b4 (dfRep l k n m p).k (dfRep l k n m p).m ve'->Q .ret a' w')(hP:¬ m.ki=6->∀ a' w',Zo g b3 b4 b5 a'->Tv a' 9=Aa O p->FS w0 w' g v l b3 b4 b5 n xr k m ve->(Z1 19 (Z3 f54)).wp Ad Q a' w'):(Z1 18 (Z3 f54)).wp Ad Q a w:=by
 refine sqn ?_;intro K1 x;refine sqc ?_;intro K2 s;refine df31 hF z hS λa1 w1 F1 c1 u1 s1=>s _ _ ?_
 refine B7 u1 ?_;by_cases h:m.ki=6
 ·rw [if_pos (by simpa using h)]
  refine sqf (λx=>.seq (Z2 1 x) (.seq (Z2 2 x) .ret)) ?_;intro K3 r;refine df32 F1 c1 s1 λa2 w2 F2 s2=>r _ _ ?_
  refine A0 ?_;intro K4 d;refine sqc ?_;intro K5 o;refine df33 F2 s2 λa3 w3 F3 u3 s3=>o _ _ ?_
  refine B7 u3 ?_;by_cases e:n.ro=3/\m.ok=0
  ·rw [if_pos (by simpa using e)]
   rw [show dfRep l k n m p=⟨{ m with li:=n.nx.getD (m.fr-1).toNat 0-1,hi:=(Z4 l k (n.log.length+2):Nat) },k+Zf (n.log.length+2)⟩ from if_pos e] at f;have aa:=i.sz;obtain ⟨hj,hy,q,c,hv,hq,t,hc⟩:=i.nx e.1 (m.fr-1).toNat (by omega);refine sqf (Z1 1) ?_;intro K6 u;refine df34 (m:={ m with li:=p }) (j:=(m.fr-1).toNat) (y:=n.nx.getD (m.fr-1).toNat 0) hj (by omega) (show m.fr=_ by omega) hy F3 s3 ⟨q,c,hv,by rw [<-hc];unfold World.cell?;rw [s3.old hq t]⟩ λa4 w4 F4 s4=>u _ _ ?_
   refine df35 hL (by omega) i.vl i.lg F4 s4 λa5 w5 F5 s5=>d _ _ ?_
   refine A0 ?_;intro K7 b;refine df36 F5.sz F5.e4 F5.e5 s5 λa6 w6 f6 r6 s6=>b _ _ (wp_ret ?_)
   exact f h _ _ _ f6 r6 s6
  ·rw [if_neg (by simpa using e)]
   rw [show dfRep l k n m p=⟨{ m with li:=p },k⟩ from if_neg e] at f;refine Bz (d _ _ ?_);refine A0 ?_;intro K7 b;refine df36 F3.sz F3.e4 F3.e5 s3 λa6 w6 f6 r6 s6=>b _ _ (wp_ret ?_)
   exact f h _ _ _ f6 r6 s6
 ·rw [if_neg (by simpa using h)]
  exact Bz (x _ _ (hP h _ _ F1 c1 s1))
theorem dfB19 (o:Zo g b3 b4 b5 a)(f:Tv a 9=Aa O p)(i:FS w0 w g v l b3 b4 b5 n xr k m ve)(j:(m.ki=2∨m.ki=4)->∀ a' w' ve',SzD a' 343->Tv a' 4=Ae (Ac ⟨b4,0,Ab⟩)->FR w0 w' g v l b4 k m ve'->Q .ret a' w')(e:¬(m.ki=2∨m.ki=4)->∀ a' w',Zo g b3 b4 b5 a'->Tv a' 9=Aa O p->FS w0 w' g v l b3 b4 b5 n xr k m ve->(Z1 20 (Z3 f54)).wp Ad Q a' w'):(Z1 19 (Z3 f54)).wp Ad Q a w:=by
 refine sqn ?_;intro r d;refine sqc ?_;intro s c;refine df37 o f i λa1 w1 F1 c1 u1 s1=>c _ _ ?_
 refine B7 u1 ?_;by_cases h:m.ki=2∨m.ki=4
 ·rw [if_pos (by simpa using h)]
  refine sqf (λx=>.ret) ?_;intro q b;refine df38 F1.sz F1.e4 F1.e5 s1 λa2 w2 f2 r2 s2=>b _ _ (wp_ret ?_)
  exact j h _ _ _ f2 r2 s2
 ·rw [if_neg (by simpa using h)]
  exact Bz (d _ _ (e h _ _ F1 c1 s1))
theorem dfB20 (hL:l.length<=1048576)(u:k<=800000000)(o:DfE w0 g n xr)(q:Zo g b3 b4 b5 a)(i:Tv a 9=Aa O p)(j:FS w0 w g v l b3 b4 b5 n xr k m ve)(c:∀ a' w',Zo g b3 b4 b5 a'->Tv a' 9=Aa O (Jv l k n m.ki p).2.1->Tv a' 10=.bool (Jv l k n m.ki p).1->FS w0 w' g v l b3 b4 b5 n xr (Jv l k n m.ki p).2.2 m ve->(Z1 22 (Z3 f54)).wp Ad Q a' w'):(Z1 20 (Z3 f54)).wp Ad Q a w:=by
 rw [show Z1 20 (Z3 f54)=.seq (Z2 20 (Z3 f54)) (.seq (Z2 21 (Z3 f54)) (Z1 22 (Z3 f54))) from rfl];unfold Jv at c;refine A0 ?_;intro t f;by_cases h:m.ki=5
 ·rw [if_pos h] at c
  refine df39t hL (by omega) h q i j λa1 w1 F1 c1 d1 s1=>f _ _ ?_
  refine A0 ?_;intro s b;refine sqc ?_;intro r d;refine df40 F1 c1 d1 s1 λa2 w2 F2 c2 d2 u2 s2=>d _ _ ?_
  refine B7 u2 ?_;by_cases e:Z4 l k 3=0
  ·rw [if_pos e] at c
   rw [if_pos (by simp [e])];rw [e] at d2;refine df41 hL (by omega) o.vl o.lg F2 c2 d2 s2 λa3 w3 F3 d3 c3 s3=>b _ _ ?_
   exact c _ _ F3 c3 d3 s3
  ·rw [if_neg e] at c
   rw [if_neg (by simp [e])];rw [decide_eq_false e] at d2;exact Bz (b _ _ (c _ _ F2 c2 d2 s2))
 ·rw [if_neg h] at c
  refine df39f h q i j λa1 w1 F1 c1 d1 s1=>f _ _ ?_
  refine A0 ?_;intro s b;refine sqc ?_;intro r d;refine df40 F1 c1 d1 s1 λa2 w2 F2 c2 d2 u2 s2=>d _ _ ?_
  refine B7 u2 ?_;exact Bz (b _ _ (c _ _ F2 c2 d2 s2))
variable {o10:Bool}
theorem dfB22 (hL:l.length<=1048576)(hk:k<=800000000)(j:DfE w0 g n xr)(ac:1<=m.tm/\m.tm<=1073741824)(hF:Zo g b3 b4 b5 a)(h9:Tv a 9=Aa O p)(y:Tv a 10=.bool o10)(hS:FS w0 w g v l b3 b4 b5 n xr k m ve)(b:∀ a' w',Zo g b3 b4 b5 a'->Tv a' 9=Aa O p->Tv a' 10=.bool o10->FS w0 w' g v l b3 b4 b5 n xr (Z1o l k n p m.tm m.lt).2 { m with li:=p,lt:=(Z1o l k n p m.tm m.lt).1 } ve->(Z1 24 (Z3 f54)).wp Ad Q a' w'):(Z1 22 (Z3 f54)).wp Ad Q a w:=by
 refine sqg (λx=>.seq (Z2 23 x) (Z1 24 x)) ?_;intro K1 ab;refine df42 hF h9 y hS λa1 w1 F1 c1 d1 s1=>ab _ _ ?_
 refine A0 ?_;intro K2 e;refine sqc ?_;intro K3 z;refine df43 F1 c1 d1 s1 λa2 w2 F2 c2 d2 u2 s2=>z _ _ ?_
 refine B7 u2 ?_;unfold Z1o at b;by_cases h:0<p
 ·rw [if_pos h] at b
  rw [if_pos (by simpa using h)];refine sqf (λx=>.seq (Z2 1 x) (.seq (Z2 2 x) (.cond (.tmp 236) (Za (Z1 3 x)) .skip))) ?_;intro K4 aa;refine df44 F2 c2 d2 s2 λa3 w3 F3 c3 d3 s3=>aa _ _ ?_
  refine A0 ?_;intro K5 x
  have d:∀ a' w' t,Zo g b3 b4 b5 a'->Tv a' 9=Aa O p->Tv a' 10=.bool o10->FS w0 w' g v l b3 b4 b5 n xr k { m with li:=p,lt:=t } ve->t=dfLt n p m.tm->K5 a' w':=by
   intro a5 w5 t F5 s d5 u et
   have ad:0<=t/\t<=1073741824:=by
    rw [et];unfold dfLt;have:=j.term p.toNat;split <;> omega
   rw [<-et] at b;refine x _ _ ?_;refine A0 ?_;intro K6 f;refine df47 hL (by omega) F5 s d5 u λa6 w6 F6 c6 d6 u6 s6=>f _ _ ?_
   refine B7 u6 ?_;by_cases o:Z4 l k 6=0
   ·rw [if_pos (by simp [o])]
    rw [if_pos o] at b;refine df48 (show 0<=t/\t<=1099511627776 by omega) F6 c6 d6 s6 λa7 w7 F7 c7 d7 s7=>e _ _ ?_
    exact b _ _ F7 c7 d7 s7
   ·rw [if_neg (by simp [o])]
    rw [if_neg o] at b;exact Bz (e _ _ (b _ _ F6 c6 d6 s6))
  refine sqc ?_;intro K6 f;refine df45 j.vl j.lg F3 c3 d3 s3 λa4 w4 F4 c4 d4 u4 s4=>f _ _ ?_
  refine B7 u4 ?_;by_cases r:p<=(n.log.length:Int)
  ·rw [if_pos (by simpa using r)]
   obtain ⟨J,hJ⟩:∃ J:Nat,p=(J:Int)+1:=⟨(p-1).toNat,by omega⟩;have i:J<n.log.length:=by omega
   obtain ⟨q,c,hQ⟩:=j.lq (by omega);rw [hJ] at c4;refine df46 hQ i j.lg F4 c4 d4 s4 λa5 w5 F5 s d5 u=>?_
   rw [<-hJ] at s;refine d _ _ _ F5 s d5 u ?_;unfold dfLt;rw [if_pos r,show p.toNat=J+1 by omega];unfold Zy;rw [ifo,show J+1-1=J from rfl,As i];rfl
  ·rw [if_neg (by simpa using r)]
   refine Bz (d _ _ m.tm F4 c4 d4 s4 ?_);unfold dfLt;rw [if_neg r]
 ·rw [if_neg h] at b
  rw [if_neg (by simpa using h)];exact Bz (e _ _ (b _ _ F2 c2 d2 s2))
theorem dfB24 (r:Zo g b3 b4 b5 a)(j:Tv a 9=Aa O p)(f:Tv a 10=.bool o10)(o:FS w0 w g v l b3 b4 b5 n xr k m ve)(q:¬ m.ki=5->∀ a' w' ve',SzD a' 343->Tv a' 4=Ae (Ac ⟨b4,0,Ab⟩)->FR w0 w' g v l b4 k { m with es:=[] } ve'->Q .ret a' w')(i:m.ki=5->∀ a' w',Zo g b3 b4 b5 a'->Tv a' 9=Aa O p->Tv a' 10=.bool o10->FS w0 w' g v l b3 b4 b5 n xr k m ve->(Z1 25 (Z3 f54)).wp Ad Q a' w'):(Z1 24 (Z3 f54)).wp Ad Q a w:=by
 refine sqn ?_;intro t e;refine sqc ?_;intro x c;refine df49 r j f o λa1 w1 F1 c1 d1 u1 s1=>c _ _ ?_
 refine B7 u1 ?_;by_cases h:m.ki=5
 ·rw [if_neg (by simp [h])]
  exact Bz (e _ _ (i h _ _ F1 c1 d1 s1))
 ·rw [if_pos (by simpa using h)]
  refine sqf (λx=>.seq (Z2 1 x) .ret) ?_;intro s b;refine df50 F1 s1 λa2 w2 F2 s2=>b _ _ ?_
  refine A0 ?_;intro u d;refine df51 F2.sz F2.e4 F2.e5 s2 λa3 w3 f3 r3 s3=>d _ _ (wp_ret ?_)
  exact q h _ _ _ f3 r3 s3
def dfAp (l:List Int)(k:Nat)(n:Nd)(ot:Bool)(m:Mg)(P:Nat):FmS:=
 ⟨{ { { m with cm:=min ((P:Int)+((Z4 l k 4:Nat):Int)) 4096 } with tm:=(Z22 l (k+1) ot m.tm).1 } with es:=(J7 l n ot (Z22 l (k+1) ot m.tm).1 (P:Int) ⟨(Y0 l ((Z22 l (k+1) ot m.tm).2+1) (max m.lt 1) (min (Z4 l (Z22 l (k+1) ot m.tm).2 5) (4096-(P:Int)).toNat)).1,max m.lt 1,(Y0 l ((Z22 l (k+1) ot m.tm).2+1) (max m.lt 1) (min (Z4 l (Z22 l (k+1) ot m.tm).2 5) (4096-(P:Int)).toNat)).2.1⟩ (Y0 l ((Z22 l (k+1) ot m.tm).2+1) (max m.lt 1) (min (Z4 l (Z22 l (k+1) ot m.tm).2 5) (4096-(P:Int)).toNat)).1.length).es },
  (J7 l n ot (Z22 l (k+1) ot m.tm).1 (P:Int) ⟨(Y0 l ((Z22 l (k+1) ot m.tm).2+1) (max m.lt 1) (min (Z4 l (Z22 l (k+1) ot m.tm).2 5) (4096-(P:Int)).toNat)).1,max m.lt 1,(Y0 l ((Z22 l (k+1) ot m.tm).2+1) (max m.lt 1) (min (Z4 l (Z22 l (k+1) ot m.tm).2 5) (4096-(P:Int)).toNat)).2.1⟩ (Y0 l ((Z22 l (k+1) ot m.tm).2+1) (max m.lt 1) (min (Z4 l (Z22 l (k+1) ot m.tm).2 5) (4096-(P:Int)).toNat)).1.length).k⟩
theorem dfB25 {P:Nat}(hL:l.length<=1048576)(hk:k<=500000000)(hE:DfE w0 g n xr)(y:P<=4096)(r:1<=m.tm/\m.tm<=1073741824)(ag:0<=m.lt/\m.lt<=1073741824)(hF:Zo g b3 b4 b5 a)(h9:Tv a 9=Aa O (P:Int))(af:Tv a 10=.bool o10)(hS:FS w0 w g v l b3 b4 b5 n xr k m ve)(o:∀ a' w' ve',SzD a' 343->Tv a' 4=Ae (Ac ⟨b4,0,Ab⟩)->FR w0 w' g v l b4 (dfAp l k n o10 m P).k (dfAp l k n o10 m P).m ve'->Q .ret a' w'):(Z1 25 (Z3 f54)).wp Ad Q a w:=by
 unfold dfAp at o;have s:=dfTm_ok l (k+1) o10 m.tm r;refine sqg (λx=>.seq (Z2 26 x) (.seq (Z2 27 x) (.seq (Z2 28 x) (.seq (Z2 29 x) (.seq (Z2 30 x) (.seq (Z2 31 x) .ret)))))) ?_;intro K1 ae;refine df52 hL (by omega) (by omega) hF h9 af hS λa1 w1 F1 c1 d1 s1=>ae _ _ ?_
 refine A0 ?_;intro K2 aa;refine df53 F1 c1 d1 s1 λa2 w2 F2 c2 d2 e2 s2=>aa _ _ ?_
 refine A0 ?_;intro K3 z
 have b:∀ a' w' t,Zo g b3 b4 b5 a'->Tv a' 9=Aa O (P:Int)->Tv a' 10=.bool o10->Tv a' 11=Aa O (max m.lt 1)->FS w0 w' g v l b3 b4 b5 n xr t.2 { { m with cm:=min ((P:Int)+((Z4 l k 4:Nat):Int)) 4096 } with tm:=t.1 } ve->t=Z22 l (k+1) o10 m.tm->K3 a' w':=by
  intro a3 w3 t i e d e3 f et;rw [<-et] at o s;refine z _ _ ?_;refine A0 ?_;intro K4 c;refine df56 hL (by omega) (by omega) (by omega) i e d e3 f λa4 w4 ev F4 c4 d4 e4 v4 s4=>c _ _ ?_
  obtain ⟨C,hC⟩:=exq (min (Z4 l t.2 5) (4096-(P:Int)).toNat);rw [<-hC] at s4 o;have ah:=Z6 l t.2 5;have aj:C<=5:=by omega
  have j:=J9 l (t.2+1) (max m.lt 1) C;have u:=Z2n l (t.2+1) (max m.lt 1) C;obtain ⟨E,ab⟩:=exq (Y0 l (t.2+1) (max m.lt 1) C);rw [<-ab] at s4 o j u;refine A0 ?_;intro K5 x;refine sqf (Z1 1) ?_;intro K6 ac;refine df57 F4 c4 d4 e4 v4 s4 λa5 w5 F5 c5 d5 e5 v5 i5 s5=>ac _ _ ?_
  refine dfLoop (S0:=⟨E.1,max m.lt 1,E.2.1⟩) hL (by show E.2.1<=_;omega) hE (by show E.1.length<=_;omega) y ⟨F5,c5,d5,e5,v5,i5⟩ s5 λa6 w6 F6 v6 s6=>x _ _ ?_
  refine A0 ?_;intro K7 q;refine df70 F6 v6 s6 λa7 w7 F7 s7=>q _ _ ?_
  refine A0 ?_;intro K8 ad;refine df71 F7.sz F7.e4 F7.e5 s7 λa8 w8 f8 r8 s8=>ad _ _ (wp_ret ?_)
  exact o _ _ _ f8 r8 s8
 refine sqc ?_;intro K4 c;unfold Z22 at b
 cases o10 with
 | true=>
  refine df54t hL (by omega) F2 c2 d2 e2 s2 λa3 w3 i e d e3 u3 f=>c _ _ ?_
  refine B7 u3 ?_;by_cases h:Z4 l (k+1) 2=0
  ·rw [if_pos (by simp [h])]
   simp only [h,if_true] at b;refine df55 (m:={ m with cm:=min ((P:Int)+((Z4 l k 4:Nat):Int)) 4096 }) (show 0<=m.tm/\m.tm<=1099511627776 by omega) i e d e3 f λa4 w4 F4 c4 d4 e4 s4=>?_
   exact b _ _ _ F4 c4 d4 e4 s4 rfl
  ·rw [if_neg (by simp [h])]
   simp only [h,if_false,if_true] at b;exact Bz (b _ _ (m.tm,k+1+1) i e d e3 f rfl)
 | false=>
  refine df54f F2 c2 d2 e2 s2 λa3 w3 i e d e3 u3 f=>c _ _ ?_
  refine B7 u3 ?_;simp only [Bool.false_eq_true,if_false] at b;exact Bz (b _ _ (m.tm,k+1) i e d e3 f rfl)
end
end Go.Proofs.YtmmpoppgabadmaaGreat
