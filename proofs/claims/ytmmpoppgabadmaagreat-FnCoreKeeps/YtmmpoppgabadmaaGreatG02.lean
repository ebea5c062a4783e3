import Derived.Test.YtmmpoppgabadmaaGreatG01
import Derived.Deep.RegionHeld3
import Derived.Deep.RegionLaw
set_option linter.unusedVariables false
set_option linter.unusedSimpArgs false
set_option maxRecDepth 100000
set_option maxHeartbeats 16000000
open Go.Value renaming slice → I,int → Aa,pointer → Ae,agg → Aw
open Go.IntKind renaming i64 → O
open _root_.Option renaming none → Ab,some → Ac
open Go.Proofs.Tryz renaming prog → Ad
open Go renaming Value → Af,World → Ag,Calls → Ar,results_none → Au,TypeId → Ax,Act → Bn,Addr → B4
open Go.RowKit renaming Hid → Ah,Below → Ai,intOf → B0
open Go.Ending renaming returned → Aj
open Go.RowKit.Below renaming heap_setCell → Ak,refl → An
open _root_.Bool renaming and_eq_true → Al
open Go.Calls renaming mono → Am
open _root_.Nat renaming le_refl → Ao,le_trans → Ap,zero_le → Bb,le_of_lt → Be,lt_or_ge → B1
open Go.World.ownsRow renaming lt → Aq
open _root_.List renaming getElem?_eq_getElem → As,length_append → Bc,length_set → Bg,not_mem_nil → Br,getElem?_eq_none → Bv,mem_cons → B3
open Go.Obj renaming cells → At
open Go.Exit renaming inBlock → Av
open _root_.Option.some renaming injEq → Bf
open _root_.Array renaming getD_eq_getD_getElem? → Bw
namespace Go.Proofs.YtmmpoppgabadmaaGreat
open Go.Proofs.Tryz
open Go.RowKit
section
theorem rise_get {m:Int} : ∀ {l:List Int} {x:Int},Z1w m x l=true->(∀ k (h:k<l.length),inB l[k] (x+1) m=true)/\∀ j (h:j+1<l.length),l[j]<l[j+1]
 | [],x,_=>⟨λk h=>absurd h (by simp),λk h=>absurd h (by simp)⟩
 | y :: l,x,h=>by
  simp only [Z1w,Al] at h;obtain ⟨a,b⟩:=rise_get h.2;have c:=(Zj _ _ _).1 h.1;refine ⟨λk hk=>?_,λj hj=>?_⟩
  ·cases k with
   | zero=>exact h.1
   | succ k=>have:=(Zj _ _ _).1 (a k (by simpa using hk));exact (Zj _ _ _).2 ⟨by simp only [List.getElem_cons_succ];omega,by simp only [List.getElem_cons_succ];omega⟩
  ·cases j with
   | zero=>have:=(Zj _ _ _).1 (a 0 (by simpa using hj));simp only [List.getElem_cons_zero,List.getElem_cons_succ];omega
   | succ j=>exact b j (by simpa using hj)
variable {n:Nd} {a12 a13 a14 a15 a16 a17:Option B4} {c12 c13 c14 c15 c16 c17:Nat} {w:Ag}
theorem grant_ok (a:Ix w (I a13 n.gr.length c13) n.gr)(o:0<=n.sz)(t:n.sz<=7)(h:Jo n.ro n.sz n.id n.gr=true):Ar Ad 72 #[Aw (nV n a12 a13 a14 a15 a16 a17 c12 c13 c14 c15 c16 c17)] w λe w'=>e=Aj (.bool true)/\Ai w.heap.size w w':=by
 obtain ⟨s,v,i2,i3,z,i5,d,i7,i8,i9,m,j,f,c,l,k,g,i⟩:=n;dsimp only at a o t h;have b:=Z0 ((An w.heap.size w).alloc (Ao _) (At (nV ⟨s,v,i2,i3,z,i5,d,i7,i8,i9,m,j,f,c,l,k,g,i⟩ a12 a13 a14 a15 a16 a17 c12 c13 c14 c15 c16 c17) 36));have hl:=a.1;unfold maxLen at hl;unfold Jo at h;split at h
 ·obtain ⟨q,p⟩:=‹_/\_›
  have na:(d != 1)=true:=by simpa using q
  have nb:(d != 2)=true:=by simpa using p
  go_enter func72,ntmps72;go_wp2;go_ret;exact ⟨by simp,b⟩
 simp only [Al] at h;obtain ⟨r,x,hm⟩:=h;have y:=Z0 λu (hu:Ai w.heap.size w u)=>Z7i _ c v u (a.below hu) o (by omega)
 have e2:=Z0 λu (hu:Ai w.heap.size w u)=>containsI_any _ c s u (a.below hu)
 rw [r] at y;rw [x] at e2;rcases (show d=1∨d=2 by omega) with rfl | rfl
 all_goals
  go_enter func72,ntmps72
  go_wp2_with (first
   |(go_at_call 110;refine sw (y _ b) ?_)
   |(go_at_call 111;refine sw (e2 _ b) ?_)
   |(go_at_call 112;refine sw (Z18 _ _ o t _) ?_))
  go_ret;exact ⟨by simp,b⟩
theorem grantS_ok (f:Ix w (I a13 n.gr.length c13) n.gr)(z:sizB n.sz=true)(h:Jo n.ro n.sz n.id n.gr=true):Ar Ad 59 #[Aw (nV n a12 a13 a14 a15 a16 a17 c12 c13 c14 c15 c16 c17)] w λe w'=>e=Aj (.bool true)/\Ai w.heap.size w w':=by
 obtain ⟨i0,d,i2,i3,i4,i5,t,i7,i8,i9,ah,ad,aa,a,af,ae,ab,ac⟩:=n;dsimp only at f z h;have al:d=3∨d=5∨d=7:=by simpa [sizB,or_assoc] using z
 have o:d%2=1:=by omega
 have r:=Z0 f;obtain ⟨hl,a0,aj,e0,q⟩:=f;injection e0 with e1 _ e3;subst e1 e3;unfold maxLen at hl;unfold Jo at h;split at h
 ·obtain ⟨ha,hb⟩:=‹_/\_›
  have na:(t != 1)=true:=by simpa using ha
  have nb:(t != 2)=true:=by simpa using hb
  go_enter func59,ntmps59;go_wp2;go_ret;exact ⟨by simp,baq⟩
 simp only [Al] at h;obtain ⟨hr,hh,hm⟩:=h;obtain ⟨r1,r2⟩:=rise_get hr;have ai:=riseB_len d a 0 hr (by omega);have HX:=Z0 λu (hu:Ai w.heap.size w u)=>Z4j _ a i0 u (r.below hu)
 rw [hh] at HX;rcases (show t=1∨t=2 by omega) with rfl | rfl
 all_goals
  go_enter func59,ntmps59;go_wp2
  go_loopw [3] (λi wr=>∃ k:Nat,k<=a.length/\i=Aa O k/\Blk wr w.heap.size (nV ⟨i0,d,i2,i3,i4,i5,_,i7,i8,i9,ah,ad,aa,a,af,ae,ab,ac⟩ a12 a13 a14 a15 a16 a17 c12 c13 c14 c15 c16 c17) 36/\Ai w.heap.size w wr) (λi _=>a.length-(B0 i).toNat)
  case atStart=>exact ⟨0,Bb _,rfl,Blk.new _ _ _,baq⟩
  case round=>
   obtain ⟨k,hk,rfl,BA,l⟩:=hrel;have cA:=BA.cell;have HA:=Z0 BA;have HB:=Z0 l;by_cases c:k<a.length
   ·obtain ⟨b,s,rfl,g⟩:=q k c
    have ag:=(l.cell (p:=⟨b,s+k,Ab⟩) (Xp (g k c))).trans (g k c);have v:=r1 k c;have HL:=Z0 λu=>Y2 a[k] 1 d u
    rw [show inB a[k] 1 d=true by simpa using v] at HL;have ak:=(Zj _ _ _).1 v
    cases k with
    | zero=>
     simp only [Nat.add_zero] at ag;generalize a[0]=y at *
     go_wp2_with fail
     go_quiet ((go_at_call 56;exact Calls.quiet_of_same (HL _)))
     go_wp2
     go_roundw
     case rel=>exact ⟨1,by omega,by go_num,HA.keep rfl,HB.trans bdr⟩
     case measure=>simp [B0];omega
    | succ j=>
     have m:j<a.length:=by omega
     have an:=(l.cell (p:=⟨b,s+j,Ab⟩) (Xp (g j m))).trans (g j m);have am:=r2 j c;generalize a[j+1]=y at *;generalize a[j]=x at *
     go_wp2_with fail
     go_quiet ((go_at_call 56;exact Calls.quiet_of_same (HL _)))
     go_wp2
     go_roundw
     case rel=>exact ⟨j+1+1,by omega,by go_num,HA.keep rfl,HB.trans bdr⟩
     case measure=>simp [B0];omega
   ·clear q r1 r2 l
    go_wp2_with (first
     |(go_at_call 99;refine sw (HX _ HB) ?_)
     |(go_at_call 100;refine sw (Z1c _ _ o (by omega) (by omega) _) ?_))
    go_ret;exact ⟨by simp,HB.out⟩
end
section
variable {id ln nw:Int}{a b c d:List Int}
theorem progs_get {n:Nat}(h:Z53 id ln nw a b c d n 0=true)(j:Nat)(e:j<n):Z0y ((j:Int)+1) id ln nw (a.getD j 0) (b.getD j 0) (c.getD j 0) (d.getD j 0)=true:=by
 unfold Z53 at h;rw [List.all_eq_true] at h;exact h j (by rw [List.mem_range'_1];omega)
theorem list_get {ro sz:Int}(h:Jw ro sz id ln nw a b c d=true)(g:0<=sz)(f:sz<=7):∃ W:Int,0<=W/\W<=7/\(a.length:Int)=W/\(b.length:Int)=W/\(c.length:Int)=W/\(d.length:Int)=W/\(∀ j,j<W.toNat->Z0y ((j:Int)+1) id ln nw (a.getD j 0) (b.getD j 0) (c.getD j 0) (d.getD j 0)=true)/\((ro=3/\sz=W)∨(¬ro=3/\W=0)):=by
 simp only [Jw,Al,Xu] at h;by_cases e:ro=3
 ·simp only [e,if_true] at h
  exact ⟨sz,g,f,h.1.1,h.1.2.1,h.1.2.2.1,h.1.2.2.2,λj hj=>progs_get h.2 j hj,.inl ⟨e,rfl⟩⟩
 ·simp only [e,if_false] at h
  exact ⟨0,by omega,by omega,h.1.1,h.1.2.1,h.1.2.2.1,h.1.2.2.2,λj hj=>absurd hj (by simp),.inr ⟨e,rfl⟩⟩
variable {k:Nat}
theorem ixk {w:Ag}{a:Option B4}{c:Nat}{l:List Int}(h:Ix w (I a l.length c) l)(i:k<l.length):∃ b o,a=Ac ⟨b,o,Ab⟩/\w.cell? ⟨b,o+k,Ab⟩=Ac (Aa O (l.getD k 0))/\b<w.heap.size/\(k:Int)<(l.length:Int)/\l.length<=maxLen:=by
 obtain ⟨m,x,y,e,p⟩:=h;injection e with f _ g;subst f g;obtain ⟨b,o,rfl,j⟩:=p k i;exact ⟨b,o,rfl,by rw [j k i,List.getD_eq_getElem?_getD,As i];rfl,Xp (j k i),by omega,m⟩
variable {n:Nd} {a12 a13 a14 a15 a16 a17:Option B4} {c12 c13 c14 c15 c16 c17:Nat} {w:Ag}
theorem progOf_ok (r:Ix w (I a14 n.nx.length c14) n.nx)(h:Ix w (I a15 n.mt.length c15) n.mt)(x:Ix w (I a16 n.se.length c16) n.se)(t:Ix w (I a17 n.st.length c17) n.st)(ac:k<n.nx.length)(aa:k<n.mt.length)(ab:k<n.se.length)(z:k<n.st.length)(hk:k<1000):Ar Ad 82 #[Aw (nV n a12 a13 a14 a15 a16 a17 c12 c13 c14 c15 c16 c17),Aa O ((k:Int)+1)] w λe w'=>e=Aj (Aw #[Aa O (n.nx.getD k 0),Aa O (n.mt.getD k 0),Aa O (n.se.getD k 0),Aa O (n.st.getD k 0)])/\Ai w.heap.size w w':=by
 obtain ⟨i0,i1,i2,i3,i4,i5,i6,i7,i8,i9,az,ak,af,ao,y,u,l,m⟩:=n;dsimp only at *;obtain ⟨j,i,rfl,ai,ay,ae,ag⟩:=ixk r ac;obtain ⟨f,s,rfl,av,an,aw,ax⟩:=ixk h aa;obtain ⟨p,g,rfl,a1,ar,aj,ad⟩:=ixk x ab;obtain ⟨o,q,rfl,a0,aq,ah,am⟩:=ixk t z;generalize List.getD y k 0=v14 at *;generalize List.getD u k 0=v15 at *;generalize List.getD l k 0=v16 at *;generalize List.getD m k 0=v17 at *;generalize hid:(k:Int)+1=id;have al:IntKind.i64.wrap (id-1)=(k:Int):=wry
 have au:(0:Int)<=(k:Int):=by omega
 unfold maxLen at *;go_enter func82,ntmps82;go_wp2
 go_region_held3 (λw'=>w'.cell? ⟨w.heap.size,14,Ab⟩=Ac (I (Ac ⟨j,i,Ab⟩) y.length c14)/\w'.cell? ⟨w.heap.size,15,Ab⟩=Ac (I (Ac ⟨f,s,Ab⟩) u.length c15)/\w'.cell? ⟨w.heap.size,16,Ab⟩=Ac (I (Ac ⟨p,g,Ab⟩) l.length c16)/\w'.cell? ⟨w.heap.size,17,Ab⟩=Ac (I (Ac ⟨o,q,Ab⟩) m.length c17)/\w'.cell? ⟨j,i+k,Ab⟩=Ac (Aa O v14)/\w'.cell? ⟨f,s+k,Ab⟩=Ac (Aa O v15)/\w'.cell? ⟨p,g+k,Ab⟩=Ac (Aa O v16)/\w'.cell? ⟨o,q+k,Ab⟩=Ac (Aa O v17)) (simp [*,go_sem]) (first | fail)
 go_wp2;exact bodyPost_ret (v:=Aw #[Aa O v14,Aa O v15,Aa O v16,Aa O v17]) (by simp [results,results82,go_sem]) rfl ⟨rfl,(baq.alloc (by simp) _).drew⟩
theorem prog_ok (l:Ix w (I a14 n.nx.length c14) n.nx)(i:Ix w (I a15 n.mt.length c15) n.mt)(o:Ix w (I a16 n.se.length c16) n.se)(m:Ix w (I a17 n.st.length c17) n.st)(q:k<n.nx.length)(j:k<n.mt.length)(p:k<n.se.length)(g:k<n.st.length)(hk:k<1000)(ad:n.log.length<=1048576)(h:Z0y ((k:Int)+1) n.id n.log.length n.nw (n.nx.getD k 0) (n.mt.getD k 0) (n.se.getD k 0) (n.st.getD k 0)=true):Ar Ad 113 #[Aw (nV n a12 a13 a14 a15 a16 a17 c12 c13 c14 c15 c16 c17),Aa O ((k:Int)+1)] w λe w'=>e=Aj (.bool true)/\Ai w.heap.size w w':=by
 have HP:=Z0 λu (hu:Ai w.heap.size w u)=>progOf_ok (n:=n) (a12:=a12) (a13:=a13) (c12:=c12) (c13:=c13) (l.below hu) (i.below hu) (o.below hu) (m.below hu) q j p g hk
 obtain ⟨z,i1,i2,i3,i4,i5,i6,i7,i8,i9,af,ab,aa,ae,x,v,r,s⟩:=n;dsimp only at *;generalize List.getD x k 0=v14 at *;generalize List.getD v k 0=v15 at *;generalize List.getD r k 0=v16 at *;generalize List.getD s k 0=v17 at *;unfold Z0y at h;split at h
 ·subst z
  simp only [Al,beq_iff_eq] at h;obtain ⟨rfl,rfl,rfl,rfl⟩:=h;have hE:=λu=>eqProg_run 9998 0 0 0 0 u
  go_enter func113,ntmps113
  go_wp2_with (first
   |(refine Zd 36 _ rfl ?_;refine Z7 rfl 36 _ rfl _ rfl (Blk.new _ _ _) underlying36 rfl Z5j rfl ?_)
   |(go_at_call 82;refine (HP _ baq).mono ?_;rintro e y ⟨rfl,f⟩;have hz:w.heap.size<y.heap.size:=(by have:=f.size;simp at this;omega);have cA:=((Blk.new w _ _).below f (by simp)).cell;have t:=Z0 (((An w.heap.size w).alloc (Ao _) _).trans (f.mono (by simp)));clear f))
  go_ret;exact ⟨rfl,t.alloc (by omega) _⟩
 ·have ac:(((k:Int)+1) == z)=false:=by simpa
  simp only [Al] at h;obtain ⟨q1,q2,q3,q4⟩:=h;have r1:=(Zj _ _ _).1 q1;go_enter func113,ntmps113
  go_wp2_with (first
   |(refine Zd 36 _ rfl ?_;refine Z7 rfl 36 _ rfl _ rfl (Blk.new _ _ _) underlying36 rfl Z5j rfl ?_)
   |(go_at_call 82;refine (HP _ baq).mono ?_;rintro e y ⟨rfl,f⟩;have hz:w.heap.size<y.heap.size:=(by have:=f.size;simp at this;omega);have cA:=((Blk.new w _ _).below f (by simp)).cell;have t:=Z0 (((An w.heap.size w).alloc (Ao _) _).trans (f.mono (by simp)));clear f)
   |(go_at_call 70;refine Z43 (by assumption) ?_))
  go_ret;exact ⟨rfl,t.alloc (by omega) _⟩
theorem lists_ok (x:Ix w (I a14 n.nx.length c14) n.nx)(q:Ix w (I a15 n.mt.length c15) n.mt)(aa:Ix w (I a16 n.se.length c16) n.se)(y:Ix w (I a17 n.st.length c17) n.st)(hs:0<=n.sz)(ad:n.sz<=7)(af:n.log.length<=1048576)(h:Jw n.ro n.sz n.id n.log.length n.nw n.nx n.mt n.se n.st=true):Ar Ad 73 #[Aw (nV n a12 a13 a14 a15 a16 a17 c12 c13 c14 c15 c16 c17)] w λe w'=>e=Aj (.bool true)/\Ai w.heap.size w w':=by
 obtain ⟨i0,i1,i2,i3,i4,i5,i6,i7,i8,i9,ac,v,p,z,l,j,f,g⟩:=n;obtain ⟨W,ai,ah,t,ab,o,r,hp,m⟩:=list_get h hs ad;have HP:=Z0 λu (k:Nat) (hu:Ai w.heap.size w u) (hk:(k:Int)<W)=>prog_ok (n:=⟨i0,i1,i2,i3,i4,i5,i6,i7,i8,i9,ac,v,p,z,l,j,f,g⟩) (a12:=a12) (a13:=a13) (c12:=c12) (c13:=c13) (k:=k) (x.below hu) (q.below hu) (aa.below hu) (y.below hu) (by dsimp only at *;omega) (by dsimp only at *;omega) (by dsimp only at *;omega) (by dsimp only at *;omega) (by omega) af (hp k (by omega))
 dsimp only at *;have e14:((l.length:Int) == W)=true:=by simpa using t
 have ag:((j.length:Int) == W)=true:=by simpa using ab
 have e16:((f.length:Int) == W)=true:=by simpa using o
 have e17:((g.length:Int) == W)=true:=by simpa using r
 rcases m with ⟨rfl,rfl⟩ | ⟨m,rfl⟩
 all_goals
  go_enter func73,ntmps73;go_wp2;go_loop [22] (λi=>∃ k:Nat,k<=4/\i=Aa O k) (λi=>4-(B0 i).toNat)
  case atStart=>exact ⟨0,by omega,rfl⟩
  case round=>
   obtain ⟨k,hk,rfl⟩:=hrel;rcases (show k=0∨k=1∨k=2∨k=3∨k=4 by omega) with rfl | rfl | rfl | rfl | rfl
   iterate 4
    ·go_wp2
     go_round
     case rel=>first | exact ⟨1,by omega,by go_num⟩ | exact ⟨2,by omega,by go_num⟩ | exact ⟨3,by omega,by go_num⟩ | exact ⟨4,by omega,by go_num⟩
     case measure=>simp [B0]
   go_wp2
   go_loopw [32] (λi wr=>∃ k:Nat,(k:Int)<=7/\i=Aa O k/\Blk wr w.heap.size (nV ⟨i0,i1,i2,i3,i4,i5,_,i7,i8,i9,ac,v,p,z,l,j,f,g⟩ a12 a13 a14 a15 a16 a17 c12 c13 c14 c15 c16 c17) 36/\Ai w.heap.size w wr) (λi _=>8-(B0 i).toNat)
   case atStart=>exact ⟨0,by omega,rfl,(Blk.new _ _ _).alloc _,baq.alloc (by simp) _⟩
   case round=>
    obtain ⟨k,hk,rfl,BA,hB⟩:=hrel;have HB:=Z0 hB;have HA:=Z0 BA;have hz:=hB.size;have ae:=BA.lt
    go_wp2_with (first
     |(refine Zd 36 _ rfl ?_;refine Z7 rfl 36 _ rfl _ rfl HA underlying36 rfl Z5j rfl ?_)
     |(go_at_call 113;refine (HP _ k HB (by omega)).mono ?_;rintro e w1 ⟨rfl,s⟩))
    all_goals first
     |(go_ret;exact ⟨rfl,HB.out⟩)
     |(go_roundw
       case rel=>exact ⟨k+1,by omega,by go_num,HA.below s ae,HB.trans (s.mono hz)⟩
       case measure=>simp [B0];omega)
end
section
variable {n:Nd} {a12 a13 a14 a15 a16 a17:Option B4} {c12 c13 c14 c15 c16 c17:Nat} {w:Ag}
theorem listsS_ok (l:Ix w (I a14 n.nx.length c14) n.nx)(b:Ix w (I a15 n.mt.length c15) n.mt)(d:Ix w (I a16 n.se.length c16) n.se)(c:Ix w (I a17 n.st.length c17) n.st)(hs:0<=n.sz)(ae:n.sz<=7)(a9:n.log.length<=1048576)(h:Jw n.ro n.sz n.id n.log.length n.nw n.nx n.mt n.se n.st=true):Ar Ad 60 #[Aw (nV n a12 a13 a14 a15 a16 a17 c12 c13 c14 c15 c16 c17)] w λe w'=>e=Aj (.bool true)/\Ai w.heap.size w w':=by
 obtain ⟨i0,m,i2,i3,i4,i5,i6,i7,i8,i9,ag,af,y,ab,f,j,a,g⟩:=n;obtain ⟨W,am,a0,q,t,u,s,v,r⟩:=list_get h hs ae;dsimp only at *;rcases r with ⟨rfl,rfl⟩ | ⟨r,rfl⟩
 case inr=>
  obtain ⟨al,ak,ay,a7⟩:f.length=0/\j.length=0/\a.length=0/\g.length=0:=by omega
  go_enter func60,ntmps60;go_wp2;go_ret;exact ⟨by simp [*],baq⟩
 go_enter func60,ntmps60;go_wp2
 go_loopw [3] (λi wr=>∃ k:Nat,(k:Int)<=m/\i=Aa O ((k:Int)+1)/\Blk wr w.heap.size (nV ⟨i0,m,i2,i3,i4,i5,3,i7,i8,i9,ag,af,y,ab,f,j,a,g⟩ a12 a13 a14 a15 a16 a17 c12 c13 c14 c15 c16 c17) 36/\Ai w.heap.size w wr) (λi _=>9-(B0 i).toNat)
 case atStart=>exact ⟨0,by omega,rfl,Blk.new _ _ _,baq⟩
 case round=>
  obtain ⟨k,hk,rfl,BA,o⟩:=hrel;have x:=Z0 o;have HA:=Z0 BA;have cA:=BA.cell;by_cases aw:(k:Int)<m
  case neg=>
   go_wp2;go_ret;exact ⟨rfl,x.out⟩
  obtain ⟨a1,aj,rfl,ao,bh,az,z⟩:=ixk (k:=k) (l.below o) (by omega);obtain ⟨a5,bc,rfl,be,av,an,ac⟩:=ixk (k:=k) (b.below o) (by omega);obtain ⟨ba,ai,rfl,bi,bd,aq,ad⟩:=ixk (k:=k) (d.below o) (by omega);obtain ⟨ar,bb,rfl,bg,a4,a3,aa⟩:=ixk (k:=k) (c.below o) (by omega);have p:=v k (by omega);generalize List.getD f k 0=v14 at *;generalize List.getD j k 0=v15 at *;generalize List.getD a k 0=v16 at *;generalize List.getD g k 0=v17 at *;generalize hid:(k:Int)+1=id at *;have au:IntKind.i64.wrap (id-1)=(k:Int):=wry
  have ax:(0:Int)<=(k:Int):=by omega
  have a2:id<=m:=by omega
  have HI:=Z0 hid;have ah:id<=7/\1<=id:=by omega
  unfold Z0y at p;split at p
  ·subst i0
   simp only [Al,beq_iff_eq] at p;obtain ⟨rfl,rfl,rfl,rfl⟩:=p
   go_wp2_with fail
   go_quiet (fail)
   go_wp2
   go_roundw
   case rel=>exact ⟨k+1,by omega,by have:=HI.out;go_num,HA.keep rfl,x.trans bdr⟩
   case measure=>simp [B0];omega
  ·have a8:(id == i0)=false:=by simpa
   simp only [Al] at p;obtain ⟨t1,t2,t3,t4⟩:=p;have r1:=(Zj _ _ _).1 t1
   go_wp2_with fail
   go_quiet (fail)
   go_wp2_with (go_at_call 56;refine l1in_t (by assumption) ?_)
   go_roundw
   case rel=>exact ⟨k+1,by omega,by have:=HI.out;go_num,HA.keep rfl,x.trans bdr⟩
   case measure=>simp [B0];omega
end
section
theorem nodeF_get {n:Nd}(h:Z4x n.id n.sz n.el n.bt n.tm n.vo n.ro n.ld n.cm n.nw n.dl n.hd n.log n.gr n.nx n.mt n.se n.st=0):Yp n.id n.sz n.el n.bt=true/\Z1z n.sz n.tm n.vo=true/\Z2o n.id n.sz n.tm n.vo n.ro n.ld=true/\n.log.length<=4096/\Jq n.tm 1 n.log=true/\inB n.cm 0 n.log.length=true/\Xr n.el n.nw n.dl n.hd=true/\Jo n.ro n.sz n.id n.gr=true/\Jw n.ro n.sz n.id n.log.length n.nw n.nx n.mt n.se n.st=true:=by
 unfold Z4x at h
 repeat' split at h
 all_goals first | exact absurd h (by decide) | (simp only [Bool.not_eq_false] at *;refine ⟨by assumption,by assumption,by assumption,by omega,by assumption,by assumption,by assumption,by assumption,by assumption⟩)
variable {n:Nd} {a12 a13 a14 a15 a16 a17:Option B4} {c12 c13 c14 c15 c16 c17:Nat} {w:Ag}
theorem nodeI_ok (ad:Es w (I a12 n.log.length c12) n.log)(ab:Ix w (I a13 n.gr.length c13) n.gr)(y:Ix w (I a14 n.nx.length c14) n.nx)(q:Ix w (I a15 n.mt.length c15) n.mt)(ac:Ix w (I a16 n.se.length c16) n.se)(aa:Ix w (I a17 n.st.length c17) n.st)(h0:Z4x n.id n.sz n.el n.bt n.tm n.vo n.ro n.ld n.cm n.nw n.dl n.hd n.log n.gr n.nx n.mt n.se n.st=0):Ar Ad 26 #[Aw (nV n a12 a13 a14 a15 a16 a17 c12 c13 c14 c15 c16 c17)] w λe w'=>e=Aj (Aa O 0)/\Ai w.heap.size w w':=by
 obtain ⟨k1,k2,k3,k4,k5,k6,k7,k8,k9⟩:=nodeF_get h0;obtain ⟨-,⟨s3,s7⟩,⟨d1,d2⟩,el,ae⟩:=Z3k k1;have H1:=Z0 λu=>placeFits_any n.id n.sz n.el n.bt u
 rw [k1] at H1;have H4:=Z0 λu (hu:Ai w.heap.size w u)=>Z3p _ 1 n.tm n.log u (ad.below hu) (by omega)
 have H7:=Z0 λu (hu:Ai w.heap.size w u)=>grant_ok (a12:=a12) (a14:=a14) (a15:=a15) (a16:=a16) (a17:=a17) (c12:=c12) (c14:=c14) (c15:=c15) (c16:=c16) (c17:=c17) (ab.below hu) (by omega) s7 k8
 have H8:=Z0 λu (hu:Ai w.heap.size w u)=>lists_ok (a12:=a12) (a13:=a13) (c12:=c12) (c13:=c13) (y.below hu) (q.below hu) (ac.below hu) (aa.below hu) (by omega) s7 (by omega) k9
 rw [k5] at H4;obtain ⟨t,x,o,z,p,s,r,v,i8,i9,m,i,f,k,l,j,g,h⟩:=n;dsimp only at *;have a:=Blk.new w (nV ⟨t,x,o,z,p,s,r,v,i8,i9,m,i,f,k,l,j,g,h⟩ a12 a13 a14 a15 a16 a17 c12 c13 c14 c15 c16 c17) 36;have c:=Z0 ((An w.heap.size w).alloc (Ao _) (At (nV ⟨t,x,o,z,p,s,r,v,i8,i9,m,i,f,k,l,j,g,h⟩ a12 a13 a14 a15 a16 a17 c12 c13 c14 c15 c16 c17) 36));have d:=a.cell;go_enter func26,ntmps26
 go_wp2_with (first
  |(go_at_call 66;refine sw (H1 _) ?_)
  |(refine Zd 36 _ rfl ?_;refine Z7 rfl 36 _ rfl _ rfl a underlying36 rfl Z5j rfl ?_)
  |(go_at_call 67;refine Am (vote_ok (n:=⟨t,x,o,z,p,s,r,v,i8,i9,m,i,f,k,l,j,g,h⟩) k2) ?_;rintro e w1 ⟨rfl,b⟩;replace c:=Z0 (c.trans (b.mono c.size));replace a:=a.below b a.lt;clear d;have d:=a.cell;clear b)
  |(go_at_call 68;refine Am (role_ok (n:=⟨t,x,o,z,p,s,r,v,i8,i9,m,i,f,k,l,j,g,h⟩) k3) ?_;rintro e w1 ⟨rfl,b⟩;replace c:=Z0 (c.trans (b.mono c.size));replace a:=a.below b a.lt;clear d;have d:=a.cell;clear b)
  |(go_at_call 69;refine Am (H4 _ c) ?_;rintro e w1 ⟨rfl,b⟩;replace c:=Z0 (c.trans (b.mono c.size));replace a:=a.below b a.lt;clear d;have d:=a.cell;clear b)
  |(go_at_call 70;refine Z43 k6 ?_)
  |(go_at_call 71;refine Am (clock_ok (n:=⟨t,x,o,z,p,s,r,v,i8,i9,m,i,f,k,l,j,g,h⟩) k7 (by show 0<=o;omega) (by show o<=1000;omega)) ?_;rintro e w1 ⟨rfl,b⟩;replace c:=Z0 (c.trans (b.mono c.size));replace a:=a.below b a.lt;clear d;have d:=a.cell;clear b)
  |(go_at_call 72;refine Am (H7 _ c) ?_;rintro e w1 ⟨rfl,b⟩;replace c:=Z0 (c.trans (b.mono c.size));replace a:=a.below b a.lt;clear d;have d:=a.cell;clear b)
  |(go_at_call 73;refine Am (H8 _ c) ?_;rintro e w1 ⟨rfl,b⟩;replace c:=Z0 (c.trans (b.mono c.size));replace a:=a.below b a.lt;clear d;have d:=a.cell;clear b))
 go_ret;exact ⟨rfl,c.out⟩
end
section
variable {w w':Ag}
theorem gb_of (row:Option Nat)(h:Ai w.heap.size w w'):w.grownBy w' row:=⟨h.os,h.tape,h.output,h.size,λk hk _=>h.block k hk⟩
theorem toutC_le (el dr:Int):0<=Jf el dr/\Jf el dr<=2000:=by
 unfold Jf;split
 ·rename_i h
  rw [Zj] at h;have a:=modI_ge dr el (by omega);have c:=modI_lt dr el (by omega);omega
 ·omega
theorem Z0x (b:Nat)(r:Rn)(x:RV)(w:Ag)(B:Nat)(h:Ze w B b r x)(hd : -(2^63)<=r.draw)(l:r.draw<2^63)(m:0<=r.n.nw)(k:r.n.nw<=1099511627776) :
  Ar Ad 115 #[Ae (Ac ⟨b,0,Ab⟩)] w λe w'=>e=Aj (.tuple #[])/\Ze w' B b r.timer x/\Ai B w w'/\w.grownBy w' (Ac b):=by
 have d:=Z0 h;have v:=h.c2;have c9:=h.c9;have j:=h.c10;have q:=h.c20;have g:=h.c21;have u:=h.blk.free 10;have o:=h.blk.free 20;have s:Ah (∀ z,Ar Ad 103 #[Aa O r.n.el,Aa O r.draw] z λe w'=>e=Aj (Aa O (Jf r.n.el r.draw))/\w'=z):=λz=>Z3t _ _ hd l z
 have a:=toutC_le r.n.el r.draw;have f:Ah (r.timer={ r with n:={ r.n with dl:=r.n.nw+Jf r.n.el r.draw },drew:=1 }):=rfl;generalize Jf r.n.el r.draw=tv at *;obtain ⟨a,t⟩:=a;go_enter func115,ntmps115;go_wp2
 go_region_held3 (λw'=>w'.cell? ⟨b,2,Ab⟩=Ac (Aa O r.n.el)/\w'.cell? ⟨b,9,Ab⟩=Ac (Aa O r.n.nw)/\w'.cell? ⟨b,21,Ab⟩=Ac (Aa O r.draw)) (simp [*,go_sem])
  (first
   |(go_at_call 103;refine (s _).mono ?_;rintro e y ⟨rfl,i⟩;have c:=i.symm;subst c))
 all_goals go_wp2
 all_goals (
  refine bodyPost_end (Au rfl _ _ _) rfl ?_;exact ⟨rfl,(((d.set (r':={ r with n:={ r.n with dl:=r.n.nw+tv } }) 10 _ rfl rfl rfl rfl rfl rfl rfl rfl).drew).set (r':=r.timer) 20 _ (by rw [f.out];rfl) rfl rfl rfl rfl rfl rfl rfl),(d.setB 10 _).drew.setCell (p:=⟨b,20,Ab⟩) d.lo _,Z8 (Z8 (Rd.frame 10 _) (gb_of _ ((An _ _).drew))) (Rd.frame 20 _)⟩)
variable {b:Nat}
theorem Xo {a:Ag}(h:∀ k,k≠b->k<w.heap.size->a.heap[k]? = w.heap[k]?)(i:Nat)(v:Af):∀ k,k≠b->k<w.heap.size->(a.setCell ⟨b,i,Ab⟩ v).heap[k]? = w.heap[k]?:=
 λk hk hl=>(Ak _ _ _ _ hk).trans (h k hk hl)
theorem Z4d (w:Ag)(b:Nat):∀ k,k≠b->k<w.heap.size->w.heap[k]? = w.heap[k]?:=λ_ _ _=>rfl
def RV.lone (x:RV):RV:={ x with vg:=I Ab 0 0,vn:=I Ab 0 0,vm:=I Ab 0 0,vs:=I Ab 0 0,vt:=I Ab 0 0 }
theorem Jz (v:Af):Yd (I Ab 0 0) v:=λk h=>by cases h
theorem Ze.loneAt {B:Nat}{r r':Rn}{x:RV}(h:Ze w B b r x)(f:Blk w' b (rnC r' x.lone) 112)(c:∀ k,k≠b->k<w.heap.size->w'.heap[k]? = w.heap[k]?)
  (e:r'.n.log=r.n.log) (e2:r'.n.gr = []) (e3:r'.n.nx = []) (e4:r'.n.mt = []) (e5:r'.n.se = []) (e6:r'.n.st = []) (e7:r'.out=r.out):Ze w' B b r' x.lone:=by
 have g:∀ {α:Type} {cs:α->List Af} {m:Nat} {T:Ax} {v:Af} {l:List α},T≠112->Zc cs m T w B v l->Zc cs m T w' B v l:=λhT ho=>ho.block λk hk'=>c k (Zm ho h.blk hT k hk') (ho.lts k hk').2
 have d:∀ {v:Af} {l:List Ent},Zh w B v l->Zh w' B v l:=λho=>ho.block λk hk'=>c k (Y5 ho h.blk (by decide) k hk') (Aq ho.2 k hk').2
 have a:Zc inC 1 3 w' B (I Ab 0 0) []:=Zc.nil _ _ _ _ _;exact ⟨f,h.lo,e▸d h.log,e2▸a,e3▸a,e4▸a,e5▸a,e6▸a,g (by decide) h.out,e7▸h.outC,λp hp=>d (h.ents p hp),by simp [RV.lone,Jz]⟩
theorem Z1m (b:Nat)(r:Rn)(x:RV)(w:Ag)(B:Nat)(h:Ze w B b r x) :
  Ar Ad 114 #[Ae (Ac ⟨b,0,Ab⟩)] w λe w'=>e=Aj (.tuple #[])/\Ze w' B b r.lone x.lone/\Ai B w w'/\w.grownBy w' (Ac b):=by
 have t:=Z0 h;have c6:=h.c6;have c7:=h.c7;have c13:w.cell? ⟨b,13,Ab⟩=Ac (x.vg):=h.blk.cell 13;have c14:w.cell? ⟨b,14,Ab⟩=Ac (x.vn):=h.blk.cell 14;have c15:w.cell? ⟨b,15,Ab⟩=Ac (x.vm):=h.blk.cell 15;have c16:w.cell? ⟨b,16,Ab⟩=Ac (x.vs):=h.blk.cell 16;have c17:w.cell? ⟨b,17,Ab⟩=Ac (x.vt):=h.blk.cell 17;have f6:=h.blk.free 6;have f7:=h.blk.free 7;have z:=h.blk.free 13;have y:=h.blk.free 14;have u:=h.blk.free 15;have q:=h.blk.free 16;have s:=h.blk.free 17;have k:Blk (w.setCell ⟨b,14,Ab⟩ (I Ab 0 0)) b (rnC r { x with vn:=I Ab 0 0 }) 112:=t.blk.set 14 _;have m:=Xo (b:=b) (Z4d w b) 14 (I Ab 0 0);have b1:Blk ((w.setCell ⟨b,14,Ab⟩ (I Ab 0 0)).setCell ⟨b,15,Ab⟩ (I Ab 0 0)) b (rnC r { x with vn:=I Ab 0 0,vm:=I Ab 0 0 }) 112:=k.set 15 _;have g:=Xo (b:=b) m 15 (I Ab 0 0);have l:Blk (((w.setCell ⟨b,14,Ab⟩ (I Ab 0 0)).setCell ⟨b,15,Ab⟩ (I Ab 0 0)).setCell ⟨b,16,Ab⟩ (I Ab 0 0)) b (rnC r { x with vn:=I Ab 0 0,vm:=I Ab 0 0,vs:=I Ab 0 0 }) 112:=b1.set 16 _;have j:=Xo (b:=b) g 16 (I Ab 0 0);have o:Blk ((((w.setCell ⟨b,14,Ab⟩ (I Ab 0 0)).setCell ⟨b,15,Ab⟩ (I Ab 0 0)).setCell ⟨b,16,Ab⟩ (I Ab 0 0)).setCell ⟨b,17,Ab⟩ (I Ab 0 0)) b (rnC r { x with vn:=I Ab 0 0,vm:=I Ab 0 0,vs:=I Ab 0 0,vt:=I Ab 0 0 }) 112:=l.set 17 _;have f:=Xo (b:=b) j 17 (I Ab 0 0);have b4:Blk (((((w.setCell ⟨b,14,Ab⟩ (I Ab 0 0)).setCell ⟨b,15,Ab⟩ (I Ab 0 0)).setCell ⟨b,16,Ab⟩ (I Ab 0 0)).setCell ⟨b,17,Ab⟩ (I Ab 0 0)).setCell ⟨b,13,Ab⟩ (I Ab 0 0)) b (rnC r { x with vn:=I Ab 0 0,vm:=I Ab 0 0,vs:=I Ab 0 0,vt:=I Ab 0 0,vg:=I Ab 0 0 }) 112:=o.set 13 _;have c:=Xo (b:=b) f 13 (I Ab 0 0);have b5:Blk ((((((w.setCell ⟨b,14,Ab⟩ (I Ab 0 0)).setCell ⟨b,15,Ab⟩ (I Ab 0 0)).setCell ⟨b,16,Ab⟩ (I Ab 0 0)).setCell ⟨b,17,Ab⟩ (I Ab 0 0)).setCell ⟨b,13,Ab⟩ (I Ab 0 0)).setCell ⟨b,7,Ab⟩ (Aa O 0)) b (rnC { r with n:={ r.n with ld:=0 } } { x with vn:=I Ab 0 0,vm:=I Ab 0 0,vs:=I Ab 0 0,vt:=I Ab 0 0,vg:=I Ab 0 0 }) 112:=b4.set 7 _;have d:=Xo (b:=b) c 7 (Aa O 0);have i:Blk (((((((w.setCell ⟨b,14,Ab⟩ (I Ab 0 0)).setCell ⟨b,15,Ab⟩ (I Ab 0 0)).setCell ⟨b,16,Ab⟩ (I Ab 0 0)).setCell ⟨b,17,Ab⟩ (I Ab 0 0)).setCell ⟨b,13,Ab⟩ (I Ab 0 0)).setCell ⟨b,7,Ab⟩ (Aa O 0)).setCell ⟨b,6,Ab⟩ (Aa O 0)) b (rnC r.lone x.lone) 112:=b5.set 6 _;have a:=Xo (b:=b) d 6 (Aa O 0);have v:Ah (Ze (((((((w.setCell ⟨b,14,Ab⟩ (I Ab 0 0)).setCell ⟨b,15,Ab⟩ (I Ab 0 0)).setCell ⟨b,16,Ab⟩ (I Ab 0 0)).setCell ⟨b,17,Ab⟩ (I Ab 0 0)).setCell ⟨b,13,Ab⟩ (I Ab 0 0)).setCell ⟨b,7,Ab⟩ (Aa O 0)).setCell ⟨b,6,Ab⟩ (Aa O 0)) B b r.lone x.lone/\Ai B w (((((((w.setCell ⟨b,14,Ab⟩ (I Ab 0 0)).setCell ⟨b,15,Ab⟩ (I Ab 0 0)).setCell ⟨b,16,Ab⟩ (I Ab 0 0)).setCell ⟨b,17,Ab⟩ (I Ab 0 0)).setCell ⟨b,13,Ab⟩ (I Ab 0 0)).setCell ⟨b,7,Ab⟩ (Aa O 0)).setCell ⟨b,6,Ab⟩ (Aa O 0))/\w.grownBy (((((((w.setCell ⟨b,14,Ab⟩ (I Ab 0 0)).setCell ⟨b,15,Ab⟩ (I Ab 0 0)).setCell ⟨b,16,Ab⟩ (I Ab 0 0)).setCell ⟨b,17,Ab⟩ (I Ab 0 0)).setCell ⟨b,13,Ab⟩ (I Ab 0 0)).setCell ⟨b,7,Ab⟩ (Aa O 0)).setCell ⟨b,6,Ab⟩ (Aa O 0)) (Ac b)):=⟨h.loneAt i a rfl rfl rfl rfl rfl rfl rfl,((((((((An B w).setCell (p:=⟨b,14,Ab⟩) h.lo (I Ab 0 0)).setCell (p:=⟨b,15,Ab⟩) h.lo (I Ab 0 0)).setCell (p:=⟨b,16,Ab⟩) h.lo (I Ab 0 0)).setCell (p:=⟨b,17,Ab⟩) h.lo (I Ab 0 0)).setCell (p:=⟨b,13,Ab⟩) h.lo (I Ab 0 0)).setCell (p:=⟨b,7,Ab⟩) h.lo (Aa O 0)).setCell (p:=⟨b,6,Ab⟩) h.lo (Aa O 0)),(Z8 (Z8 (Z8 (Z8 (Z8 (Z8 (Z8 (grownBy_refl w (Ac b)) (Rd.frame 14 _)) (Rd.frame 15 _)) (Rd.frame 16 _)) (Rd.frame 17 _)) (Rd.frame 13 _)) (Rd.frame 7 _)) (Rd.frame 6 _))⟩;go_enter func114,ntmps114;go_wp2;refine bodyPost_end (Au rfl _ _ _) rfl ⟨rfl,v.out⟩
theorem Z1u (b:Nat)(r:Rn)(x:RV)(t:Int)(w:Ag)(B:Nat)(h:Ze w B b r x)(hd : -(2^63)<=r.draw)(hD:r.draw<2^63)(m:0<=r.n.nw)(l:r.n.nw<=1099511627776) :
  Ar Ad 149 #[Ae (Ac ⟨b,0,Ab⟩),Aa O t] w λe w'=>e=Aj (.tuple #[])/\Ze w' B b (r.adopt t) x.lone/\Ai B w w'/\w.grownBy w' (Ac b):=by
 have c6:=h.c6;have y:=Z0 (Z1m b r x w B h)
 have i:Ah (∀ z,Ze z B b r.lone x.lone->Ze ((z.setCell ⟨b,4,Ab⟩ (Aa O t)).setCell ⟨b,5,Ab⟩ (Aa O 0)) B b { r.lone with n:={ r.lone.n with tm:=t,vo:=0 } } x.lone/\Ai B z ((z.setCell ⟨b,4,Ab⟩ (Aa O t)).setCell ⟨b,5,Ab⟩ (Aa O 0))/\z.grownBy ((z.setCell ⟨b,4,Ab⟩ (Aa O t)).setCell ⟨b,5,Ab⟩ (Aa O 0)) (Ac b)):=λz hz=>
  ⟨(hz.set (r':={ r.lone with n:={ r.lone.n with tm:=t } }) 4 _ rfl rfl rfl rfl rfl rfl rfl rfl).set 5 _,(hz.setB 4 _).setCell (p:=⟨b,5,Ab⟩) hz.lo _,Z8 (Rd.frame 4 _) (Rd.frame 5 _)⟩
 have HT:=Z0 λz (hz:Ze z B b { r.lone with n:={ r.lone.n with tm:=t,vo:=0 } } x.lone)=>Z0x b _ _ z B hz hd hD m l
 have k:Ah (r.adopt t=if r.n.ro=3 then Rn.timer { r.lone with n:={ r.lone.n with tm:=t,vo:=0 } } else { r.lone with n:={ r.lone.n with tm:=t,vo:=0 } }):=rfl;have HC:Ah (∀ z,Ze z B b r.lone x.lone->(∃ v,z.cell? ⟨b,4,Ab⟩=Ac v)/\(∃ v,z.cell? ⟨b,5,Ab⟩=Ac v)/\z.frozen? ⟨b,4,Ab⟩=false/\z.frozen? ⟨b,5,Ab⟩=false):=λz hz=>⟨⟨_,hz.blk.cell 4⟩,⟨_,hz.blk.cell 5⟩,hz.blk.free 4,hz.blk.free 5⟩
 generalize r.adopt t=RA at *;generalize r.lone=RL at *;generalize x.lone=XL at *;generalize r.n.ro=ro at *;by_cases j:ro=3
 ·subst j
  have a:=k.trans (if_pos rfl);have d:Ah _:=a;go_enter func149,ntmps149
  go_wp2_with (first
   |(go_at_call 114;refine y.mono ?_;rintro e s ⟨rfl,c,b1,g1⟩;obtain ⟨⟨v4,c4⟩,⟨v5,c5⟩,f4,f5⟩:=HC.out s c;have f:=Z0 c;have q:=Z0 b1;have g:=Z0 g1;clear c b1 g1)
   |(go_at_call 115;refine (HT _ (i _ f).1).mono ?_;rintro e w2 ⟨rfl,u,b2,g2⟩;have H2:Ah _:=u;have B2:=Z0 ((q.out.trans (i _ f).2.1).trans b2);have o:=Z0 (Z8 (Z8 g.out (i _ f).2.2) g2);clear u b2 g2))
  (try simp only [Av,Exit.then])
  refine bodyPost_end (Au rfl _ _ _) rfl ⟨rfl,?_,B2.out,o.out⟩;rw [d.out];exact H2
 ·have a:=k.trans (if_neg j)
  have d:Ah _:=a;have aa:(ro == 3)=false:=by simpa using j
  go_enter func149,ntmps149
  go_wp2_with (first
   |(go_at_call 114;refine y.mono ?_;rintro e s ⟨rfl,c,b1,g1⟩;obtain ⟨⟨v4,c4⟩,⟨v5,c5⟩,f4,f5⟩:=HC.out s c;have f:=Z0 c;have q:=Z0 b1;have g:=Z0 g1;clear c b1 g1))
  (try simp only [Av,Exit.then])
  refine bodyPost_end (Au rfl _ _ _) rfl ⟨rfl,?_,q.out.trans (i _ f).2.1,Z8 g.out (i _ f).2.2⟩;rw [d.out];exact (i _ f).1
end
theorem Yc:(Tryz.prog.info? 43).map (·.size)=Ac 10:=by kernel_rfl
def RV.sent (x:RV)(v:Af)(y:Om):RV:={ x with vo:=v,L:=x.L ++ [y] }
theorem Ze.sendAt {w w2 j:Ag}{B b:Nat}{r:Rn}{x:RV}{m:Mg}{a:Option B4}{c:Nat}{v:Af}(h:Ze w B b r x)(he:Zh w B (I a m.es.length c) m.es)(h2:Ai w.heap.size w w2)
  (ho:Zc omC 10 43 j B v (x.L ++ [⟨{ m with fr:=r.n.id },a,c⟩])) (q:Ye w2 x.vo j v) :
  Ze (j.setCell ⟨b,18,Ab⟩ v) B b (r.send m) (x.sent v ⟨{ m with fr:=r.n.id },a,c⟩)/\Ai B w (j.setCell ⟨b,18,Ab⟩ v)/\Gr2 w b x.vo (j.setCell ⟨b,18,Ab⟩ v) v:=by
 have ag:=h2.size;have z:∀ k,x.vo.ownBlock=Ac k->B<=k/\k<w.heap.size/\k≠b:=λk e=>⟨(h.out.lts k e).1,(h.out.lts k e).2,Zm h.out h.blk (by decide) k e⟩
 have o:∀ k,k<w.heap.size->x.vo.ownBlock≠Ac k->j.heap[k]? = w.heap[k]?:=λk hk hne=>(q.g.block k (by omega) (λe=>hne e.symm)).trans (h2.block k hk)
 have ad:=h.blk.keep (o b h.lt λe=>(z b e).2.2 rfl);have f:∀ k,k≠b->(j.setCell ⟨b,18,Ab⟩ v).heap[k]? = j.heap[k]?:=λk hk=>Ak _ _ _ _ hk
 have i:∀ {α:Type} {cs:α->List Af} {m':Nat} {T:Ax} {u:Af} {l:List α},T≠112->T≠43->Zc cs m' T w B u l->Zc cs m' T (j.setCell ⟨b,18,Ab⟩ v) B u l:=λh1 hT ho'=>ho'.block λk e=>(f k (Zm ho' h.blk h1 k e)).trans (o k (ho'.lts k e).2 λe'=>by
  obtain ⟨-,⟨s,-⟩ | ⟨g,cap,ac,s,-,d,-⟩⟩:=h.out
  ·rw [s] at e';cases e'
  obtain ⟨-,⟨hy,-⟩ | ⟨g2,ab,aa,hy,-,t,-⟩⟩:=ho'
  ·rw [hy] at e;cases e
  rw [s] at e';rw [hy] at e;cases e';cases e;rw [t] at d;simp only [Bf,Obj.cells.injEq] at d;exact hT d.2.1)
 have y:∀ {u:Af} {l:List Ent},Zh w B u l->Zh (j.setCell ⟨b,18,Ab⟩ v) B u l:=λho'=>ho'.block λk e=>(f k (Y5 ho' h.blk (by decide) k e)).trans (o k (Aq ho'.2 k e).2 λe'=>by
  obtain ⟨-,⟨s,-⟩ | ⟨g,cap,ac,s,-,d,-⟩⟩:=h.out
  ·rw [s] at e';cases e'
  obtain ⟨-,-,⟨hy,-⟩ | ⟨g2,ab,aa,hy,-,t,-⟩⟩:=ho'
  ·rw [hy] at e;cases e
  rw [s] at e';rw [hy] at e;cases e';cases e;rw [t] at d;simp only [Bf,Obj.cells.injEq] at d;exact absurd d.2.1 (by decide))
 refine ⟨⟨ad.set 18 v,h.lo,y h.log,i (by decide) (by decide) h.gr,i (by decide) (by decide) h.nx,i (by decide) (by decide) h.mt,i (by decide) (by decide) h.se,i (by decide) (by decide) h.st,ho.block λk e=>f k ?_,?_,?_,h.ap⟩,?_,?_⟩
 ·rcases q.at' with e' | ⟨g,e',hk⟩
  ·rw [e] at e';exact (z k e'.symm).2.2
  ·rw [e] at e';cases e';have:=h.lt;omega
 ·show (x.L ++ [(⟨{ m with fr:=r.n.id },a,c⟩:Om)]).map Om.m=r.out ++ [{ m with fr:=r.n.id }]
  rw [List.map_append];exact congrArg (· ++ [{ m with fr:=r.n.id }]) h.outC
 ·intro p hp
  rcases List.mem_append.1 hp with hp | hp
  ·exact y (h.ents p hp)
  ·rw [List.mem_singleton] at hp
   subst hp;exact y he
 ·refine Below.setCell (p:=⟨b,18,Ab⟩) (w:=j) ?_ h.lo v
  have ae:=Ap h.lo (Be h.lt);exact ((An B w).trans (h2.mono ae)).grown q.g (by omega) (λk e=>(z k e).1)
 ·have af:=q.g.size
  exact ⟨q.g.os.trans h2.os,q.g.tape.trans h2.tape,q.g.output.trans h2.output,by simp [World.setCell];omega,λk hk hn hv=>(f k hn).trans (o k hk λe=>hv e.symm),q.at'.imp id λ⟨k,e,hk⟩=>⟨k,e,by omega⟩⟩
theorem Z0t (b:Nat)(r:Rn)(x:RV)(m:Mg)(ea:Option B4)(ec:Nat)(w:Ag)(B:Nat)(h:Ze w B b r x)(he:Zh w B (I ea m.es.length ec) m.es)(hl:x.L.length<=100000:=by omega) :
  Ar Ad 146 #[Ae (Ac ⟨b,0,Ab⟩),Aw (mqN m.ki m.fr m.td m.tm m.li m.lt m.cm m.ok m.hi (I ea m.es.length ec))] w λe w'=>∃ v y,e=Aj (.tuple #[])/\Ze w' B b (r.send m) (x.sent v y)/\Ai B w w'/\Gr2 w b x.vo w' v:=by
 have HR:=Z0 h;have HE:=Z0 he;have c0:=h.c0;have s:w.cell? ⟨b,18,Ab⟩=Ac x.vo:=h.blk.cell 18;have al:=h.lt;have ai:=Ap h.lo (Be h.lt);obtain ⟨va,vc,k⟩:=h.out.shape;rw [k] at s;have d:=Z0 k;have af:Ah (∀ l,l=x.L->l.length<=100000):=λl e=>e▸hl
 generalize x.L.length=xn at *;go_enter func146,ntmps146;go_wp2;have a:Ah (Blk (w.alloc (At (mqN m.ki r.n.id m.td m.tm m.li m.lt m.cm m.ok m.hi (I ea m.es.length ec)) 43)) w.heap.size (mqN m.ki r.n.id m.td m.tm m.li m.lt m.cm m.ok m.hi (I ea m.es.length ec)) 43):=Blk.new _ _ _;have i:Ah (Ai w.heap.size w (w.alloc (At (mqN m.ki r.n.id m.td m.tm m.li m.lt m.cm m.ok m.hi (I ea m.es.length ec)) 43))):=baq;have ak:w.heap.size<(w.alloc (At (mqN m.ki r.n.id m.td m.tm m.li m.lt m.cm m.ok m.hi (I ea m.es.length ec)) 43)).heap.size:=by simp
 generalize w.alloc (At (mqN m.ki r.n.id m.td m.tm m.li m.lt m.cm m.ok m.hi (I ea m.es.length ec)) 43)=w2 at *;have f:=Z0 (HR.out.below i.out);have u:Ah (Zc omC 10 43 w2 B (I va xn vc) x.L):=d.out▸f.out.out
 have s:w2.cell? ⟨b,18,Ab⟩=Ac (I va xn vc):=d.out▸f.out.blk.cell 18
 have t:=Z0 f.out.blk;have q0:w2.cell? ⟨w.heap.size,0,Ab⟩=Ac (Aa O m.ki):=a.out.cell 0;have q1:w2.cell? ⟨w.heap.size,1,Ab⟩=Ac (Aa O r.n.id):=a.out.cell 1;have q2:w2.cell? ⟨w.heap.size,2,Ab⟩=Ac (Aa O m.td):=a.out.cell 2;have q3:w2.cell? ⟨w.heap.size,3,Ab⟩=Ac (Aa O m.tm):=a.out.cell 3;have q4:w2.cell? ⟨w.heap.size,4,Ab⟩=Ac (Aa O m.li):=a.out.cell 4;have q5:w2.cell? ⟨w.heap.size,5,Ab⟩=Ac (Aa O m.lt):=a.out.cell 5;have q6:w2.cell? ⟨w.heap.size,6,Ab⟩=Ac (Aa O m.cm):=a.out.cell 6;have q7:w2.cell? ⟨w.heap.size,7,Ab⟩=Ac (Aa O m.ok):=a.out.cell 7;have q8:w2.cell? ⟨w.heap.size,8,Ab⟩=Ac (Aa O m.hi):=a.out.cell 8;have q9:w2.cell? ⟨w.heap.size,9,Ab⟩=Ac (I ea m.es.length ec):=a.out.cell 9;have pa:∀(o:Obj) (j:Nat),(w2.alloc o).cell? ⟨b,j,Ab⟩=w2.cell? ⟨b,j,Ab⟩:=λo j=>World.cell?_alloc_lt _ _ _ (by show b<w2.heap.size;omega)
 have ad:=Z0 λe=>Zm u.out t.out (by decide) b e rfl
 have aa:Ah (∀ c v,Zc omC 10 43 c B v (x.L ++ [⟨{ m with fr:=r.n.id },ea,ec⟩])->∀ w4,Ai w2.heap.size w2 w4->Ye w4 (I va xn vc) c v->Ze (c.setCell ⟨b,18,Ab⟩ v) B b (r.send m) (x.sent v ⟨{ m with fr:=r.n.id },ea,ec⟩)/\Ai B w (c.setCell ⟨b,18,Ab⟩ v)/\Gr2 w b x.vo (c.setCell ⟨b,18,Ab⟩ v) v):=λc v ho w4 h4 hg=>by
  rw [<-d.out] at hg;exact HR.out.sendAt HE.out (i.out.trans (h4.mono i.out.size)) ho hg
 go_region_law
  (refine Z00 omLaw rfl _ _ rfl ⟨{ m with fr:=r.n.id },ea,ec⟩ (Zc.below (Zc.below u.out ((An _ _).drew)) baq) rfl _ 1 (Z04 _ _ 43) rfl (by have:=af.out x.L rfl;omega) (by simp;omega) ?_;intro v3 c q p;have ab:=Z0 q;obtain ⟨a3,c3,e3⟩:=q.shape;rw [Bc,List.length_singleton] at e3;have ac:Ah (Ye _ (I va xn vc) c v3):=p;have z:=Z0 ((t.out.drew.alloc _).keep (p.g.block b (by simp;omega) (λe=>ad.out e.symm)));obtain ⟨vq,aj⟩:∃ vq,c.cell? ⟨b,18,Ab⟩=Ac vq:=⟨_,z.out.cell 18⟩;have pf:=z.out.free;subst e3;clear q p)
 all_goals go_wp2
 all_goals (
  (try simp only [Av,Exit.then])
  refine bodyPost_end (Au rfl _ _ _) rfl ⟨_,_,rfl,aa.out _ _ ab.out _ ((An _ _).drew.alloc (Ao _) _) ac.out⟩)
section
variable {w:Ag}{b q:Nat}{C:Array Af}
theorem blk_ne {D:Array Af}{t u:Ax}(h:Blk w b C t)(k:Blk w q D u)(a:t≠u):b≠q:=by
 rintro rfl;unfold Blk at h k;rw [h] at k;simp only [Bf,Obj.cells.injEq] at k;exact a k.2.1
variable {B:Nat}
theorem Ze.other {w':Ag}{r:Rn}{x:RV}(h:Ze w B b r x)(d:Blk w q C 43)(e:∀ g,x.vo.ownBlock=Ac g->g≠q)(c:∀ k,k≠q->k<w.heap.size->w'.heap[k]? = w.heap[k]?):Ze w' B b r x:=by
 have a:∀ {α:Type} {cs:α->List Af} {m:Nat} {T:Ax} {v:Af} {l:List α},T≠43->Zc cs m T w B v l->Zc cs m T w' B v l:=λhT ho=>ho.block λk hk'=>c k (Zm ho d hT k hk') (ho.lts k hk').2
 have f:∀ {v:Af} {l:List Ent},Zh w B v l->Zh w' B v l:=λho=>ho.block λk hk'=>c k (Y5 ho d (by decide) k hk') (Aq ho.2 k hk').2
 exact ⟨h.blk.keep (c b (blk_ne h.blk d (by decide)) h.lt),h.lo,f h.log,a (by decide) h.gr,a (by decide) h.nx,a (by decide) h.mt,a (by decide) h.se,a (by decide) h.st,h.out.block λk hk'=>c k (e k hk') (h.out.lts k hk').2,h.outC,λp hp=>f (h.ents p hp),h.ap⟩
theorem ownE_ne {u v:Af}{l:List Ent}{L:List Om}(h:Zh w B u l)(k:Zc omC 10 43 w B v L):∀ j,u.ownBlock=Ac j->v.ownBlock≠Ac j:=by
 intro j e f;obtain ⟨-,-,⟨rfl,-⟩ | ⟨g,cap,i,rfl,-,m,-⟩⟩:=h
 ·cases e
 obtain ⟨-,⟨rfl,-⟩ | ⟨n,d,c,rfl,-,a,-⟩⟩:=k
 ·cases f
 cases e;cases f;rw [m] at a;simp only [Bf,Obj.cells.injEq] at a;exact absurd a.2.1 (by decide)
theorem allK_n (m:Mg)(k:Nat)(r:Rn):(Rn.allK m k r).n=r.n:=by
 induction k with
 | zero=>rfl
 | succ k ih=>
  rw [Rn.allK];split
  ·exact ih
  ·exact ih
structure AllI (m:Mg) (ea:Option B4) (ec:Nat) (r:Rn) (w wr:Ag) (B b q l0 k:Nat) (x:RV) (t:Int):Prop where
 run:Ze wr B b (Rn.allK m k r) x
 blk:Blk wr q #[Aa O m.ki,Aa O m.fr,Aa O t,Aa O m.tm,Aa O m.li,Aa O m.lt,Aa O m.cm,Aa O m.ok,Aa O m.hi,I ea m.es.length ec] 43
 bl:Ai B w wr
 ll:x.L.length<=l0+k
 ne:∀ g,x.vo.ownBlock=Ac g->g≠q
 ent:Zh wr B (I ea m.es.length ec) m.es
 qB:B<=q
theorem l4all_any (b:Nat)(r:Rn)(x:RV)(m:Mg)(ea:Option B4)(ec:Nat)(w:Ag)(B:Nat)(h:Ze w B b r x)(he:Zh w B (I ea m.es.length ec) m.es)(hl:x.L.length<=1000)(ah:0<=r.n.sz)(an:r.n.sz<=7)(av:1<=r.n.id) :
  Ar Ad 117 #[Ae (Ac ⟨b,0,Ab⟩),Aw (mqN m.ki m.fr m.td m.tm m.li m.lt m.cm m.ok m.hi (I ea m.es.length ec))] w λe w'=>∃ x',e=Aj (.tuple #[])/\Ze w' B b (Rn.allK m r.n.sz.toNat r) x'/\Ai B w w'/\x'.L.length<=x.L.length+7:=by
 have ac:=Ap h.lo (Be h.lt);have ad:Ah (AllI m ea ec r w (w.alloc (At (mqN m.ki m.fr m.td m.tm m.li m.lt m.cm m.ok m.hi (I ea m.es.length ec)) 43)) B b w.heap.size x.L.length 0 x m.td):=⟨h.below baq,Blk.new _ _ _,(An _ _).alloc ac _,Ao _,λg e=>by have:=(h.out.lts g e).2;omega,he.below baq,ac⟩;obtain ⟨N,hN⟩:∃ N:Nat,r.n.sz=N:=⟨r.n.sz.toNat,by omega⟩;have ae:r.n.sz.toNat=N:=by omega
 rw [ae];have HN:=Z0 hN;have au:N<=7:=by omega
 go_enter func117,ntmps117;go_wp2;generalize w.alloc (At (mqN m.ki m.fr m.td m.tm m.li m.lt m.cm m.ok m.hi (I ea m.es.length ec)) 43)=w1 at *
 go_loopw [4] (λiv wr=>∃(k:Nat) (i:RV) (t:Int),k<=N/\iv=Aa O ((k:Int)+1)/\AllI m ea ec r w wr B b w.heap.size x.L.length k i t) (λiv _=>N+1-(B0 iv).toNat)
 case atStart=>exact ⟨0,x,m.td,Bb _,rfl,ad.out⟩
 case round=>
  obtain ⟨k,i,t,hk,rfl,s⟩:=hrel;have a:=Z0 s;have c0:wr.cell? ⟨b,0,Ab⟩=Ac (Aa O r.n.id):=by have h9:=s.run.blk.cell 0;rw [<-allK_n m k r];exact h9
  have c1:wr.cell? ⟨b,1,Ab⟩=Ac (Aa O (N:Int)):=by have h9:=s.run.blk.cell 1;rw [<-HN.out,<-allK_n m k r];exact h9
  have c2:wr.cell? ⟨w.heap.size,2,Ab⟩=Ac (Aa O t):=s.blk.cell 2;have f2:=s.blk.free 2;have ag:=blk_ne s.run.blk s.blk (by decide);by_cases aw:k<N
  ·have ao:((k:Int)+1)<=(N:Int):=by omega
   by_cases c:(k:Int)+1=r.n.id
   ·have l:Ah (Rn.allK m (k+1) r=Rn.allK m k r):=by unfold Ah;rw [Rn.allK,if_pos c]
    have ak:(((k:Int)+1) != r.n.id)=false:=by rw [bne_eq_false_iff_eq];exact c
    have HK:Ah (AllI m ea ec r w wr B b w.heap.size x.L.length (k+1) i t):={ a.out with run:=by rw [l.out];exact a.out.run,ll:=Ap a.out.ll (by omega) };go_wp2
    go_roundw
    case rel=>exact ⟨k+1,i,t,by omega,by go_num,HK.out⟩
    case measure=>simp [B0];omega
   ·have l:Ah (Rn.allK m (k+1) r=(Rn.allK m k r).send { m with td:=(k:Int)+1 }):=by unfold Ah;rw [Rn.allK,if_neg c]
    have ak:(((k:Int)+1) != r.n.id)=true:=by rw [bne_iff_ne];exact c
    obtain ⟨wq,d⟩:=exq (wr.setCell ⟨w.heap.size,2,Ab⟩ (Aa O ((k:Int)+1)));have u:∀ j,j≠w.heap.size->j<wr.heap.size->wq.heap[j]? = wr.heap[j]?:=λj hj _=>by rw [d];exact Ak _ _ _ _ hj
    have y:=Z0 (a.out.run.other a.out.blk a.out.ne u);have v:Ah (Blk wq w.heap.size (mqN m.ki m.fr ((k:Int)+1) m.tm m.li m.lt m.cm m.ok m.hi (I ea m.es.length ec)) 43):=by rw [d];exact a.out.blk.set 2 _
    have f:=Z0 (a.out.ent.block λj hj=>u j (Y5 a.out.ent a.out.blk (by decide) j hj) (Aq a.out.ent.2 j hj).2);have am:Ah (Ai B w wq):=by rw [d];exact a.out.bl.setCell (p:=⟨w.heap.size,2,Ab⟩) a.out.qB _
    have aj:=Z0 (Z0t b _ i { m with td:=(k:Int)+1 } ea ec wq B y.out f.out (by have:=a.out.ll;omega));have aq:=v.out.lt;have ab:=Z0 a.out.ne;have ar:=Z0 a.out.ll;have ai:=Z0 a.out.qB;have af:=Z0 λj hj e'=>ownE_ne f.out y.out.out j hj e'
    have G1:=Z0 trivial
    go_wp2_with (first
     |(have al:=G1;refine Zd 43 (.tmp 3) rfl ?_;clear al;rw [<-d];refine Z7 rfl 43 _ rfl _ rfl v.out underlying43 rfl Yc rfl ?_;clear G1 d)
     |(go_at_call 146;refine aj.out.mono ?_;rintro e w5 ⟨v5,y5,rfl,aa,z,o⟩;have HK:Ah (AllI m ea ec r w w5 B b w.heap.size x.L.length (k+1) (i.sent v5 y5) ((k:Int)+1)):=⟨by rw [l.out];exact aa,v.out.keep (o.block _ aq (λe=>ag e.symm) (λe=>ab.out _ e.symm rfl)),am.out.trans z,(by have:=ar.out;show (i.L ++ [y5]).length<=_;rw [Bc];simp;omega),(λg e=>by rcases o.at' with e' | ⟨g',e',hk'⟩;exact ab.out g (e'.symm.trans e);(have h8:=e'.symm.trans e);cases h8;omega),f.out.block (λj hj=>o.block j (Aq f.out.2 j hj).2 (Y5 f.out y.out.blk (by decide) j hj) (λe=>af.out j hj e.symm)),ai.out⟩;clear aa z o))
    go_roundw
    case rel=>exact ⟨k+1,_,_,by omega,by go_num,HK.out⟩
    case measure=>simp [B0];omega
  ·obtain rfl:k=N:=by omega
   have ao:¬((k:Int)+1)<=(k:Int):=by omega
   have HF:Ah (Ze wr B b (Rn.allK m k r) i/\Ai B w wr/\i.L.length<=x.L.length+7):=⟨a.out.run,a.out.bl,Ap a.out.ll (by omega)⟩;go_wp2
   (try simp only [Av,Exit.then])
   exact bodyPost_end (Au rfl _ _ _) rfl ⟨rfl,i,HF.out⟩
end
def Z1n (v:Af):Prop:=∃ a n c,v=I a n c
theorem Z3d {w:Ag}{a:Option B4}{n c:Nat}{l:List Ent}(h:Es w (I a n c) l)(i:Nat)(hi:i<l.length):∃ b d,a=Ac ⟨b,d,Ab⟩/\w.cell? ⟨b,d+i*7,Ab⟩=Ac (Aa O (l[i]).t):=by
 obtain ⟨-,-,k,j,e,f⟩:=h;simp only [Value.slice.injEq] at e;obtain ⟨rfl,-,rfl⟩:=e;obtain ⟨b,d,rfl,g⟩:=f i hi;exact ⟨b,d,rfl,(g i hi).1⟩
theorem Z0q:(Tryz.prog.info? 36).map (·.size)=Ac 18:=by kernel_rfl
theorem Z40 (n:Nd)(r:Option B4)(s:Nat)(v13 v14 v15 v16 v17:Af)(w:Ag)(i:Es w (I r n.log.length s) n.log)(d:Z1n v13)(c:Z1n v14)(m:Z1n v15)(f:Z1n v16)(l:Z1n v17)(h:n.log.length<=100000) :
  Ar Ad 118 #[Aw (n.arrC (I r n.log.length s) v13 v14 v15 v16 v17)] w λe w'=>e=Aj (Aa O (Y9 n.log))/\Ai w.heap.size w w':=by
 obtain ⟨a13,z,c13,rfl⟩:=d;obtain ⟨a14,u,c14,rfl⟩:=c;obtain ⟨a15,ae,c15,rfl⟩:=m;obtain ⟨a16,y,c16,rfl⟩:=f;obtain ⟨a17,af,c17,rfl⟩:=l;by_cases b:n.log.length=0
 ·have a:Ah (Y9 n.log=0):=by unfold Ah Y9 Zy;rw [if_pos b]
  generalize Y9 n.log=q at *;have hq:=a.out;subst hq;generalize n.log.length=L at *;subst b;go_enter func118,ntmps118;go_wp2;go_ret;exact ⟨rfl,baq⟩
 ·obtain ⟨g,v,rfl,p⟩:=Z3d i (n.log.length-1) (by omega)
  have a:Ah (Y9 n.log=(n.log[n.log.length-1]'(by omega)).t):=by
   unfold Ah Y9 Zy;rw [if_neg b,As (by omega)];rfl
  rw [a.out];generalize (n.log[n.log.length-1]'(by omega)).t=T at *;have ab:=Xp p;obtain ⟨k,o⟩:∃ k,n.log.length=k+1:=⟨n.log.length-1,by omega⟩;rw [show n.log.length-1=k by omega] at p
  rw [o];have j:¬((k:Int)+1=0):=by omega
  have ad:(((k:Int)+1) == 0)=false:=by rw [beq_eq_false_iff_ne];exact j
  have aa:IntKind.i64.wrap ((k:Int)+1-1)=(k:Int):=by simp [IntKind.wrap,IntKind.bits,IntKind.signed];omega
  have x:(k:Int)<(k:Int)+1:=by omega
  go_enter func118,ntmps118;go_wp2;go_ret;exact ⟨rfl,baq⟩
theorem l4loyal_any (n:Nd)(r:Option B4)(u:Nat)(v13 v14 v15 v16 v17:Af)(w:Ag)(g:Z1n v13)(f:Z1n v14)(k:Z1n v15)(h:Z1n v16)(j:Z1n v17)(b1:0<=n.nw)(v:n.nw<=1099511627776)(x:0<=n.hd)(b4:n.hd<=n.nw) :
  Ar Ad 147 #[Aw (n.arrC (I r n.log.length u) v13 v14 v15 v16 v17)] w λe w'=>e=Aj (.bool (Z8u n))/\Ai w.heap.size w w':=by
 obtain ⟨a13,p,c13,rfl⟩:=g;obtain ⟨a14,m,c14,rfl⟩:=f;obtain ⟨a15,s,c15,rfl⟩:=k;obtain ⟨a16,o,c16,rfl⟩:=h;obtain ⟨a17,t,c17,rfl⟩:=j;have a:Ah (Z8u n=(n.ro == 3 || (n.ld != 0 && decide (n.nw-n.hd<n.el)))):=rfl;generalize Z8u n=q at *;by_cases d:n.ro=3
 ·have c:q=true:=by rw [a.out,d];rfl
  subst c;go_enter func147,ntmps147;go_wp2;go_ret;exact ⟨rfl,baq⟩
 have b:(n.ro == 3)=false:=by simpa using d
 by_cases i:n.ld=0
 ·have c:q=false:=by rw [a.out,b,i];rfl
  subst c;go_enter func147,ntmps147;go_wp2;go_ret;exact ⟨rfl,baq⟩
 have l:(n.ld != 0)=true:=by simpa using i
 have c:q=decide (n.nw-n.hd<n.el):=by rw [a.out,b,l];rfl
 subst c;go_enter func147,ntmps147;go_wp2;go_ret;exact ⟨rfl,baq⟩
theorem Z8a (n:Nd)(m:Mg)(ve:Af)(la:Option B4)(lc:Nat)(v13 v14 v15 v16 v17:Af)(w:Ag)(hl:Es w (I la n.log.length lc) n.log)(k:Z1n v13)(r:Z1n v14)(o:Z1n v15)(s:Z1n v16)(v:Z1n v17)(he:Z1n ve)(y:n.log.length<=100000) :
  Ar Ad 148 #[Aw (n.arrC (I la n.log.length lc) v13 v14 v15 v16 v17),Aw (m.arrC ve)] w λe w'=>e=Aj (.bool (utd n.log m))/\Ai w.heap.size w w':=by
 have x:=Z0 λz hz=>Z40 n la lc _ _ _ _ _ z (hl.below hz) k r o s v y
 obtain ⟨a13,ab,c13,rfl⟩:=k;obtain ⟨a14,ae,c14,rfl⟩:=r;obtain ⟨a15,af,c15,rfl⟩:=o;obtain ⟨a16,ac,c16,rfl⟩:=s;obtain ⟨a17,ag,c17,rfl⟩:=v;obtain ⟨ea,en,ec,rfl⟩:=he;have g:Ah (utd n.log m=(decide (Y9 n.log<m.lt) || (decide (m.lt=Y9 n.log) && decide ((n.log.length:Int)<=m.li)))):=rfl;generalize utd n.log m=q at *;generalize Y9 n.log=T at *;generalize n.log.length=LN at *;have i:=Z0 trivial;by_cases u:T<m.lt
 ·have l:q=true:=by rw [g.out,decide_eq_true u];rfl
  subst l;go_enter func148,ntmps148
  go_wp2_with (first
   |(have c:=i;refine Zd 36 _ rfl ?_;clear c;refine Z7 rfl 36 _ rfl _ rfl ((Blk.new w _ 36).alloc _) underlying36 rfl Z0q rfl ?_;clear i)
   |(go_at_call 118;refine (x _ (baq.alloc (by simp) _)).mono ?_;rintro e j ⟨rfl,a⟩;have t:=Z0 (((Blk.new w _ _).alloc _).below a (by simp <;> omega));have d:Ah (Blk j (w.heap.size+1) (m.arrC (I ea en ec)) 43):=(Blk.new' _ _ _).below a (by simp);have b:=Z0 ((baq.alloc (by simp) _).trans (a.mono (by simp <;> omega)));have p:=t.out.cell 12;have k4:=d.out.cell 4;have k5:=d.out.cell 5;clear a))
  go_ret;exact ⟨rfl,b.out⟩
 by_cases f:m.lt=T
 ·have l:q=decide ((LN:Int)<=m.li):=by rw [g.out,decide_eq_false u,decide_eq_true f];rfl
  subst l;have aa:(m.lt == T)=true:=by simpa using f
  go_enter func148,ntmps148
  go_wp2_with (first
   |(have c:=i;refine Zd 36 _ rfl ?_;clear c;refine Z7 rfl 36 _ rfl _ rfl ((Blk.new w _ 36).alloc _) underlying36 rfl Z0q rfl ?_;clear i)
   |(go_at_call 118;refine (x _ (baq.alloc (by simp) _)).mono ?_;rintro e j ⟨rfl,a⟩;have t:=Z0 (((Blk.new w _ _).alloc _).below a (by simp <;> omega));have d:Ah (Blk j (w.heap.size+1) (m.arrC (I ea en ec)) 43):=(Blk.new' _ _ _).below a (by simp);have b:=Z0 ((baq.alloc (by simp) _).trans (a.mono (by simp <;> omega)));have p:=t.out.cell 12;have k4:=d.out.cell 4;have k5:=d.out.cell 5;clear a))
  go_ret;exact ⟨by first | (simp [u];done) | (simp;intro h9;omega),b.out⟩
 ·have l:q=false:=by rw [g.out,decide_eq_false u,decide_eq_false f];rfl
  subst l;have aa:(m.lt == T)=false:=by simpa using f
  go_enter func148,ntmps148
  go_wp2_with (first
   |(have c:=i;refine Zd 36 _ rfl ?_;clear c;refine Z7 rfl 36 _ rfl _ rfl ((Blk.new w _ 36).alloc _) underlying36 rfl Z0q rfl ?_;clear i)
   |(go_at_call 118;refine (x _ (baq.alloc (by simp) _)).mono ?_;rintro e j ⟨rfl,a⟩;have t:=Z0 (((Blk.new w _ _).alloc _).below a (by simp <;> omega));have d:Ah (Blk j (w.heap.size+1) (m.arrC (I ea en ec)) 43):=(Blk.new' _ _ _).below a (by simp);have b:=Z0 ((baq.alloc (by simp) _).trans (a.mono (by simp <;> omega)));have p:=t.out.cell 12;have k4:=d.out.cell 4;have k5:=d.out.cell 5;clear a))
  go_ret;exact ⟨by first | (simp [u];done) | (simp;intro h9;omega),b.out⟩
structure NdB (n:Nd):Prop where
 nw0:0<=n.nw
 nw1:n.nw<=1099511627776
 hd0:0<=n.hd
 hd1:n.hd<=n.nw
 sz0:3<=n.sz
 sz1:n.sz<=7
 id0:1<=n.id
 id1:n.id<=n.sz
 ln:n.log.length<=4096
theorem Z1n.mk (a:Option B4)(n c:Nat):Z1n (I a n c):=⟨a,n,c,rfl⟩
def ndC (n:Nd)(x:RV):Array Af:=#[Aa O n.id,Aa O n.sz,Aa O n.el,Aa O n.bt,Aa O n.tm,Aa O n.vo,Aa O n.ro,Aa O n.ld,Aa O n.cm,Aa O n.nw,Aa O n.dl,Aa O n.hd,x.vl,x.vg,x.vn,x.vm,x.vs,x.vt]
section
variable {w:Ag} {B b:Nat} {r:Rn} {x:RV}
theorem Ze.es (h:Ze w B b r x)(a:r.n.log.length<=100000):Es w x.vl r.n.log:=h.log.es (by unfold maxLen;omega)
theorem Ze.nodeRange (h:Ze w B b r x):w.rangeAt b 0 (ndC r.n x).toList:=λj v hv=>by
 refine h.blk.range j v ?_;have a:j<18:=by have:=(List.getElem?_eq_some_iff.1 hv).1;simpa [ndC] using this
 rw [<-hv];rcases (show j=0∨j=1∨j=2∨j=3∨j=4∨j=5∨j=6∨j=7∨j=8∨j=9∨j=10∨j=11∨j=12∨j=13∨j=14∨j=15∨j=16∨j=17 by omega) with rfl | rfl | rfl | rfl | rfl | rfl | rfl | rfl | rfl | rfl | rfl | rfl | rfl | rfl | rfl | rfl | rfl | rfl <;> rfl
theorem Xz {c:Array Oper}{rest:List Oper}{o:Oper}{a:Bn}{Q:Exit->Bn->Ag->Prop}(d:o.guard=Ab)(y:Operand)(e:o.op=.load 36 y)(f:a.eval y=Ae (Ac ⟨b,0,Ab⟩))(h:Ze w B b r x)
  (k:wpList Ad c Q rest (a.put o.dst (Aw (ndC r.n x))) w):wpList Ad c Q (o :: rest) a w:=
 wpList_load_mid d 36 y e b 0 f (ndC r.n x).toList _ h.nodeRange underlying36 rfl (by rw [Z0q];rfl) k
theorem Z79 (h:Ze w B b r x)(i:NdB r.n)(z:Ag):Ar Ad 147 #[Aw (ndC r.n x)] z λe w'=>e=Aj (.bool (Z8u r.n))/\Ai z.heap.size z w':=by
 obtain ⟨k,l,j⟩:=h.log.shape;obtain ⟨a13,c13,c⟩:=h.gr.shape;obtain ⟨a14,c14,g⟩:=h.nx.shape;obtain ⟨a15,c15,d⟩:=h.mt.shape;obtain ⟨a16,c16,f⟩:=h.se.shape;obtain ⟨a17,c17,a⟩:=h.st.shape;unfold ndC;rw [j,c,g,d,f,a];exact l4loyal_any _ k l _ _ _ _ _ z (.mk _ _ _) (.mk _ _ _) (.mk _ _ _) (.mk _ _ _) (.mk _ _ _) i.nw0 i.nw1 i.hd0 i.hd1
theorem Z47 (h:Ze w B b r x)(k:NdB r.n)(z:Ag)(l:Ai w.heap.size w z):Ar Ad 118 #[Aw (ndC r.n x)] z λe w'=>e=Aj (Aa O (Y9 r.n.log))/\Ai z.heap.size z w':=by
 have j:=(h.below l).es (by have:=k.ln;omega);obtain ⟨m,o,c⟩:=h.log.shape;obtain ⟨a13,c13,d⟩:=h.gr.shape;obtain ⟨a14,c14,i⟩:=h.nx.shape;obtain ⟨a15,c15,f⟩:=h.mt.shape;obtain ⟨a16,c16,g⟩:=h.se.shape;obtain ⟨a17,c17,a⟩:=h.st.shape;unfold ndC;rw [c] at j;rw [c,d,i,f,g,a];exact Z40 _ m o _ _ _ _ _ z j (.mk _ _ _) (.mk _ _ _) (.mk _ _ _) (.mk _ _ _) (.mk _ _ _) (by have:=k.ln;omega)
theorem Z45 (h:Ze w B b r x)(k:NdB r.n)(m:Mg)(ea:Option B4)(en ec:Nat)(z:Ag)(l:Ai w.heap.size w z):Ar Ad 148 #[Aw (ndC r.n x),Aw (m.arrC (I ea en ec))] z λe w'=>e=Aj (.bool (utd r.n.log m))/\Ai z.heap.size z w':=by
 have j:=(h.below l).es (by have:=k.ln;omega);obtain ⟨o,p,c⟩:=h.log.shape;obtain ⟨a13,c13,d⟩:=h.gr.shape;obtain ⟨a14,c14,i⟩:=h.nx.shape;obtain ⟨a15,c15,f⟩:=h.mt.shape;obtain ⟨a16,c16,g⟩:=h.se.shape;obtain ⟨a17,c17,a⟩:=h.st.shape;unfold ndC;rw [c] at j;rw [c,d,i,f,g,a];exact Z8a _ m _ o p _ _ _ _ _ z j (.mk _ _ _) (.mk _ _ _) (.mk _ _ _) (.mk _ _ _) (.mk _ _ _) (.mk _ _ _) (by have:=k.ln;omega)
end
section
variable {w:Ag}{B:Nat}{v:Af}
theorem ownI_ix {l:List Int}(h:Zc inC 1 3 w B v l)(p:l.length<=70000):Ix w v l:=by
 obtain ⟨a,c,e⟩:=h.shape;refine ⟨by unfold maxLen;omega,a,c,e,λi hi=>?_⟩;have d:=h.sl Z16 (by unfold maxLen;omega);obtain ⟨g,n,e2⟩:=h.shape';rw [e2] at e;simp only [Value.slice.injEq] at e;obtain ⟨rfl,-,rfl⟩:=e;refine ⟨g,0,rfl,λj hj=>?_⟩;obtain ⟨-,a,c,e3,k⟩:=d;rw [e2] at e3;simp only [Value.slice.injEq] at e3;obtain ⟨rfl,-,rfl⟩:=e3;obtain ⟨b,o,e4,f⟩:=k 0 (by omega);cases e4;have m:=f j hj 0 _ rfl;simpa using m
theorem maj_same {n sz:Int}(h:sz%2=1):majB n sz=Xx n sz:=by
 unfold majB Xx;rw [Bool.eq_iff_iff,decide_eq_true_eq,decide_eq_true_eq];omega
theorem Z7q (gr:List Int)(fr:Int):∀ k,(Zx gr fr k).length<=k
 | 0=>Ao _
 | k+1=>by
  have:=Z7q gr fr k;rw [Zx,Bc];split <;> simp <;> omega
theorem Ze.grantAt {wr:Ag}{b:Nat}{r:Rn}{x:RV}{g:List Int}(h:Ze w B b r x)(o:Ai w.heap.size w wr)(d:Zc inC 1 3 wr w.heap.size v g) :
  Ze (wr.setCell ⟨b,13,Ab⟩ v) B b { r with n:={ r.n with gr:=g } } { x with vg:=v }/\Ai B w (wr.setCell ⟨b,13,Ab⟩ v)/\w.grownBy (wr.setCell ⟨b,13,Ab⟩ v) (Ac b):=by
 have a:=h.below o;have i:∀ k,k≠b->(wr.setCell ⟨b,13,Ab⟩ v).heap[k]? = wr.heap[k]?:=λk i=>Ak _ _ _ _ i
 have e:∀ {α:Type} {cs:α->List Af} {m:Nat} {T:Ax} {v':Af} {l:List α},T≠112->Zc cs m T wr B v' l->Zc cs m T (wr.setCell ⟨b,13,Ab⟩ v) B v' l:=λhT d=>d.block λk hk'=>i k (Zm d a.blk hT k hk')
 have s:∀ {v':Af} {l:List Ent},Zh wr B v' l->Zh (wr.setCell ⟨b,13,Ab⟩ v) B v' l:=λd=>d.block λk hk'=>i k (Y5 d a.blk (by decide) k hk')
 have f:=Ap h.lo (Be h.lt)
 have c:∀ {v':Af} {l:List Int},Zc inC 1 3 w B v' l->Yd v v':=λho' k e1 e2=>by
  have y:=(d.lts k e1).1;have t:=(ho'.lts k e2).2;omega
 have j:=(List.pairwise_cons.1 h.ap).2;refine ⟨⟨a.blk.set 13 v,h.lo,s a.log,e (by decide) (d.le f),e (by decide) a.nx,e (by decide) a.mt,e (by decide) a.se,e (by decide) a.st,e (by decide) a.out,a.outC,λp j=>s (a.ents p j),?_⟩,?_,?_⟩
 ·refine List.pairwise_cons.2 ⟨?_,j⟩
  intro u q;simp only [B3,Br,or_false] at q;rcases q with rfl | rfl | rfl | rfl
  ·exact c h.nx
  ·exact c h.mt
  ·exact c h.se
  ·exact c h.st
 ·exact (o.mono f).setCell (p:=⟨b,13,Ab⟩) h.lo v
 ·exact Z8 (gb_of _ o) (Rd.frame 13 _)
theorem Z73 (b:Nat)(r:Rn)(x:RV)(fr:Int)(w:Ag)(B:Nat)(h:Ze w B b r x)(hb:NdB r.n)(d:r.n.sz%2=1)(ak:r.n.gr.length<=1000) :
  Ar Ad 150 #[Ae (Ac ⟨b,0,Ab⟩),Aa O fr] w λe w'=>∃ v,e=Aj (.bool (Xx (Zx r.n.gr fr r.n.sz.toNat).length r.n.sz))/\Ze w' B b { r with n:={ r.n with gr:=Zx r.n.gr fr r.n.sz.toNat } } { x with vg:=v }/\Ai B w w'/\w.grownBy w' (Ac b):=by
 obtain ⟨N,u⟩:∃ N:Nat,r.n.sz=N:=⟨r.n.sz.toNat,by have:=hb.sz0;omega⟩;have ac:r.n.sz.toNat=N:=by omega
 have ah:N<=7:=by have:=hb.sz1;omega
 rw [ac];have HR:=Z0 h;obtain ⟨ga,gc,p⟩:=h.gr.shape
 have HM:Ah (∀ n:Nat,n<=7->∀ z,Ar Ad 100 #[Aa O (n:Int),Aa O (N:Int)] z λe w'=>e=Aj (.bool (Xx (n:Int) r.n.sz))/\w'=z):=λn hn z=>by
  have h9:=Z1c (n:Int) (N:Int) (u▸d) (by omega) (by omega) z;rw [maj_same (u▸d),<-u] at h9;rw [<-u];exact h9
 have a:Ah (∀ y z,Ai w.heap.size w z->Ar Ad 99 #[I ga r.n.gr.length gc,Aa O y] z λe w'=>e=Aj (.bool (Z2e y r.n.gr))/\w'=z):=λy z hz=>Z4j _ r.n.gr y z (p▸ownI_ix (h.below hz).gr (by omega))
 have HC:Ah (∀ z,Ai w.heap.size w z->z.cell? ⟨b,1,Ab⟩=Ac (Aa O (N:Int))/\z.cell? ⟨b,13,Ab⟩=Ac (I ga r.n.gr.length gc)/\z.frozen? ⟨b,13,Ab⟩=false):=λz hz=>⟨u▸(h.below hz).blk.cell 1,p▸(h.below hz).blk.cell 13,(h.below hz).blk.free 13⟩
 have aa:Ah (∀ k,(Zx r.n.gr fr k).length<=k):=Z7q _ _;generalize hGr:r.n.gr=gr at *;clear h p u ac d hb;go_enter func150,ntmps150;go_wp2
 go_loopw [5,6] (λvt iv wr=>∃ k:Nat,k<=N/\iv=Aa O ((k:Int)+1)/\Zc inC 1 3 wr w.heap.size vt (Zx gr fr k)/\Ai w.heap.size w wr) (λ_ iv _=>N+1-(B0 iv).toNat)
 case atStart=>exact ⟨0,Bb _,rfl,Zc.made _ _ _ _ _ (Ao _),baq⟩
 case round=>
  obtain ⟨k,hk,rfl,hO,hB⟩:=hrel;obtain ⟨c1,c13,am⟩:=HC.out wr hB;have l:Ah (Zc inC 1 3 wr w.heap.size _ (Zx gr fr k)):=hO;have HB:=Z0 hB;have hz:=hB.size;have an:=aa.out k;clear hO hB;by_cases al:k<N
  ·have ae:((k:Int)+1)<=(N:Int):=by omega
   by_cases t:(k:Int)+1=fr
   ·have f:Ah (Zx gr fr (k+1)=Zx gr fr k ++ [(k:Int)+1]):=by unfold Ah;rw [Zx,if_pos (.inl t)]
    have ag:(((k:Int)+1) == fr)=true:=by simpa using t
    clear t a
    go_wp2_with (first
     |(at_builtin;refine Yl Z16 rfl _ _ rfl _ (l.below baq) rfl _ 1 (Blk.new _ _ _).range rfl (by omega) (by simp;omega) ?_;intro v2 w2 g i;have q:=Z0 g;have s:=Z0 ((HB.alloc (by omega) _).trans (growG i (l.below baq) (by simp;omega)));clear g i))
    go_roundw
    case rel=>exact ⟨k+1,by omega,by go_num,f.out▸q,s.out⟩
    case measure=>simp [B0];omega
   ·have ag:(((k:Int)+1) == fr)=false:=by simpa using t
    by_cases hm:(k:Int)+1∈gr
    ·have f:Ah (Zx gr fr (k+1)=Zx gr fr k ++ [(k:Int)+1]):=by unfold Ah;rw [Zx,if_pos (.inr hm)]
     have m:=a.out ((k:Int)+1) wr HB;rw [show Z2e ((k:Int)+1) gr=true by unfold Z2e;exact List.contains_iff_mem.2 hm] at m;have o:Ah _:=m;clear m t hm a
     go_wp2_with (first
      |(go_at_call 99;refine Am o ?_;rintro e w' ⟨rfl,j⟩;have c:=j.symm;subst c)
      |(at_builtin;refine Yl Z16 rfl _ _ rfl _ (l.below baq) rfl _ 1 (Blk.new _ _ _).range rfl (by omega) (by simp;omega) ?_;intro v2 w2 g i;have q:=Z0 g;have s:=Z0 ((HB.alloc (by omega) _).trans (growG i (l.below baq) (by simp;omega)));clear g i))
     go_roundw
     case rel=>exact ⟨k+1,by omega,by go_num,f.out▸q,s.out⟩
     case measure=>simp [B0];omega
    ·have f:Ah (Zx gr fr (k+1)=Zx gr fr k):=by unfold Ah;rw [Zx,if_neg (λh=>h.elim t hm),List.append_nil]
     have m:=a.out ((k:Int)+1) wr HB;rw [show Z2e ((k:Int)+1) gr=false by unfold Z2e;simpa using hm] at m;have o:Ah _:=m;clear m t hm a
     go_wp2_with (first
      |(go_at_call 99;refine Am o ?_;rintro e w' ⟨rfl,j⟩;have c:=j.symm;subst c))
     go_roundw
     case rel=>exact ⟨k+1,by omega,by go_num,f.out▸l,HB.out⟩
     case measure=>simp [B0];omega
  ·obtain rfl:k=N:=by omega
   have ae:¬((k:Int)+1)<=(k:Int):=by omega
   obtain ⟨va,vc,rfl⟩:=l.shape;have HF:=HR.grantAt HB l;have af:Ah _:=HF;have ab:=HM.out (Zx gr fr k).length (by omega);have ad:Ah _:=ab;have aj:∀ v,(wr.setCell ⟨b,13,Ab⟩ v).cell? ⟨b,1,Ab⟩=Ac (Aa O (k:Int)):=λv=>(World.cell?_setCell_other _ _ _ _ (by simp)).trans c1
   clear HF ab HM a HC aa l
   go_wp2_with (first
    |(go_at_call 100;refine Am (ad _) ?_;rintro e w' ⟨rfl,j⟩;have c:=j.symm;subst c))
   go_ret;exact ⟨_,rfl,af.out⟩
end
section
theorem entLaw:GLaw Ent.cells 7 118 34:={
 und:=underlying34
 info:=by
  obtain ⟨h,hi,d,e,f⟩:=info_parts (show (Tryz.prog.info? 118).map (λi=>(i.zero,i.size,i.bytes))=Ac (Ac (Aw (eqN 0 0 0 0 ⟨#[]⟩ ⟨#[]⟩ ⟨#[]⟩)),7,80) by kernel_rfl);exact ⟨h,_,_,hi,d,e,f,rfl,by decide⟩
 pos:=by decide
 len:=λ_=>rfl
 one:=λa u hu=>by
  simp only [Ent.cells,B3,Br,or_false] at hu;rcases hu with rfl | rfl | rfl | rfl | rfl | rfl | rfl <;> rfl }
theorem ent_gC:∀ l:List Ent,Zv l=gC Ent.cells l
 | []=>rfl
 | e :: l=>by rw [Zv,gC,ent_gC l]
variable {w:Ag}{B:Nat}{v:Af}{l:List Ent}
theorem Zh.g (h:Zh w B v l):Zc Ent.cells 7 118 w B v l:=by
 have a:=h.2;rw [ent_gC] at a;exact a
theorem Zc.e (h:Zc Ent.cells 7 118 w B v l)(a:∀ e∈l,e.fits):Zh w B v l:=by
 refine ⟨a,?_⟩;rw [ent_gC];exact h
theorem gC_in (l:List Int):gC inC l=l.map (Value.int O):=by
 induction l with
 | nil=>rfl
 | cons x l ih=>rw [gC,ih];rfl
theorem Z37 {g c n:Nat}{l:List Int}(h:Zc inC 1 3 w B (I (Ac ⟨g,0,Ab⟩) n c) l)(j:Nat)(t:j<l.length)(y:Int):Zc inC 1 3 (w.setCell ⟨g,j,Ab⟩ (Aa O y)) B (I (Ac ⟨g,0,Ab⟩) n c) (l.set j y):=by
 obtain ⟨o,⟨e,-⟩ | ⟨s,cap,a,e,p,m,k,i,f,d⟩⟩:=h
 ·simp at e
 simp only [Value.slice.injEq,Bf,Addr.mk.injEq] at e;obtain ⟨⟨rfl,-⟩,rfl,rfl⟩:=e;rw [gC_in] at d o;refine ⟨by rw [gC_in,List.length_map,Bg];omega,.inr ⟨g,c,a.setIfInBounds j (Aa O y),by rw [Bg],p,?_,by rw [Bg];exact k,i,by simpa using f,?_⟩⟩
 ·have q:Blk w g a 3:=m
  exact q.set j _
 ·rw [gC_in,Bg,Array.toList_setIfInBounds,List.take_set,d,List.map_set]
section
variable {w:Ag} {B b:Nat} {r:Rn} {x:RV}
variable {v:Af}
theorem Z5 {l:List Af}(h:l.Pairwise Yd)(i k:Nat)(a:i<k:=by omega){u:Af}(d:l[i]? = Ac u:=by rfl)(e:l[k]? = Ac v:=by rfl):Yd u v:=by
 obtain ⟨f,rfl⟩:=List.getElem?_eq_some_iff.1 d;obtain ⟨j,rfl⟩:=List.getElem?_eq_some_iff.1 e;exact List.pairwise_iff_getElem.1 h i k f j a
def Blk3 (w:Ag)(g:Nat):Prop:=∃ C,Blk w g C 3
variable {g n c:Nat}
theorem Z4a {l:List Int}(h:Zc inC 1 3 w B (I (Ac ⟨g,0,Ab⟩) n c) l):Blk3 w g:=by
 obtain ⟨-,⟨e,-⟩ | ⟨f,cap,a,e,-,d,-⟩⟩:=h
 ·simp at e
 simp only [Value.slice.injEq,Bf,Addr.mk.injEq] at e;obtain ⟨⟨rfl,-⟩,-⟩:=e;exact ⟨a,d⟩
theorem ne3_e {l:List Ent}(h:Zh w B v l)(a:Blk3 w g):∀ k,v.ownBlock=Ac k->k≠g:=λk e=>let ⟨C,hC⟩:=a;Y5 h hC (by decide) k e
theorem ne3_g {α:Type}{cs:α->List Af}{m:Nat}{T:Ax}{l:List α}(h:Zc cs m T w B v l)(d:Blk3 w g)(a:T≠3):∀ k,v.ownBlock=Ac k->k≠g:=λk e=>let ⟨C,hC⟩:=d;Zm h hC a k e
theorem Ze.nxAt (h:Ze w B b r x)(f:x.vn=I (Ac ⟨g,0,Ab⟩) n c)(j:Nat)(s:j<r.n.nx.length)(y:Int) :
  Ze (w.setCell ⟨g,j,Ab⟩ (Aa O y)) B b { r with n:={ r.n with nx:=r.n.nx.set j y } } x/\Ai B w (w.setCell ⟨g,j,Ab⟩ (Aa O y)):=by
 have d:x.vn.ownBlock=Ac g:=by rw [f];rfl
 have m:=Zm h.nx h.blk (by decide) g d;have u:=(Z5 h.ap 0 1).symm;have a2:=Z5 h.ap 1 2;have t:=Z5 h.ap 1 3;have z:=Z5 h.ap 1 4;have a:∀ k,k≠g->(w.setCell ⟨g,j,Ab⟩ (Aa O y)).heap[k]? = w.heap[k]?:=λk a=>Ak _ _ _ _ a
 have i:∀ {v':Af} {l:List Int},(∀ k,v'.ownBlock=Ac k->x.vn.ownBlock≠Ac k)->Zc inC 1 3 w B v' l->Zc inC 1 3 (w.setCell ⟨g,j,Ab⟩ (Aa O y)) B v' l:=λha ho=>ho.block λk hk'=>a k λe=>ha k hk' (e▸d)
 have o:=Z4a (f▸h.nx);have q:∀ {v':Af} {l:List Ent},Zh w B v' l->Zh (w.setCell ⟨g,j,Ab⟩ (Aa O y)) B v' l:=λho=>ho.block λk hk'=>a k (ne3_e ho o k hk')
 exact ⟨⟨h.blk.keep (a b (λe=>m e.symm)),h.lo,q h.log,i (λk a e=>u k e a) h.gr,f▸Z37 (by rw [<-f];exact h.nx) j s y,i (λk a e=>a2 k e a) h.mt,i (λk a e=>t k e a) h.se,i (λk a e=>z k e a) h.st,h.out.block λk hk'=>a k (ne3_g h.out o (by decide) k hk'),h.outC,λp hp=>q (h.ents p hp),h.ap⟩,(An _ _).setCell (p:=⟨g,j,Ab⟩) ((h.nx.lts g d).1) _⟩
theorem Ze.mtAt (h:Ze w B b r x)(f:x.vm=I (Ac ⟨g,0,Ab⟩) n c)(j:Nat)(s:j<r.n.mt.length)(y:Int) :
  Ze (w.setCell ⟨g,j,Ab⟩ (Aa O y)) B b { r with n:={ r.n with mt:=r.n.mt.set j y } } x/\Ai B w (w.setCell ⟨g,j,Ab⟩ (Aa O y)):=by
 have d:x.vm.ownBlock=Ac g:=by rw [f];rfl
 have m:=Zm h.mt h.blk (by decide) g d;have u:=(Z5 h.ap 0 2).symm;have a1:=(Z5 h.ap 1 2).symm;have t:=Z5 h.ap 2 3;have z:=Z5 h.ap 2 4;have a:∀ k,k≠g->(w.setCell ⟨g,j,Ab⟩ (Aa O y)).heap[k]? = w.heap[k]?:=λk a=>Ak _ _ _ _ a
 have i:∀ {v':Af} {l:List Int},(∀ k,v'.ownBlock=Ac k->x.vm.ownBlock≠Ac k)->Zc inC 1 3 w B v' l->Zc inC 1 3 (w.setCell ⟨g,j,Ab⟩ (Aa O y)) B v' l:=λha ho=>ho.block λk hk'=>a k λe=>ha k hk' (e▸d)
 have o:=Z4a (f▸h.mt);have q:∀ {v':Af} {l:List Ent},Zh w B v' l->Zh (w.setCell ⟨g,j,Ab⟩ (Aa O y)) B v' l:=λho=>ho.block λk hk'=>a k (ne3_e ho o k hk')
 exact ⟨⟨h.blk.keep (a b (λe=>m e.symm)),h.lo,q h.log,i (λk a e=>u k e a) h.gr,i (λk a e=>a1 k e a) h.nx,f▸Z37 (by rw [<-f];exact h.mt) j s y,i (λk a e=>t k e a) h.se,i (λk a e=>z k e a) h.st,h.out.block λk hk'=>a k (ne3_g h.out o (by decide) k hk'),h.outC,λp hp=>q (h.ents p hp),h.ap⟩,(An _ _).setCell (p:=⟨g,j,Ab⟩) ((h.mt.lts g d).1) _⟩
theorem Ze.seAt (h:Ze w B b r x)(f:x.vs=I (Ac ⟨g,0,Ab⟩) n c)(j:Nat)(s:j<r.n.se.length)(y:Int) :
  Ze (w.setCell ⟨g,j,Ab⟩ (Aa O y)) B b { r with n:={ r.n with se:=r.n.se.set j y } } x/\Ai B w (w.setCell ⟨g,j,Ab⟩ (Aa O y)):=by
 have d:x.vs.ownBlock=Ac g:=by rw [f];rfl
 have m:=Zm h.se h.blk (by decide) g d;have t:=(Z5 h.ap 0 3).symm;have a1:=(Z5 h.ap 1 3).symm;have z:=(Z5 h.ap 2 3).symm;have u:=Z5 h.ap 3 4;have a:∀ k,k≠g->(w.setCell ⟨g,j,Ab⟩ (Aa O y)).heap[k]? = w.heap[k]?:=λk a=>Ak _ _ _ _ a
 have i:∀ {v':Af} {l:List Int},(∀ k,v'.ownBlock=Ac k->x.vs.ownBlock≠Ac k)->Zc inC 1 3 w B v' l->Zc inC 1 3 (w.setCell ⟨g,j,Ab⟩ (Aa O y)) B v' l:=λha ho=>ho.block λk hk'=>a k λe=>ha k hk' (e▸d)
 have o:=Z4a (f▸h.se);have q:∀ {v':Af} {l:List Ent},Zh w B v' l->Zh (w.setCell ⟨g,j,Ab⟩ (Aa O y)) B v' l:=λho=>ho.block λk hk'=>a k (ne3_e ho o k hk')
 exact ⟨⟨h.blk.keep (a b (λe=>m e.symm)),h.lo,q h.log,i (λk a e=>t k e a) h.gr,i (λk a e=>a1 k e a) h.nx,i (λk a e=>z k e a) h.mt,f▸Z37 (by rw [<-f];exact h.se) j s y,i (λk a e=>u k e a) h.st,h.out.block λk hk'=>a k (ne3_g h.out o (by decide) k hk'),h.outC,λp hp=>q (h.ents p hp),h.ap⟩,(An _ _).setCell (p:=⟨g,j,Ab⟩) ((h.se.lts g d).1) _⟩
theorem Ze.stAt (h:Ze w B b r x)(f:x.vt=I (Ac ⟨g,0,Ab⟩) n c)(j:Nat)(s:j<r.n.st.length)(y:Int) :
  Ze (w.setCell ⟨g,j,Ab⟩ (Aa O y)) B b { r with n:={ r.n with st:=r.n.st.set j y } } x/\Ai B w (w.setCell ⟨g,j,Ab⟩ (Aa O y)):=by
 have d:x.vt.ownBlock=Ac g:=by rw [f];rfl
 have m:=Zm h.st h.blk (by decide) g d;have t:=(Z5 h.ap 0 4).symm;have a1:=(Z5 h.ap 1 4).symm;have z:=(Z5 h.ap 2 4).symm;have u:=(Z5 h.ap 3 4).symm;have a:∀ k,k≠g->(w.setCell ⟨g,j,Ab⟩ (Aa O y)).heap[k]? = w.heap[k]?:=λk a=>Ak _ _ _ _ a
 have i:∀ {v':Af} {l:List Int},(∀ k,v'.ownBlock=Ac k->x.vt.ownBlock≠Ac k)->Zc inC 1 3 w B v' l->Zc inC 1 3 (w.setCell ⟨g,j,Ab⟩ (Aa O y)) B v' l:=λha ho=>ho.block λk hk'=>a k λe=>ha k hk' (e▸d)
 have o:=Z4a (f▸h.st);have q:∀ {v':Af} {l:List Ent},Zh w B v' l->Zh (w.setCell ⟨g,j,Ab⟩ (Aa O y)) B v' l:=λho=>ho.block λk hk'=>a k (ne3_e ho o k hk')
 exact ⟨⟨h.blk.keep (a b (λe=>m e.symm)),h.lo,q h.log,i (λk a e=>t k e a) h.gr,i (λk a e=>a1 k e a) h.nx,i (λk a e=>z k e a) h.mt,i (λk a e=>u k e a) h.se,f▸Z37 (by rw [<-f];exact h.st) j s y,h.out.block λk hk'=>a k (ne3_g h.out o (by decide) k hk'),h.outC,λp hp=>q (h.ents p hp),h.ap⟩,(An _ _).setCell (p:=⟨g,j,Ab⟩) ((h.st.lts g d).1) _⟩
end
end
theorem pw5 {a b c d e:Af}(k:Yd a b)(m:Yd a c)(j:Yd a d)(i:Yd a e)(g:Yd b c)(n:Yd b d)(h:Yd b e)(o:Yd c d)(p:Yd c e)(f:Yd d e):[a,b,c,d,e].Pairwise Yd:=by
 simp only [List.pairwise_cons,B3,Br,or_false,forall_eq_or_imp,forall_eq,List.Pairwise.nil,and_true,false_imp_iff,implies_true];exact ⟨⟨k,m,j,i⟩,⟨g,n,h⟩,⟨o,p⟩,f⟩
theorem Yq {α β:Type}{cs:α->List Af}{n:β->List Af}{m k:Nat}{T S:Ax}{w:Ag}{B C:Nat}{u v:Af}{l:List α}{q:List β}(h:Zc cs m T w B u l)(g:Zc n k S w C v q)(c:T≠S:=by decide):Yd u v:=by
 intro j e e2;obtain ⟨-,⟨rfl,-⟩ | ⟨g1,cap,o,rfl,-,d,-⟩⟩:=h
 ·cases e
 obtain ⟨-,⟨rfl,-⟩ | ⟨p,i,f,rfl,-,a,-⟩⟩:=g
 ·cases e2
 cases e;cases e2;rw [d] at a;simp only [Bf,Obj.cells.injEq] at a;exact c a.2.1
section
variable {w w2 w3:Ag} {B b:Nat} {r:Rn} {x:RV} {v:Af} {l:List Int}
theorem Ze.nxNew (h:Ze w B b r x)(q:Ai w.heap.size w w2)(t:Zc inC 1 3 w3 B v l)(j:Ye w2 x.vn w3 v) :
  Ze (w3.setCell ⟨b,14,Ab⟩ v) B b { r with n:={ r.n with nx:=l } } { x with vn:=v }/\Ai B w (w3.setCell ⟨b,14,Ab⟩ v)/\∀ k,k≠b->k<w.heap.size->x.vn.ownBlock≠Ac k->(w3.setCell ⟨b,14,Ab⟩ v).heap[k]? = w.heap[k]?:=by
 have y:=q.size;have f:∀ k,x.vn.ownBlock=Ac k->B<=k/\k<w.heap.size/\k≠b:=λk e=>⟨(h.nx.lts k e).1,(h.nx.lts k e).2,Zm h.nx h.blk (by decide) k e⟩
 have d:∀ k,k<w.heap.size->x.vn.ownBlock≠Ac k->w3.heap[k]? = w.heap[k]?:=λk hk hne=>(j.g.block k (by omega) (λe=>hne e.symm)).trans (q.block k hk)
 have s:=h.blk.keep (d b h.lt λe=>(f b e).2.2 rfl);have c:∀ k,k≠b->(w3.setCell ⟨b,14,Ab⟩ v).heap[k]? = w3.heap[k]?:=λk hk=>Ak _ _ _ _ hk
 have a:∀ {α:Type} {cs:α->List Af} {m':Nat} {T:Ax} {u:Af} {l:List α},T≠112->Zc cs m' T w B u l->Yd x.vn u->Zc cs m' T (w3.setCell ⟨b,14,Ab⟩ v) B u l:=λh1 ho' ha=>ho'.block λk e=>(c k (Zm ho' h.blk h1 k e)).trans (d k (ho'.lts k e).2 λe'=>ha k e' e)
 have m:∀ k,v.ownBlock=Ac k->k≠b:=λk e=>by
  rcases j.at' with e' | ⟨g,e',hk⟩
  ·rw [e] at e';exact (f k e'.symm).2.2
  ·rw [e] at e';cases e';have:=h.lt;omega
 have i:∀ {u:Af} {l':List Int},Zc inC 1 3 w B u l'->Yd x.vn u->Yd v u:=λhu ha k e1 e2=>by
  rcases j.at' with e' | ⟨g,e',hk⟩
  ·rw [e1] at e';exact ha k e'.symm e2
  ·rw [e1] at e';cases e';have:=(hu.lts _ e2).2;omega
 refine ⟨⟨s.set 14 v,h.lo,Zc.e (a (by decide) h.log.g (Yq h.nx h.log.g)) h.log.1,a (by decide) h.gr ((Z5 h.ap 0 1).symm),t.block λk e=>c k (m k e),a (by decide) h.mt (Z5 h.ap 1 2),a (by decide) h.se (Z5 h.ap 1 3),a (by decide) h.st (Z5 h.ap 1 4),a (by decide) h.out (Yq h.nx h.out),h.outC,λp hp=>Zc.e (a (by decide) (h.ents p hp).g (Yq h.nx (h.ents p hp).g)) (h.ents p hp).1,pw5 ((i h.gr (Z5 h.ap 0 1).symm).symm) (Z5 h.ap 0 2) (Z5 h.ap 0 3) (Z5 h.ap 0 4) (i h.mt (Z5 h.ap 1 2)) (i h.se (Z5 h.ap 1 3)) (i h.st (Z5 h.ap 1 4)) (Z5 h.ap 2 3) (Z5 h.ap 2 4) (Z5 h.ap 3 4)⟩,?_,λk hk1 hk2 hk4=>(c k hk1).trans (d k hk2 hk4)⟩;refine Below.setCell (p:=⟨b,14,Ab⟩) (w:=w3) ?_ h.lo v;have o:=Ap h.lo (Be h.lt);exact ((An B w).trans (q.mono o)).grown j.g (by omega) (λk e=>(f k e).1)
theorem Ze.mtNew (h:Ze w B b r x)(q:Ai w.heap.size w w2)(t:Zc inC 1 3 w3 B v l)(j:Ye w2 x.vm w3 v) :
  Ze (w3.setCell ⟨b,15,Ab⟩ v) B b { r with n:={ r.n with mt:=l } } { x with vm:=v }/\Ai B w (w3.setCell ⟨b,15,Ab⟩ v)/\∀ k,k≠b->k<w.heap.size->x.vm.ownBlock≠Ac k->(w3.setCell ⟨b,15,Ab⟩ v).heap[k]? = w.heap[k]?:=by
 have y:=q.size;have f:∀ k,x.vm.ownBlock=Ac k->B<=k/\k<w.heap.size/\k≠b:=λk e=>⟨(h.mt.lts k e).1,(h.mt.lts k e).2,Zm h.mt h.blk (by decide) k e⟩
 have d:∀ k,k<w.heap.size->x.vm.ownBlock≠Ac k->w3.heap[k]? = w.heap[k]?:=λk hk hne=>(j.g.block k (by omega) (λe=>hne e.symm)).trans (q.block k hk)
 have s:=h.blk.keep (d b h.lt λe=>(f b e).2.2 rfl);have c:∀ k,k≠b->(w3.setCell ⟨b,15,Ab⟩ v).heap[k]? = w3.heap[k]?:=λk hk=>Ak _ _ _ _ hk
 have a:∀ {α:Type} {cs:α->List Af} {m':Nat} {T:Ax} {u:Af} {l:List α},T≠112->Zc cs m' T w B u l->Yd x.vm u->Zc cs m' T (w3.setCell ⟨b,15,Ab⟩ v) B u l:=λh1 ho' ha=>ho'.block λk e=>(c k (Zm ho' h.blk h1 k e)).trans (d k (ho'.lts k e).2 λe'=>ha k e' e)
 have m:∀ k,v.ownBlock=Ac k->k≠b:=λk e=>by
  rcases j.at' with e' | ⟨g,e',hk⟩
  ·rw [e] at e';exact (f k e'.symm).2.2
  ·rw [e] at e';cases e';have:=h.lt;omega
 have i:∀ {u:Af} {l':List Int},Zc inC 1 3 w B u l'->Yd x.vm u->Yd v u:=λhu ha k e1 e2=>by
  rcases j.at' with e' | ⟨g,e',hk⟩
  ·rw [e1] at e';exact ha k e'.symm e2
  ·rw [e1] at e';cases e';have:=(hu.lts _ e2).2;omega
 refine ⟨⟨s.set 15 v,h.lo,Zc.e (a (by decide) h.log.g (Yq h.mt h.log.g)) h.log.1,a (by decide) h.gr ((Z5 h.ap 0 2).symm),a (by decide) h.nx ((Z5 h.ap 1 2).symm),t.block λk e=>c k (m k e),a (by decide) h.se (Z5 h.ap 2 3),a (by decide) h.st (Z5 h.ap 2 4),a (by decide) h.out (Yq h.mt h.out),h.outC,λp hp=>Zc.e (a (by decide) (h.ents p hp).g (Yq h.mt (h.ents p hp).g)) (h.ents p hp).1,pw5 (Z5 h.ap 0 1) ((i h.gr (Z5 h.ap 0 2).symm).symm) (Z5 h.ap 0 3) (Z5 h.ap 0 4) ((i h.nx (Z5 h.ap 1 2).symm).symm) (Z5 h.ap 1 3) (Z5 h.ap 1 4) (i h.se (Z5 h.ap 2 3)) (i h.st (Z5 h.ap 2 4)) (Z5 h.ap 3 4)⟩,?_,λk hk1 hk2 hk4=>(c k hk1).trans (d k hk2 hk4)⟩;refine Below.setCell (p:=⟨b,15,Ab⟩) (w:=w3) ?_ h.lo v;have o:=Ap h.lo (Be h.lt);exact ((An B w).trans (q.mono o)).grown j.g (by omega) (λk e=>(f k e).1)
theorem Ze.seNew (h:Ze w B b r x)(q:Ai w.heap.size w w2)(t:Zc inC 1 3 w3 B v l)(j:Ye w2 x.vs w3 v) :
  Ze (w3.setCell ⟨b,16,Ab⟩ v) B b { r with n:={ r.n with se:=l } } { x with vs:=v }/\Ai B w (w3.setCell ⟨b,16,Ab⟩ v)/\∀ k,k≠b->k<w.heap.size->x.vs.ownBlock≠Ac k->(w3.setCell ⟨b,16,Ab⟩ v).heap[k]? = w.heap[k]?:=by
 have y:=q.size;have f:∀ k,x.vs.ownBlock=Ac k->B<=k/\k<w.heap.size/\k≠b:=λk e=>⟨(h.se.lts k e).1,(h.se.lts k e).2,Zm h.se h.blk (by decide) k e⟩
 have d:∀ k,k<w.heap.size->x.vs.ownBlock≠Ac k->w3.heap[k]? = w.heap[k]?:=λk hk hne=>(j.g.block k (by omega) (λe=>hne e.symm)).trans (q.block k hk)
 have s:=h.blk.keep (d b h.lt λe=>(f b e).2.2 rfl);have c:∀ k,k≠b->(w3.setCell ⟨b,16,Ab⟩ v).heap[k]? = w3.heap[k]?:=λk hk=>Ak _ _ _ _ hk
 have a:∀ {α:Type} {cs:α->List Af} {m':Nat} {T:Ax} {u:Af} {l:List α},T≠112->Zc cs m' T w B u l->Yd x.vs u->Zc cs m' T (w3.setCell ⟨b,16,Ab⟩ v) B u l:=λh1 ho' ha=>ho'.block λk e=>(c k (Zm ho' h.blk h1 k e)).trans (d k (ho'.lts k e).2 λe'=>ha k e' e)
 have m:∀ k,v.ownBlock=Ac k->k≠b:=λk e=>by
  rcases j.at' with e' | ⟨g,e',hk⟩
  ·rw [e] at e';exact (f k e'.symm).2.2
  ·rw [e] at e';cases e';have:=h.lt;omega
 have i:∀ {u:Af} {l':List Int},Zc inC 1 3 w B u l'->Yd x.vs u->Yd v u:=λhu ha k e1 e2=>by
  rcases j.at' with e' | ⟨g,e',hk⟩
  ·rw [e1] at e';exact ha k e'.symm e2
  ·rw [e1] at e';cases e';have:=(hu.lts _ e2).2;omega
 refine ⟨⟨s.set 16 v,h.lo,Zc.e (a (by decide) h.log.g (Yq h.se h.log.g)) h.log.1,a (by decide) h.gr ((Z5 h.ap 0 3).symm),a (by decide) h.nx ((Z5 h.ap 1 3).symm),a (by decide) h.mt ((Z5 h.ap 2 3).symm),t.block λk e=>c k (m k e),a (by decide) h.st (Z5 h.ap 3 4),a (by decide) h.out (Yq h.se h.out),h.outC,λp hp=>Zc.e (a (by decide) (h.ents p hp).g (Yq h.se (h.ents p hp).g)) (h.ents p hp).1,pw5 (Z5 h.ap 0 1) (Z5 h.ap 0 2) ((i h.gr (Z5 h.ap 0 3).symm).symm) (Z5 h.ap 0 4) (Z5 h.ap 1 2) ((i h.nx (Z5 h.ap 1 3).symm).symm) (Z5 h.ap 1 4) ((i h.mt (Z5 h.ap 2 3).symm).symm) (Z5 h.ap 2 4) (i h.st (Z5 h.ap 3 4))⟩,?_,λk hk1 hk2 hk4=>(c k hk1).trans (d k hk2 hk4)⟩;refine Below.setCell (p:=⟨b,16,Ab⟩) (w:=w3) ?_ h.lo v;have o:=Ap h.lo (Be h.lt);exact ((An B w).trans (q.mono o)).grown j.g (by omega) (λk e=>(f k e).1)
theorem Ze.stNew (h:Ze w B b r x)(q:Ai w.heap.size w w2)(t:Zc inC 1 3 w3 B v l)(j:Ye w2 x.vt w3 v) :
  Ze (w3.setCell ⟨b,17,Ab⟩ v) B b { r with n:={ r.n with st:=l } } { x with vt:=v }/\Ai B w (w3.setCell ⟨b,17,Ab⟩ v)/\∀ k,k≠b->k<w.heap.size->x.vt.ownBlock≠Ac k->(w3.setCell ⟨b,17,Ab⟩ v).heap[k]? = w.heap[k]?:=by
 have y:=q.size;have f:∀ k,x.vt.ownBlock=Ac k->B<=k/\k<w.heap.size/\k≠b:=λk e=>⟨(h.st.lts k e).1,(h.st.lts k e).2,Zm h.st h.blk (by decide) k e⟩
 have d:∀ k,k<w.heap.size->x.vt.ownBlock≠Ac k->w3.heap[k]? = w.heap[k]?:=λk hk hne=>(j.g.block k (by omega) (λe=>hne e.symm)).trans (q.block k hk)
 have s:=h.blk.keep (d b h.lt λe=>(f b e).2.2 rfl);have c:∀ k,k≠b->(w3.setCell ⟨b,17,Ab⟩ v).heap[k]? = w3.heap[k]?:=λk hk=>Ak _ _ _ _ hk
 have a:∀ {α:Type} {cs:α->List Af} {m':Nat} {T:Ax} {u:Af} {l:List α},T≠112->Zc cs m' T w B u l->Yd x.vt u->Zc cs m' T (w3.setCell ⟨b,17,Ab⟩ v) B u l:=λh1 ho' ha=>ho'.block λk e=>(c k (Zm ho' h.blk h1 k e)).trans (d k (ho'.lts k e).2 λe'=>ha k e' e)
 have m:∀ k,v.ownBlock=Ac k->k≠b:=λk e=>by
  rcases j.at' with e' | ⟨g,e',hk⟩
  ·rw [e] at e';exact (f k e'.symm).2.2
  ·rw [e] at e';cases e';have:=h.lt;omega
 have i:∀ {u:Af} {l':List Int},Zc inC 1 3 w B u l'->Yd x.vt u->Yd v u:=λhu ha k e1 e2=>by
  rcases j.at' with e' | ⟨g,e',hk⟩
  ·rw [e1] at e';exact ha k e'.symm e2
  ·rw [e1] at e';cases e';have:=(hu.lts _ e2).2;omega
 refine ⟨⟨s.set 17 v,h.lo,Zc.e (a (by decide) h.log.g (Yq h.st h.log.g)) h.log.1,a (by decide) h.gr ((Z5 h.ap 0 4).symm),a (by decide) h.nx ((Z5 h.ap 1 4).symm),a (by decide) h.mt ((Z5 h.ap 2 4).symm),a (by decide) h.se ((Z5 h.ap 3 4).symm),t.block λk e=>c k (m k e),a (by decide) h.out (Yq h.st h.out),h.outC,λp hp=>Zc.e (a (by decide) (h.ents p hp).g (Yq h.st (h.ents p hp).g)) (h.ents p hp).1,pw5 (Z5 h.ap 0 1) (Z5 h.ap 0 2) (Z5 h.ap 0 3) ((i h.gr (Z5 h.ap 0 4).symm).symm) (Z5 h.ap 1 2) (Z5 h.ap 1 3) ((i h.nx (Z5 h.ap 1 4).symm).symm) (Z5 h.ap 2 3) ((i h.mt (Z5 h.ap 2 4).symm).symm) ((i h.se (Z5 h.ap 3 4).symm).symm)⟩,?_,λk hk1 hk2 hk4=>(c k hk1).trans (d k hk2 hk4)⟩;refine Below.setCell (p:=⟨b,17,Ab⟩) (w:=w3) ?_ h.lo v;have o:=Ap h.lo (Be h.lt);exact ((An B w).trans (q.mono o)).grown j.g (by omega) (λk e=>(f k e).1)
end
def lst (t:Nat->Af):Nat->Nat->List Af
 | _,0=>[]
 | i,n+1=>t i :: lst t (i+1) n
theorem lst_eq (t:Nat->Af):∀(L:List Af) (i:Nat),(∀ j,j<L.length->L[j]? = Ac (t (i+j)))->L=lst t i L.length
 | [],i,_=>rfl
 | x :: L,i,h=>by
  have b:=h 0 (by simp);simp at b;subst b
  have c:=lst_eq t L (i+1) (λj hj=>by
   have:=h (j+1) (by simp;omega);simp only [List.getElem?_cons_succ] at this;rw [this];congr 2;omega)
  show _=t i :: lst t (i+1) L.length;rw [<-c]
theorem lst_of (L:List Af)(n:Nat)(b:L.length=n):L=lst (λi=>L.getD i undef) 0 n:=by
 subst b;refine lst_eq _ L 0 (λj hj=>?_);rw [As hj];simp [List.getD,hj]
def SzD (a:Bn)(n:Nat):Prop:=a.tmps.size=n/\a.defers = []
theorem SzD.opened {a:Bn}{n:Nat}(h:SzD a n):∃ t:Nat->Af,a=⟨(lst t 0 n).toArray,[]⟩:=by
 obtain ⟨⟨L⟩,df⟩:=a;obtain ⟨b,e⟩:=h;have hd:=e;subst hd;have c:=b;exact ⟨λi=>L.getD i undef,by rw [<-lst_of L n c]⟩
section
variable {n m:Nat} {ops:Array Oper} {ds:List (Option Nat)} {vs:List Af} {a0 a:Bn} {w:Ag} {L:Array Bool} {Q:Exit->Bn->Ag->Prop} {P0 P1 P2:Ag->Prop} {A B:Nat}
variable {i j:Nat}
theorem offBit {L:Array Bool}(h:(L.setIfInBounds i true).getD j false=false)(hi:i<L.size):L.getD j false=false:=by
 cases b:L.getD j false with
 | false=>rfl
 | true=>rw [Xl b hi] at h;cases h
structure RF (a0:Bn) (ds:List (Option Nat)) (vs:List Af) (L:Array Bool) (a:Bn):Prop where
 sz:a.tmps.size=a0.tmps.size
 df:a.defers=a0.defers
 old:∀ s v,(∀ k,ds[k]? = Ac (Ac s)->L.getD k false=false)->a0.eval (.tmp s)=v->a.eval (.tmp s)=v
 new:∀ j d v,L.getD j false=true->ds[j]? = Ac (Ac d)->vs[j]? = Ac v->a.eval (.tmp d)=v
def rfOk (ds:List (Option Nat))(n:Nat):Bool:=(List.range ds.length).all λi=>match ds[i]? with
 | some (Ac d)=>decide (d<n) && (List.range i).all λj=>ds[j]? != Ac (Ac d)
 | _=>true
variable {d:Nat}
theorem rfOk_at (h:rfOk ds n=true)(hi:ds[i]? = Ac (Ac d)):d<n/\∀ j,j<i->ds[j]?≠Ac (Ac d):=by
 unfold rfOk at h
 have b:=List.all_eq_true.1 h i (List.mem_range.2 (by
  rcases B1 i ds.length with h9 | h9
  ·exact h9
  ·rw [Bv h9] at hi;cases hi))
 rw [hi] at b;simp only [Al,decide_eq_true_eq] at b;refine ⟨b.1,λj hj e=>?_⟩;have c:=List.all_eq_true.1 b.2 j (List.mem_range.2 hj);rw [e] at c;simp at c
theorem rf_one (h:rfOk ds n=true)(hi:ds[i]? = Ac (Ac d))(b:ds[j]? = Ac (Ac d)):i=j:=by
 rcases Nat.lt_trichotomy i j with h9 | h9 | h9
 ·exact absurd hi ((rfOk_at h b).2 i h9)
 ·exact h9
 ·exact absurd b ((rfOk_at h hi).2 j h9)
theorem Z64 (a:Bn)(d s:Nat)(v:Af)(hd:d<a.tmps.size):(a.put (Ac d) v).eval (.tmp s)=if s=d then v else a.eval (.tmp s):=by
 show (a.tmps.setIfInBounds d v).getD s undef=if s=d then v else a.tmps.getD s undef
 rw [Bw,Bw,Array.getElem?_setIfInBounds];by_cases e:d=s
 ·rw [if_pos e,if_pos hd,if_pos e.symm];rfl
 ·rw [if_neg e,if_neg (λq=>e q.symm)]
variable {v:Af}
theorem RF.put (b:rfOk ds a0.tmps.size=true)(h:RF a0 ds vs L a)(hi:i<L.size){d:Option Nat}(hd:ds[i]? = Ac d)(l:vs[i]? = Ac v):RF a0 ds vs (L.setIfInBounds i true) (a.put d v):=by
 cases d with
 | none=>
  refine ⟨h.sz,h.df,λs u h1 h2=>h.old s u (λk b=>offBit (h1 k b) hi) h2,λj d v' h1 h2 h3=>h.new j d v' (X7 h1 hi (λe=>?_)) h2 h3⟩;rw [e,hd] at h2;cases h2
 | some d=>
  have g:=(rfOk_at b hd).1;have c:d<a.tmps.size:=h.sz▸g
  refine ⟨by show (a.tmps.setIfInBounds d v).size=_;rw [Array.size_setIfInBounds];exact h.sz,h.df,λs u h1 h2=>?_,λj d' u h1 h2 h3=>?_⟩
  ·rw [Z64 a d s v c,if_neg (λe=>?_)]
   ·exact h.old s u (λk b=>offBit (h1 k b) hi) h2
   ·have f:=h1 i (e▸hd)
    rw [Z2p hi] at f;cases f
  ·rw [Z64 a d d' v c]
   by_cases e:d'=d
   ·rw [if_pos e]
    rw [e] at h2;have e2:=rf_one b hd h2;rw [<-e2,l] at h3;injection h3
   ·rw [if_neg e]
    refine h.new j d' u (X7 h1 hi (λe2=>e ?_)) h2 h3;rw [e2,hd] at h2;injection h2 with h2;injection h2 with h2;exact h2.symm
def Nds (ops:Array Oper)(ds:List (Option Nat))(vs:List Af)(i:Nat)(a:Bn):Prop:=∀ j d v,(Jx .any ops i).contains j=true->ds[j]? = Ac (Ac d)->vs[j]? = Ac v->a.eval (.tmp d)=v
theorem Zu {a:Bn}{s:Nat}(h:a.eval (.tmp s)=v):a.tmps[s]?.getD undef=v:=by
 have b:a.tmps.getD s undef=v:=h;rw [Bw] at b;exact b
def reach (ops:Array Oper)(a:Nat):Nat->List Nat->Bool
 | b,[]=>(Jx .any ops b).contains a
 | b,c :: t=>(Jx .any ops b).contains c && reach ops a c t
theorem reach_on (e:∀ i,L.getD i false=true->∀ j,j∈Jx .any ops i->L.getD j false=true){a:Nat} : ∀(t:List Nat) (b:Nat),(∀ j,j∈Jx .any ops b->L.getD j false=true)->reach ops a b t=true->L.getD a false=true
 | [],b,hb,h=>hb a (List.contains_iff_mem.1 h)
 | c :: t,b,hb,h=>by
  rw [reach,Al] at h;exact reach_on e t c (e c (hb c (List.contains_iff_mem.1 h.1))) h.2
def olOk (ops:Array Oper)(ds:List (Option Nat))(i s:Nat)(pt:List Nat):Bool:=(List.range ds.length).all λk=>ds[k]? != Ac (Ac s) || reach ops i k pt
def Ol (ops:Array Oper)(a0:Bn)(ds:List (Option Nat))(i:Nat)(a:Bn):Prop:=∀ s v pt,olOk ops ds i s pt=true->a0.eval (.tmp s)=v->a.eval (.tmp s)=v
theorem RF.keep (h:RF a0 ds vs L a)(s:Nat)(v:Af)(c:ds.contains (Ac s)=false)(e:a0.eval (.tmp s)=v):a.eval (.tmp s)=v:=h.old s v (λk hk=>by
  have b:=List.contains_iff_mem.2 (List.mem_of_getElem? hk);rw [c] at b;cases b) e
theorem Nds.y {d:Nat}{v:Af}(h:Nds ops ds vs i a)(j:Nat)(b:(Jx .any ops i).contains j=true:=by exact rfl)(c:ds[j]? = Ac (Ac d):=by exact rfl)(e:vs[j]? = Ac v:=by exact rfl):a.eval (.tmp d)=v:=h j d v b c e
theorem Nds.z {d:Nat}{v:Af}(h:Nds ops ds vs i a)(j:Nat)(b:(Jx .any ops i).contains j=true:=by exact rfl)(c:ds[j]? = Ac (Ac d):=by exact rfl)(e:vs[j]? = Ac v:=by exact rfl):a.tmps[d]?.getD undef=v:=Zu (h j d v b c e)
theorem Ol.z {s:Nat}{v:Af}(h:Ol ops a0 ds i a)(e:a0.eval (.tmp s)=v)(b:olOk ops ds i s []=true:=by exact rfl):a.tmps[s]?.getD undef=v:=Zu (h s v [] b e)
def PO (ops:Array Oper)(ds:List (Option Nat))(vs:List Af)(a0:Bn)(Q:Exit->Bn->Ag->Prop)(Pw:Ag->Prop)(i:Nat):Prop:=∃ o v,ops[i]? = Ac o/\o.guard=Ab/\ds[i]? = Ac o.dst/\vs[i]? = Ac v/\∀ a w K,Nds ops ds vs i a->Ol ops a0 ds i a->Pw w->K (a.put o.dst v) w->o.wp Ad a w K Q
variable {Pw:Ag->Prop}{o:Oper}
theorem PO.val (h:∀ a w,Nds ops ds vs i a->Ol ops a0 ds i a->Pw w->(execOp a.eval o).run Ad w=.ok (.value v) w)(c:ops[i]? = Ac o:=by exact rfl)(e:o.guard=Ab:=by exact rfl)(b:ds[i]? = Ac o.dst:=by exact rfl)(f:vs[i]? = Ac v:=by exact rfl):PO ops ds vs a0 Q Pw i:=
 ⟨o,v,c,e,b,f,λa w K n o t k=>Z0z (h a w n o t) k⟩
theorem PO.call {N:FuncId}{b:Array Operand}{s:Array Ax}(args:Array Af)(q:ops[i]? = Ac o)(r:o.guard=Ab)(l:ds[i]? = Ac o.dst)(u:vs[i]? = Ac v)(g:o.op=.call ⟨.value (.func N),b,s⟩)(f:∀ args w,(callFunc N args).run Ad w=.ok (.enter N args) w)(h:∀ a,Nds ops ds vs i a->Ol ops a0 ds i a->b.map a.eval=args)(c:∀ w,Ar Ad N args w λe w'=>e=.returned v/\w'=w):PO ops ds vs a0 Q Pw i:=
 ⟨o,v,q,r,l,u,λa w K n o t k=>Yg g f _ (h a n o) ((c w).mono λe w' ⟨e1,e2⟩=>⟨v,e1,e2▸k⟩)⟩
variable {p:Nat->Prop}{n:Nat}
theorem Zq (h:∀ i,i<n->p i)(b:p n):∀ i,i<n+1->p i:=λi hi=>by
 rcases B1 i n with h9 | h9
 ·exact h i h9
 ·have e:i=n:=by omega
  rw [e];exact b
theorem lt_z : ∀ i,i<0->p i:=λi hi=>absurd hi (Nat.not_lt_zero i)
theorem Z14 {id:Nat}(ds:List (Option Nat))(vs:List Af)(P0 P1 P2:Ag->Prop)(A B:Nat)(hm:Tryz.prog.follows .mixedOrders=true)(hn:ops.size=n)(hz:a0.tmps.size=m)(r:rfOk ds m=true)(ab:(List.range ops.size).all (λi=>(Jx .any ops i).all (· < i))=true)(ah:A<n)(ag:B<n)(pt:List Nat)(af:A=B∨reach ops A B pt=true)
  (h0:P0 w.drew)
  (aa:∀ a' w' L,(∀ j,j<n->L.getD j false=true)->RF a0 ds vs L a'->P2 w'->Q .normal a' w')
  (hA:∃ o d v,ops[A]? = Ac o/\ds[A]? = Ac d/\vs[A]? = Ac v/\∀ a w,Nds ops ds vs A a->Ol ops a0 ds A a->P0 w->wpOp Ad ops Q A (λa' w'=>a'=a.put d v/\if A=B then P2 w' else P1 w') a w)
  (hB:A=B∨∃ o d v,ops[B]? = Ac o/\ds[B]? = Ac d/\vs[B]? = Ac v/\∀ a w,Nds ops ds vs B a->Ol ops a0 ds B a->P1 w->wpOp Ad ops Q B (λa' w'=>a'=a.put d v/\P2 w') a w)
  (hp:∀ i,i<n->i≠A->i≠B->PO ops ds vs a0 Q (λw=>P0 w∨P1 w∨P2 w) i):(Code.region id ops true).wp Ad Q a0 w:=by
 subst hz
 have hT:∀ {p q:Bool} {w:Ag},(match p,q with | false,false=>P0 w | false,true=>False | true,false=>if A=B then P2 w else P1 w | true,true=>P2 w)->P0 w∨P1 w∨P2 w:=λ{p q w} h=>by
  cases p <;> cases q
  ·exact .inl h
  ·exact h.elim
  ·by_cases e:A=B
   ·exact .inr (.inr (by simpa [e] using h))
   ·exact .inr (.inl (by simpa [e] using h))
  ·exact .inr (.inr h)
 refine Z2w hm (λL a w=>(∀ i,L.getD i false=true->∀ j,j∈Jx .any ops i->L.getD j false=true)/\RF a0 ds vs L a/\(match L.getD A false,L.getD B false with | false,false=>P0 w | false,true=>False | true,false=>if A=B then P2 w else P1 w | true,true=>P2 w)) ⟨λi h=>(Z0g h).elim,⟨rfl,rfl,λs v _ h=>h,λj d v h=>(Z0g h).elim⟩,?_⟩ ?_ ?_
 ·have hb:∀ j,(Array.replicate ops.size false).getD j false=false:=λj=>by
   cases c:(Array.replicate ops.size false).getD j false with
   | false=>rfl
   | true=>exact (Z0g c).elim
  rw [hb,hb];exact h0
 ·rintro L a w i hL hi ⟨hC,u,f⟩
  obtain ⟨ai,ad⟩:=Jn hL hi;have b:i<L.size:=by omega
  have x:∀ q,(L.setIfInBounds i true).getD q false=true->∀ j,j∈Jx .any ops q->(L.setIfInBounds i true).getD j false=true:=λq y j hj=>by
   by_cases e:q=i
   ·rw [e] at hj
    exact Xl (Y3 hi hj) b
   ·exact Xl (hC q (X7 y b e) j hj) b
  have l:L.getD i false=false:=by rw [Bw,ad];rfl
  have hN:=λj d v h1 h2 h3=>u.new j d v (Y3 hi (List.contains_iff_mem.1 h1)) h2 h3
  have hO:Ol ops a0 ds i a:=λs v pt hc c=>u.old s v (λk r=>by
   cases y:L.getD k false with
   | false=>rfl
   | true=>
    have h8:=List.all_eq_true.1 hc k (List.mem_range.2 (by
     rcases B1 k ds.length with q | q
     ·exact q
     ·rw [Bv q] at r;cases r))
    rw [r] at h8;simp only [bne_self_eq_false,Bool.false_or] at h8;have h7:=reach_on hC pt k (hC k y) h8;rw [l] at h7;cases h7) c
  by_cases eA:i=A
  ·subst eA
   rw [l] at f;obtain ⟨o,d,v,ho,hd,hv,hw⟩:=hA
   have z:L.getD B false=false/\P0 w:=by
    cases y:L.getD B false with
    | false=>rw [y] at f;exact ⟨rfl,f⟩
    | true=>rw [y] at f;exact f.elim
   refine wpOp_mono (λa' w' c=>?_) (hw a w hN hO z.2);obtain ⟨rfl,c⟩:=c;refine ⟨x,u.put r b hd hv,?_⟩;rw [Z2p b];by_cases e:i=B
   ·subst e
    rw [Z2p b];rw [if_pos rfl] at c;exact c
   ·rw [Z17 L i B b,z.1]
    rw [if_neg e] at c;simp [show ¬ B=i from λq=>e q.symm,e,c]
  ·by_cases eB:i=B
   ·subst eB
    rw [l] at f;have t:A≠i:=λe=>eA e.symm
    have ac:=reach_on hC pt i (λj hj=>Y3 hi hj) (af.resolve_left t);rw [ac] at f;have ae:P1 w:=by simpa [t] using f
    obtain ⟨o,d,v,ho,hd,hv,hw⟩:=hB.resolve_left t;refine wpOp_mono (λa' w' c=>?_) (hw a w hN hO ae);obtain ⟨rfl,c⟩:=c;refine ⟨x,u.put r b hd hv,?_⟩;rw [Z2p b,Xl ac b];exact c
   ·obtain ⟨o,v,ho,hg,hd,hv,hw⟩:=hp i (by omega) eA eB
    refine Zs ho hg (hw a w _ hN hO (hT f) ⟨x,u.put r b hd hv,?_⟩);rw [Z17 L i A b,Z17 L i B b];simpa [show ¬ A=i from λq=>eA q.symm,show ¬ B=i from λq=>eB q.symm] using f
 ·rintro L a w hL hr ⟨hC,u,f⟩
  have g:=Z39 hL hr ab;rw [g A (by omega),g B (by omega)] at f;exact aa a w L (λj hj=>g j (by omega)) u f
end
section
variable {ops:Array Oper} {ds:List (Option Nat)} {Φ:List (Af->Ag->Prop)} {a0 a:Bn} {w0 w w':Ag} {L:Array Bool} {Q:Exit->Bn->Ag->Prop} {n m:Nat}
def Sta (p:Af->Ag->Prop):Prop:=∀ v w w',Ai w.heap.size w w'->p v w->p v w'
def Vl (v:Af):Af->Ag->Prop:=λu _=>u=v
theorem X9 (v:Af):Sta (Vl v):=λ_ _ _ _ h=>h
theorem sta_n:∀ p,p∈([]:List (Af->Ag->Prop))->Sta p:=λp h=>by cases h
variable {p:Af->Ag->Prop}
theorem Yk {t:List (Af->Ag->Prop)}(h:Sta p)(b:∀ q,q∈t->Sta q):∀ q,q∈p :: t->Sta q:=λq hq=>by
 rcases List.mem_cons.1 hq with e | e
 ·rw [e];exact h
 ·exact b q e
structure RG (a0:Bn) (ds:List (Option Nat)) (Φ:List (Af->Ag->Prop)) (L:Array Bool) (a:Bn) (w:Ag):Prop where
 sz:a.tmps.size=a0.tmps.size
 df:a.defers=a0.defers
 old:∀ s v,ds.contains (Ac s)=false->a0.eval (.tmp s)=v->a.eval (.tmp s)=v
 new:∀ j d p,L.getD j false=true->ds[j]? = Ac (Ac d)->Φ[j]? = Ac p->p (a.eval (.tmp d)) w
variable {i:Nat}{v:Af}
theorem RG.put (f:rfOk ds a0.tmps.size=true)(h:RG a0 ds Φ L a w)(c:∀ p,p∈Φ->∀ v,p v w->p v w')(hi:i<L.size){d:Option Nat}(hd:ds[i]? = Ac d)(g:Φ[i]? = Ac p)(k:p v w'):RG a0 ds Φ (L.setIfInBounds i true) (a.put d v) w':=by
 cases d with
 | none=>
  refine ⟨h.sz,h.df,h.old,λj d p' h1 h2 h3=>c p' (List.mem_of_getElem? h3) _ (h.new j d p' (X7 h1 hi (λe=>?_)) h2 h3)⟩;rw [e,hd] at h2;cases h2
 | some d=>
  have b:d<a.tmps.size:=h.sz▸(rfOk_at f hd).1
  refine ⟨by show (a.tmps.setIfInBounds d v).size=_;rw [Array.size_setIfInBounds];exact h.sz,h.df,λs u h1 h2=>?_,λj d' q h1 h2 h3=>?_⟩
  ·rw [Z64 a d s v b,if_neg (λe=>?_)]
   ·exact h.old s u h1 h2
   ·have l:=List.contains_iff_mem.2 (List.mem_of_getElem? hd)
    rw [e] at h1;rw [l] at h1;cases h1
  ·rw [Z64 a d d' v b]
   by_cases e:d'=d
   ·rw [if_pos e]
    rw [e] at h2;rw [<-rf_one f hd h2,g] at h3;injection h3 with h3;rw [<-h3];exact k
   ·rw [if_neg e]
    refine c q (List.mem_of_getElem? h3) _ (h.new j d' q (X7 h1 hi (λe2=>e ?_)) h2 h3);rw [e2,hd] at h2;injection h2 with h2;injection h2 with h2;exact h2.symm
def Ngs (ops:Array Oper)(ds:List (Option Nat))(Φ:List (Af->Ag->Prop))(i:Nat)(a:Bn)(w:Ag):Prop:=∀ j d p,(Jx .any ops i).contains j=true->ds[j]? = Ac (Ac d)->Φ[j]? = Ac p->p (a.eval (.tmp d)) w
def Olg (a0:Bn)(ds:List (Option Nat))(a:Bn):Prop:=∀ s v,ds.contains (Ac s)=false->a0.eval (.tmp s)=v->a.eval (.tmp s)=v
def QO (ops:Array Oper)(ds:List (Option Nat))(Φ:List (Af->Ag->Prop))(a0:Bn)(w0:Ag)(Q:Exit->Bn->Ag->Prop)(i:Nat):Prop:=∃ o p,ops[i]? = Ac o/\o.guard=Ab/\ds[i]? = Ac o.dst/\Φ[i]? = Ac p/\∀ a w K,Ngs ops ds Φ i a w->Olg a0 ds a->Ai w0.heap.size w0 w->(∀ v w',Ai w.heap.size w w'->p v w'->K (a.put o.dst v) w')->o.wp Ad a w K Q
variable {o:Oper}
theorem QO.val (h:∀ a w,Ngs ops ds Φ i a w->Olg a0 ds a->Ai w0.heap.size w0 w->(execOp a.eval o).run Ad w=.ok (.value v) w)(d:ops[i]? = Ac o:=by exact rfl)(e:o.guard=Ab:=by exact rfl)(c:ds[i]? = Ac o.dst:=by exact rfl)(f:Φ[i]? = Ac (Vl v):=by exact rfl):QO ops ds Φ a0 w0 Q i:=
 ⟨o,_,d,e,c,f,λa w K n o b k=>Z0z (h a w n o b) (k v w (An _ _) rfl)⟩
variable {s:Nat}
theorem QO.move (e:ops[i]? = Ac o)(f:o.guard=Ab)(d:ds[i]? = Ac o.dst)(g:Φ[i]? = Ac (Vl v))(c:o.op=.move (.tmp s)∨o.op=.assign (.tmp s))(h:∀ a,Olg a0 ds a->a.eval (.tmp s)=v):QO ops ds Φ a0 w0 Q i:=
 ⟨o,_,e,f,d,g,λa w K n o b k=>Z0s _ c (k _ w (An _ _) (h a o))⟩
theorem QO.load {b:Nat}{ty:Ax}{C:Array Af}{t:Ax}{d:TypeDesc}{z:Nat}(j:ops[i]? = Ac o)(l:o.guard=Ab)(q:ds[i]? = Ac o.dst)(r:Φ[i]? = Ac (Vl (Aw C)))(h:o.op=.load ty (.tmp s))(f:∀ a,Olg a0 ds a->a.eval (.tmp s)=Ae (Ac ⟨b,0,Ab⟩))(c:Blk w0 b C t)(e:Tryz.prog.underlying ty=Ac d)(hd:d.isRow=true)(hi:(Tryz.prog.info? ty).map (·.size)=Ac z)(g:z=C.size):QO ops ds Φ a0 w0 Q i:=
 ⟨o,_,j,l,q,r,λa w K n o be k=>Z71 ty _ h b (f a o) (c.below be c.lt) e hd hi g (k _ w (An _ _) rfl)⟩
theorem QO.alloc (T:Ax)(Z:Array Af)(f:ops[i]? = Ac o)(g:o.guard=Ab)(e:ds[i]? = Ac o.dst)(j:Φ[i]? = Ac p)(d:o.op=.alloc T)(c:∀ u:Ag,(Instr.alloc T true (.tuple #[])).run Ad u=.ok (Ae (Ac ⟨u.heap.size,0,Ab⟩)) (u.alloc (At Z T)))(h:∀ w,Ai w0.heap.size w0 w->p (Ae (Ac ⟨w.heap.size,0,Ab⟩)) (w.alloc (At Z T))):QO ops ds Φ a0 w0 Q i:=
 ⟨o,_,f,g,e,j,λa w K n o b k=>Z74 T Z d c (k _ _ baq (h w b))⟩
theorem QO.call {N:FuncId}{c:Array Operand}{r:Array Ax}(j:ops[i]? = Ac o)(l:o.guard=Ab)(h:ds[i]? = Ac o.dst)(t:Φ[i]? = Ac p)(g:o.op=.call ⟨.value (.func N),c,r⟩)(f:∀ args w,(callFunc N args).run Ad w=.ok (.enter N args) w)(d:∀ a w,Ngs ops ds Φ i a w->Olg a0 ds a->Ai w0.heap.size w0 w->Ar Ad N (c.map a.eval) w λe w'=>Ai w.heap.size w w'/\∃ v,e=.returned v/\p v w'):QO ops ds Φ a0 w0 Q i:=
 ⟨o,_,j,l,h,t,λa w K n o b k=>Yg g f _ rfl ((d a w n o b).mono λe w' ⟨q,v,e1,e2⟩=>⟨v,e1,k v w' q e2⟩)⟩
def cov (ops:Array Oper):Nat->List Nat->List Nat
 | 0,S=>S
 | i+1,S=>if S.contains i then cov ops i (Jx .any ops i ++ S) else cov ops i S
theorem cov_on {l:Nat}(b:∀ i,L.getD i false=true->∀ j,j∈Jx .any ops i->L.getD j false=true)(c:∀ j,j∈Jx .any ops l->L.getD j false=true):∀(i:Nat) (S:List Nat),(∀ j,j∈S->j=l∨L.getD j false=true)->∀ j,j∈cov ops i S->j=l∨L.getD j false=true
 | 0,S,h=>h
 | i+1,S,h=>by
  rw [cov];split
  ·rename_i h9
   refine cov_on b c i _ λj hj=>?_
   rcases List.mem_append.1 hj with hj | hj
   ·rcases h i (List.contains_iff_mem.1 h9) with e | e
    ·rw [e] at hj;exact .inr (c j hj)
    ·exact .inr (b i e j hj)
   ·exact h j hj
  ·exact cov_on b c i S h
theorem Z3q {id:Nat}(ds:List (Option Nat))(Φ:List (Af->Ag->Prop))(hm:Tryz.prog.follows .mixedOrders=true)(hn:ops.size=n+1)(hz:a0.tmps.size=m)(hk:rfOk ds m=true)(t:(List.range n).all (λi=>(cov ops (n+1) [n]).contains i)=true)(k:(List.range ops.size).all (λi=>(Jx .any ops i).all (· < i))=true)
  (aa:∀ p,p∈Φ->Sta p)
  (u:∀ i,i<n->QO ops ds Φ a0 w0 Q i)
  (hl:∀ a w,(∀ j d p,j<n->ds[j]? = Ac (Ac d)->Φ[j]? = Ac p->p (a.eval (.tmp d)) w)->Olg a0 ds a->a.tmps.size=a0.tmps.size->a.defers=a0.defers->Ai w0.heap.size w0 w->wpOp Ad ops Q n (λa' w'=>Q .normal a' w') a w):(Code.region id ops true).wp Ad Q a0 w0:=by
 subst hz;have y:Ai w0.heap.size w0 w0.drew:=(An _ _).drew;refine Z2w hm (λL a w=>(∀ j,j<n+1->L.getD j false=true)/\Q .normal a w∨(L.getD n false=false/\(∀ i,L.getD i false=true->∀ j,j∈Jx .any ops i->L.getD j false=true)/\RG a0 ds Φ L a w/\Ai w0.heap.size w0 w)) (.inr ⟨?_,λi h=>(Z0g h).elim,⟨rfl,rfl,λs v _ h=>h,λj d p h=>(Z0g h).elim⟩,y⟩) ?_ ?_
 ·cases g:(Array.replicate ops.size false).getD n false with
  | false=>rfl
  | true=>exact (Z0g g).elim
 ·rintro L a w i hL hi z
  obtain ⟨ac,x⟩:=Jn hL hi;have b:i<L.size:=by omega
  have f:L.getD i false=false:=by rw [Bw,x];rfl
  rcases z with ⟨hd,hq⟩ | ⟨hd,hC,hR,hB⟩
  ·rw [hd i (by omega)] at f
   cases f
  ·have ab:=hB
   by_cases en:i=n
   ·subst en
    have c:∀ j,j<i->L.getD j false=true:=λj hj=>by
     have h8:=List.all_eq_true.1 t j (List.mem_range.2 hj);rcases cov_on hC (λj hj=>Y3 hi hj) (i+1) [i] (λj hj=>.inl (List.mem_singleton.1 hj)) j (List.contains_iff_mem.1 h8) with e | e
     ·omega
     ·exact e
    refine wpOp_mono (λa' w' g=>.inl ⟨λj hj=>?_,g⟩) (hl a w (λj d p h1 h2 h3=>hR.new j d p (c j h1) h2 h3) hR.old hR.sz hR.df ab);rcases B1 j i with q | q
    ·exact Xl (c j q) b
    ·rw [show j=i by omega];exact Z2p b
   ·obtain ⟨o,p,ho,hg,l,r,hw⟩:=u i (by omega)
    refine Zs ho hg (hw a w _ (λj d p h1 h2 h3=>hR.new j d p (Y3 hi (List.contains_iff_mem.1 h1)) h2 h3) hR.old hB λv w' hb hv=>.inr ⟨?_,λq hq j hj=>?_,hR.put hk (λp u v g=>aa p u v w w' hb g) b l r hv,hB.trans (hb.mono hB.size)⟩)
    ·rw [Z17 L i n b,hd]
     simp [show ¬ n=i from λe=>en e.symm]
    ·by_cases e:q=i
     ·rw [e] at hj
      exact Xl (Y3 hi hj) b
     ·exact Xl (hC q (X7 hq b e) j hj) b
 ·rintro L a w hL hr z
  rcases z with ⟨_,hq⟩ | ⟨hd,_⟩
  ·exact hq
  ·rw [Z39 hL hr k n (by omega)] at hd
   cases hd
end
def Z4v (cl sq op k v o:Int):Int:=if Z13 cl sq op k v o=0/\op=0 then 1 else Z13 cl sq op k v o
theorem callFault_any (cl sq op:Int)(k v o:ByteArray)(d:k.size<=maxLen)(f:v.size<=maxLen)(g:o.size<=maxLen)(w:Ag) :
  Ar Ad 136 #[Aw (cqN cl sq op k v o)] w λe w'=>
   e=Aj (Aa O (Z4v cl sq op k.size v.size o.size))/\Ai w.heap.size w w':=by
 by_cases b:Z13 cl sq op k.size v.size o.size=0
 ·by_cases c:op=0
  ·have e:Z4v cl sq op k.size v.size o.size=1:=by rw [Z4v,if_pos ⟨b,c⟩]
   rw [e];subst c;go_enter func136,ntmps136
   go_wp2_with (go_at_call 144;refine (Z08 cl sq 0 k v o d f g _).mono ?_;rintro e l ⟨rfl,a⟩;obtain ⟨j,i⟩:=Z1d a)
   go_ret;exact ⟨rfl,baq.trans (a.mono (by simp))⟩
  ·have e:Z4v cl sq op k.size v.size o.size=0:=by rw [Z4v,if_neg (λh=>c h.2),b]
   have p:(op == 0)=false:=by simpa using c
   rw [e];go_enter func136,ntmps136
   go_wp2_with (go_at_call 144;refine (Z08 cl sq op k v o d f g _).mono ?_;rintro e l ⟨rfl,a⟩;obtain ⟨j,i⟩:=Z1d a)
   go_ret;exact ⟨rfl,baq.trans (a.mono (by simp))⟩
 ·have e:Z4v cl sq op k.size v.size o.size=Z13 cl sq op k.size v.size o.size:=by rw [Z4v,if_neg (λh=>b h.1)]
  rw [e];generalize hX:Z13 cl sq op k.size v.size o.size=X at b;have m:=Z0 hX;have n:(X == 0)=false:=by simpa using b
  clear hX;go_enter func136,ntmps136
  go_wp2_with (go_at_call 144;refine (Z08 cl sq op k v o d f g _).mono ?_;rintro e l ⟨rfl,a⟩;rw [m.out];obtain ⟨j,i⟩:=Z1d a)
  go_ret;exact ⟨rfl,baq.trans (a.mono (by simp))⟩
variable {w:Ag}
theorem Z55 {P:Program}{b:Array Oper}{rest:List Oper}{o:Oper}{a:Bn}{Q:Exit->Bn->Ag->Prop}(ty:Ax)(x y:Operand)(c:o.op=.store ty x y)
  (h:wpList P b Q (o :: rest) a w):wpList P b Q (o :: rest) a w:=h
theorem Z0r {b n:Nat}(h:w.there b 0 n)(o k:Nat)(a:o+k<=n):w.there b o k:=λj hj=>by
 have:=h (o+j) (by omega)
 rwa [Nat.zero_add] at this
end Go.Proofs.YtmmpoppgabadmaaGreat
