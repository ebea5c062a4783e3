import Derived.Test.YtmmpoppgabadmaaGreatG10
set_option linter.unusedVariables false
set_option linter.unusedSimpArgs false
set_option maxRecDepth 100000
set_option maxHeartbeats 16000000
namespace Go.Proofs.YtmmpoppgabadmaaGreat
open Go.RowKit
theorem df5 {w0:World}{g k b3 b4 b5:Nat}{v:Value}{l:List Int}{n:Nd}{xr:RV}{m:Mg}{ve:Value}(hL:l.length<=1048576)(hk:k<=890000000)(hsz:3<=n.sz/\n.sz<=7)(hid:1<=n.id/\n.id<=n.sz){Q:Exit->Act->World->Prop}{K:Act->World->Prop}{a:Act}{w:World}(hF:SzD a 343)(h0:a.eval (.tmp 0)=.pointer (some ⟨g,0,none⟩))(h3:a.eval (.tmp 3)=.pointer (some ⟨b3,0,none⟩))(h4:a.eval (.tmp 4)=.pointer (some ⟨b4,0,none⟩))(h5:a.eval (.tmp 5)=.pointer (some ⟨b5,0,none⟩))(hS:FS w0 w g v l b3 b4 b5 n xr k m ve)(hP:∀ a' w',SzD a' 343->a'.eval (.tmp 0)=.pointer (some ⟨g,0,none⟩)->a'.eval (.tmp 3)=.pointer (some ⟨b3,0,none⟩)->a'.eval (.tmp 4)=.pointer (some ⟨b4,0,none⟩)->a'.eval (.tmp 5)=.pointer (some ⟨b5,0,none⟩)->FS w0 w' g v l b3 b4 b5 n xr (k+1) { m with fr:=1+(n.id+(Z5 l k (n.sz.toNat-1):Nat))%n.sz } ve->K a' w'):(Z1 4 (Z3 Tryz.f54)).wp Tryz.prog (Exit.then K Q) a w:=by
 obtain ⟨M,hM⟩:∃ q,q=n.sz.toNat-1:=⟨_,rfl⟩;rw [<-hM] at hP;have hM1:(M:Int)=n.sz-1:=by omega
 have hM2:M<=6/\0<M:=by omega
 obtain ⟨p,hp⟩:∃ p,p=Z5 l k M:=⟨_,rfl⟩;have Hp:Hid (p=Z5 l k M):=hp;rw [<-hp] at hP;have bp:p<M:=by rw [hp];exact Zf _ _ _ (by omega)
 clear hp hM;have hz0:¬ n.sz=0:=by omega
 have htm:(n.id+(p:Int)).tmod n.sz=(n.id+(p:Int))%n.sz:=Int.tmod_eq_emod_of_nonneg (by omega);have q1:=Int.emod_nonneg (n.id+(p:Int)) hz0;have q2:=Int.emod_lt_of_pos (n.id+(p:Int)) (show 0<n.sz by omega);obtain ⟨y,hy⟩:∃ y,y=(n.id+(p:Int))%n.sz:=⟨_,rfl⟩;rw [<-hy] at htm q1 q2 hP;have Hy:Hid (y=(n.id+(p:Int))%n.sz):=hy;clear hy
 conv=>arg 2;whnf
 refine Xg (fun a0=>a0.tmps.size=343/\a0.eval (.tmp 0)=.pointer (some ⟨g,0,none⟩)/\a0.eval (.tmp 3)=.pointer (some ⟨b3,0,none⟩)/\a0.eval (.tmp 5)=.pointer (some ⟨b5,0,none⟩)) (fun a0 aF w'=>∃ x:Nat->Value,aF=frame a0 [24,25,26,27,28,29,30,31,32,33,34,35,36] x/\(FS w0 w' g v l b3 b4 b5 n xr (k+1) { m with fr:=1+y } ve)) ?_ ⟨hF.1,h0,h3,h5⟩ ?_
 ·rintro a0 ⟨hsz0,e0,e3,e5⟩
  refine Y7 (by kernel_rfl) (fun L aF w'=>∃ x:Nat->Value,aF=frame a0 [24,25,26,27,28,29,30,31,32,33,34,35,36] x/\(St3 (fun W=>FS w0 W g v l b3 b4 b5 n xr k m ve) (fun W=>FS w0 W g v l b3 b4 b5 n xr (k+1) m ve) (fun W=>FS w0 W g v l b3 b4 b5 n xr (k+1) { m with fr:=1+y } ve)) (L.getD 6 false) (L.getD 13 false) w'/\(L.getD 0 false=true->x 24=.pointer (some ⟨b3,0,none⟩))/\(L.getD 1 false=true->x 25=.int .i64 n.id)/\(L.getD 2 false=true->x 26=.pointer (some ⟨g,0,none⟩))/\(L.getD 3 false=true->x 27=.pointer (some ⟨b3,1,none⟩))/\(L.getD 4 false=true->x 28=.int .i64 n.sz)/\(L.getD 5 false=true->x 29=.int .i64 (M:Int))/\(L.getD 6 false=true->x 30=.int .i64 (p:Int))/\(L.getD 7 false=true->x 31=.int .i64 (n.id+(p:Int))/\L.getD 6 false=true)/\(L.getD 8 false=true->x 32=.pointer (some ⟨b3,1,none⟩))/\(L.getD 9 false=true->x 33=.int .i64 n.sz)/\(L.getD 10 false=true->x 34=.int .i64 y/\L.getD 6 false=true)/\(L.getD 11 false=true->x 35=.int .i64 (1+y)/\L.getD 6 false=true)/\(L.getD 12 false=true->x 36=.pointer (some ⟨b5,1,none⟩))/\(L.getD 13 false=true->True)) ?_ ?_ ?_
  ·refine ⟨_,Yk a0 [24,25,26,27,28,29,30,31,32,33,34,35,36],?_,fun h=>(Zl h).elim,fun h=>(Zl h).elim,fun h=>(Zl h).elim,fun h=>(Zl h).elim,fun h=>(Zl h).elim,fun h=>(Zl h).elim,fun h=>(Zl h).elim,fun h=>(Zl h).elim,fun h=>(Zl h).elim,fun h=>(Zl h).elim,fun h=>(Zl h).elim,fun h=>(Zl h).elim,fun h=>(Zl h).elim,fun h=>(Zl h).elim⟩
   rw [Z05,Z05];exact hS.drew
  ·rintro L a w' i hsL hi ⟨x,rfl,hS,h0,h1,h2,h3,h4,h5,h6,h7,h8,h9,h10,h11,h12,h13⟩
   have hlt:∀ j,j<14->j<L.size:=fun j hj=>by rw [hsL];exact hj
   have hsl:∀ j,j<343->j<a0.tmps.size:=fun j hj=>by rw [hsz0];exact hj
   have hiL:i<14:=(Zx hsL hi).1;have hLz:L.size=14:=hsL;have hcb30:w'.cell? ⟨b3,0,none⟩=some (.int .i64 n.id):=by refine St3.any (P:=fun W=>W.cell? ⟨b3,0,none⟩=some (.int .i64 n.id)) ?_ ?_ ?_ hS <;> intro W h <;> exact (FS.nb h).cell 0
   have hcb31:w'.cell? ⟨b3,1,none⟩=some (.int .i64 n.sz):=by refine St3.any (P:=fun W=>W.cell? ⟨b3,1,none⟩=some (.int .i64 n.sz)) ?_ ?_ ?_ hS <;> intro W h <;> exact (FS.nb h).cell 1
   rcases (show i=0∨i=1∨i=2∨i=3∨i=4∨i=5∨i=6∨i=7∨i=8∨i=9∨i=10∨i=11∨i=12∨i=13 by omega) with rfl | rfl | rfl | rfl | rfl | rfl | rfl | rfl | rfl | rfl | rfl | rfl | rfl | rfl
   ·skip
    have hz:=hlt 0 (by decide);have ev3:(frame a0 [24,25,26,27,28,29,30,31,32,33,34,35,36] x).tmps[3]?.getD undef=.pointer (some ⟨b3,0,none⟩):=by have h:=(Zc a0 [24,25,26,27,28,29,30,31,32,33,34,35,36] x 3 rfl).trans e3;simpa [Act.eval] using h
    refine Z8 rfl rfl (Zd (v:=.pointer (some ⟨b3,0,none⟩)) ?_ ?_)
    ·obtain ⟨aa,haa⟩:∃ aa,aa=frame a0 [24,25,26,27,28,29,30,31,32,33,34,35,36] x:=⟨_,rfl⟩
     rw [<-haa] at ev3 ⊢;clear haa;go_simp
    exact ⟨_,Z9 _ _ _ 24 _ rfl,(by rw [Zp hz (by decide),Zp hz (by decide)];exact hS),fun h=>Zb _ _ _,fun h=>ke2 h1 hz h,fun h=>ke2 h2 hz h,fun h=>ke2 h3 hz h,fun h=>ke2 h4 hz h,fun h=>ke2 h5 hz h,fun h=>ke2 h6 hz h,fun h=>⟨(Z6 _ _ _ _ (by decide)).trans (h7 (kb h hz)).1,Zh (h7 (kb h hz)).2 hz⟩,fun h=>ke2 h8 hz h,fun h=>ke2 h9 hz h,fun h=>⟨(Z6 _ _ _ _ (by decide)).trans (h10 (kb h hz)).1,Zh (h10 (kb h hz)).2 hz⟩,fun h=>⟨(Z6 _ _ _ _ (by decide)).trans (h11 (kb h hz)).1,Zh (h11 (kb h hz)).2 hz⟩,fun h=>ke2 h12 hz h,fun h=>trivial⟩
   ·have d0:=h0 (Z7 hi (by decide))
    have hz:=hlt 1 (by decide);have ev24:(frame a0 [24,25,26,27,28,29,30,31,32,33,34,35,36] x).tmps[24]?.getD undef=.pointer (some ⟨b3,0,none⟩):=by have h:=(Z4 a0 [24,25,26,27,28,29,30,31,32,33,34,35,36] x 24 rfl (hsl 24 (by decide))).trans d0;simpa [Act.eval] using h
    refine Z8 rfl rfl (Zd (v:=.int .i64 n.id) ?_ ?_)
    ·obtain ⟨aa,haa⟩:∃ aa,aa=frame a0 [24,25,26,27,28,29,30,31,32,33,34,35,36] x:=⟨_,rfl⟩
     rw [<-haa] at ev24 ⊢;clear haa;go_simp
    exact ⟨_,Z9 _ _ _ 25 _ rfl,(by rw [Zp hz (by decide),Zp hz (by decide)];exact hS),fun h=>ke2 h0 hz h,fun h=>Zb _ _ _,fun h=>ke2 h2 hz h,fun h=>ke2 h3 hz h,fun h=>ke2 h4 hz h,fun h=>ke2 h5 hz h,fun h=>ke2 h6 hz h,fun h=>⟨(Z6 _ _ _ _ (by decide)).trans (h7 (kb h hz)).1,Zh (h7 (kb h hz)).2 hz⟩,fun h=>ke2 h8 hz h,fun h=>ke2 h9 hz h,fun h=>⟨(Z6 _ _ _ _ (by decide)).trans (h10 (kb h hz)).1,Zh (h10 (kb h hz)).2 hz⟩,fun h=>⟨(Z6 _ _ _ _ (by decide)).trans (h11 (kb h hz)).1,Zh (h11 (kb h hz)).2 hz⟩,fun h=>ke2 h12 hz h,fun h=>trivial⟩
   ·skip
    have hz:=hlt 2 (by decide);refine Z8 rfl rfl (Y0 (.tmp 0) (Or.inl rfl) ?_);rw [Zc _ _ _ 0 rfl,e0];exact ⟨_,Z9 _ _ _ 26 _ rfl,(by rw [Zp hz (by decide),Zp hz (by decide)];exact hS),fun h=>ke2 h0 hz h,fun h=>ke2 h1 hz h,fun h=>Zb _ _ _,fun h=>ke2 h3 hz h,fun h=>ke2 h4 hz h,fun h=>ke2 h5 hz h,fun h=>ke2 h6 hz h,fun h=>⟨(Z6 _ _ _ _ (by decide)).trans (h7 (kb h hz)).1,Zh (h7 (kb h hz)).2 hz⟩,fun h=>ke2 h8 hz h,fun h=>ke2 h9 hz h,fun h=>⟨(Z6 _ _ _ _ (by decide)).trans (h10 (kb h hz)).1,Zh (h10 (kb h hz)).2 hz⟩,fun h=>⟨(Z6 _ _ _ _ (by decide)).trans (h11 (kb h hz)).1,Zh (h11 (kb h hz)).2 hz⟩,fun h=>ke2 h12 hz h,fun h=>trivial⟩
   ·skip
    have hz:=hlt 3 (by decide);have ev3:(frame a0 [24,25,26,27,28,29,30,31,32,33,34,35,36] x).tmps[3]?.getD undef=.pointer (some ⟨b3,0,none⟩):=by have h:=(Zc a0 [24,25,26,27,28,29,30,31,32,33,34,35,36] x 3 rfl).trans e3;simpa [Act.eval] using h
    refine Z8 rfl rfl (Zd (v:=.pointer (some ⟨b3,1,none⟩)) ?_ ?_)
    ·obtain ⟨aa,haa⟩:∃ aa,aa=frame a0 [24,25,26,27,28,29,30,31,32,33,34,35,36] x:=⟨_,rfl⟩
     rw [<-haa] at ev3 ⊢;clear haa;go_simp
    exact ⟨_,Z9 _ _ _ 27 _ rfl,(by rw [Zp hz (by decide),Zp hz (by decide)];exact hS),fun h=>ke2 h0 hz h,fun h=>ke2 h1 hz h,fun h=>ke2 h2 hz h,fun h=>Zb _ _ _,fun h=>ke2 h4 hz h,fun h=>ke2 h5 hz h,fun h=>ke2 h6 hz h,fun h=>⟨(Z6 _ _ _ _ (by decide)).trans (h7 (kb h hz)).1,Zh (h7 (kb h hz)).2 hz⟩,fun h=>ke2 h8 hz h,fun h=>ke2 h9 hz h,fun h=>⟨(Z6 _ _ _ _ (by decide)).trans (h10 (kb h hz)).1,Zh (h10 (kb h hz)).2 hz⟩,fun h=>⟨(Z6 _ _ _ _ (by decide)).trans (h11 (kb h hz)).1,Zh (h11 (kb h hz)).2 hz⟩,fun h=>ke2 h12 hz h,fun h=>trivial⟩
   ·have d3:=h3 (Z7 hi (by decide))
    have hz:=hlt 4 (by decide);have ev27:(frame a0 [24,25,26,27,28,29,30,31,32,33,34,35,36] x).tmps[27]?.getD undef=.pointer (some ⟨b3,1,none⟩):=by have h:=(Z4 a0 [24,25,26,27,28,29,30,31,32,33,34,35,36] x 27 rfl (hsl 27 (by decide))).trans d3;simpa [Act.eval] using h
    refine Z8 rfl rfl (Zd (v:=.int .i64 n.sz) ?_ ?_)
    ·obtain ⟨aa,haa⟩:∃ aa,aa=frame a0 [24,25,26,27,28,29,30,31,32,33,34,35,36] x:=⟨_,rfl⟩
     rw [<-haa] at ev27 ⊢;clear haa;go_simp
    exact ⟨_,Z9 _ _ _ 28 _ rfl,(by rw [Zp hz (by decide),Zp hz (by decide)];exact hS),fun h=>ke2 h0 hz h,fun h=>ke2 h1 hz h,fun h=>ke2 h2 hz h,fun h=>ke2 h3 hz h,fun h=>Zb _ _ _,fun h=>ke2 h5 hz h,fun h=>ke2 h6 hz h,fun h=>⟨(Z6 _ _ _ _ (by decide)).trans (h7 (kb h hz)).1,Zh (h7 (kb h hz)).2 hz⟩,fun h=>ke2 h8 hz h,fun h=>ke2 h9 hz h,fun h=>⟨(Z6 _ _ _ _ (by decide)).trans (h10 (kb h hz)).1,Zh (h10 (kb h hz)).2 hz⟩,fun h=>⟨(Z6 _ _ _ _ (by decide)).trans (h11 (kb h hz)).1,Zh (h11 (kb h hz)).2 hz⟩,fun h=>ke2 h12 hz h,fun h=>trivial⟩
   ·have d4:=h4 (Z7 hi (by decide))
    have hz:=hlt 5 (by decide);have ev28:(frame a0 [24,25,26,27,28,29,30,31,32,33,34,35,36] x).tmps[28]?.getD undef=.int .i64 n.sz:=by have h:=(Z4 a0 [24,25,26,27,28,29,30,31,32,33,34,35,36] x 28 rfl (hsl 28 (by decide))).trans d4;simpa [Act.eval] using h
    refine Z8 rfl rfl (Zd (v:=.int .i64 (M:Int)) ?_ ?_)
    ·obtain ⟨aa,haa⟩:∃ aa,aa=frame a0 [24,25,26,27,28,29,30,31,32,33,34,35,36] x:=⟨_,rfl⟩
     rw [<-haa] at ev28 ⊢;clear haa;go_simp;rw [IntKind.wrap_i64];omega
    exact ⟨_,Z9 _ _ _ 29 _ rfl,(by rw [Zp hz (by decide),Zp hz (by decide)];exact hS),fun h=>ke2 h0 hz h,fun h=>ke2 h1 hz h,fun h=>ke2 h2 hz h,fun h=>ke2 h3 hz h,fun h=>ke2 h4 hz h,fun h=>Zb _ _ _,fun h=>ke2 h6 hz h,fun h=>⟨(Z6 _ _ _ _ (by decide)).trans (h7 (kb h hz)).1,Zh (h7 (kb h hz)).2 hz⟩,fun h=>ke2 h8 hz h,fun h=>ke2 h9 hz h,fun h=>⟨(Z6 _ _ _ _ (by decide)).trans (h10 (kb h hz)).1,Zh (h10 (kb h hz)).2 hz⟩,fun h=>⟨(Z6 _ _ _ _ (by decide)).trans (h11 (kb h hz)).1,Zh (h11 (kb h hz)).2 hz⟩,fun h=>ke2 h12 hz h,fun h=>trivial⟩
   ·have d2:=h2 (Z7 hi (by decide))
    have d5:=h5 (Z7 hi (by decide));have hz:=hlt 6 (by decide);have ev26:=(Z4 a0 [24,25,26,27,28,29,30,31,32,33,34,35,36] x 26 rfl (hsl 26 (by decide))).trans d2;have ev29:=(Z4 a0 [24,25,26,27,28,29,30,31,32,33,34,35,36] x 29 rfl (hsl 29 (by decide))).trans d5;refine Z8 rfl rfl (Y4 (N:=53) rfl (fun _ _=>by go_simp) #[.pointer (some ⟨g,0,none⟩),.int .i64 (M:Int)] (by simp only [List.map_toArray,List.map_cons,List.map_nil,ev26,ev29]) ?_);have hb6:L.getD 6 false=false:=by have h9:=(Zx hsL hi).2;rw [Array.getD_eq_getD_getElem?,h9];rfl
    rw [hb6] at hS;obtain ⟨hb13,hS0⟩:=hS.fst;refine Calls.mono (FS.pick1 hS0 M hL (by omega) (by omega) (by omega)) ?_;rw [<-Hp.out];rintro e w2 ⟨rfl,hd⟩;refine ⟨_,rfl,?_⟩;exact ⟨_,Z9 _ _ _ 30 _ rfl,(by rw [Yo hz,Zp hz (by decide),hb13];exact hd),fun h=>ke2 h0 hz h,fun h=>ke2 h1 hz h,fun h=>ke2 h2 hz h,fun h=>ke2 h3 hz h,fun h=>ke2 h4 hz h,fun h=>ke2 h5 hz h,fun h=>Zb _ _ _,fun h=>⟨(Z6 _ _ _ _ (by decide)).trans (h7 (kb h hz)).1,Zh (h7 (kb h hz)).2 hz⟩,fun h=>ke2 h8 hz h,fun h=>ke2 h9 hz h,fun h=>⟨(Z6 _ _ _ _ (by decide)).trans (h10 (kb h hz)).1,Zh (h10 (kb h hz)).2 hz⟩,fun h=>⟨(Z6 _ _ _ _ (by decide)).trans (h11 (kb h hz)).1,Zh (h11 (kb h hz)).2 hz⟩,fun h=>ke2 h12 hz h,fun h=>trivial⟩
   ·have d1:=h1 (Z7 hi (by decide))
    have d6:=h6 (Z7 hi (by decide));have hz:=hlt 7 (by decide);have ev25:(frame a0 [24,25,26,27,28,29,30,31,32,33,34,35,36] x).tmps[25]?.getD undef=.int .i64 n.id:=by have h:=(Z4 a0 [24,25,26,27,28,29,30,31,32,33,34,35,36] x 25 rfl (hsl 25 (by decide))).trans d1;simpa [Act.eval] using h
    have ev30:(frame a0 [24,25,26,27,28,29,30,31,32,33,34,35,36] x).tmps[30]?.getD undef=.int .i64 (p:Int):=by have h:=(Z4 a0 [24,25,26,27,28,29,30,31,32,33,34,35,36] x 30 rfl (hsl 30 (by decide))).trans d6;simpa [Act.eval] using h
    refine Z8 rfl rfl (Zd (v:=.int .i64 (n.id+(p:Int))) ?_ ?_)
    ·obtain ⟨aa,haa⟩:∃ aa,aa=frame a0 [24,25,26,27,28,29,30,31,32,33,34,35,36] x:=⟨_,rfl⟩
     rw [<-haa] at ev25 ev30 ⊢;clear haa;go_simp;rw [IntKind.wrap_i64];omega
    exact ⟨_,Z9 _ _ _ 31 _ rfl,(by rw [Zp hz (by decide),Zp hz (by decide)];exact hS),fun h=>ke2 h0 hz h,fun h=>ke2 h1 hz h,fun h=>ke2 h2 hz h,fun h=>ke2 h3 hz h,fun h=>ke2 h4 hz h,fun h=>ke2 h5 hz h,fun h=>ke2 h6 hz h,fun h=>⟨Zb _ _ _,Zh (Z7 hi (j:=6) (by decide)) hz⟩,fun h=>ke2 h8 hz h,fun h=>ke2 h9 hz h,fun h=>⟨(Z6 _ _ _ _ (by decide)).trans (h10 (kb h hz)).1,Zh (h10 (kb h hz)).2 hz⟩,fun h=>⟨(Z6 _ _ _ _ (by decide)).trans (h11 (kb h hz)).1,Zh (h11 (kb h hz)).2 hz⟩,fun h=>ke2 h12 hz h,fun h=>trivial⟩
   ·skip
    have hz:=hlt 8 (by decide);have ev3:(frame a0 [24,25,26,27,28,29,30,31,32,33,34,35,36] x).tmps[3]?.getD undef=.pointer (some ⟨b3,0,none⟩):=by have h:=(Zc a0 [24,25,26,27,28,29,30,31,32,33,34,35,36] x 3 rfl).trans e3;simpa [Act.eval] using h
    refine Z8 rfl rfl (Zd (v:=.pointer (some ⟨b3,1,none⟩)) ?_ ?_)
    ·obtain ⟨aa,haa⟩:∃ aa,aa=frame a0 [24,25,26,27,28,29,30,31,32,33,34,35,36] x:=⟨_,rfl⟩
     rw [<-haa] at ev3 ⊢;clear haa;go_simp
    exact ⟨_,Z9 _ _ _ 32 _ rfl,(by rw [Zp hz (by decide),Zp hz (by decide)];exact hS),fun h=>ke2 h0 hz h,fun h=>ke2 h1 hz h,fun h=>ke2 h2 hz h,fun h=>ke2 h3 hz h,fun h=>ke2 h4 hz h,fun h=>ke2 h5 hz h,fun h=>ke2 h6 hz h,fun h=>⟨(Z6 _ _ _ _ (by decide)).trans (h7 (kb h hz)).1,Zh (h7 (kb h hz)).2 hz⟩,fun h=>Zb _ _ _,fun h=>ke2 h9 hz h,fun h=>⟨(Z6 _ _ _ _ (by decide)).trans (h10 (kb h hz)).1,Zh (h10 (kb h hz)).2 hz⟩,fun h=>⟨(Z6 _ _ _ _ (by decide)).trans (h11 (kb h hz)).1,Zh (h11 (kb h hz)).2 hz⟩,fun h=>ke2 h12 hz h,fun h=>trivial⟩
   ·have d8:=h8 (Z7 hi (by decide))
    have hz:=hlt 9 (by decide);have ev32:(frame a0 [24,25,26,27,28,29,30,31,32,33,34,35,36] x).tmps[32]?.getD undef=.pointer (some ⟨b3,1,none⟩):=by have h:=(Z4 a0 [24,25,26,27,28,29,30,31,32,33,34,35,36] x 32 rfl (hsl 32 (by decide))).trans d8;simpa [Act.eval] using h
    refine Z8 rfl rfl (Zd (v:=.int .i64 n.sz) ?_ ?_)
    ·obtain ⟨aa,haa⟩:∃ aa,aa=frame a0 [24,25,26,27,28,29,30,31,32,33,34,35,36] x:=⟨_,rfl⟩
     rw [<-haa] at ev32 ⊢;clear haa;go_simp
    exact ⟨_,Z9 _ _ _ 33 _ rfl,(by rw [Zp hz (by decide),Zp hz (by decide)];exact hS),fun h=>ke2 h0 hz h,fun h=>ke2 h1 hz h,fun h=>ke2 h2 hz h,fun h=>ke2 h3 hz h,fun h=>ke2 h4 hz h,fun h=>ke2 h5 hz h,fun h=>ke2 h6 hz h,fun h=>⟨(Z6 _ _ _ _ (by decide)).trans (h7 (kb h hz)).1,Zh (h7 (kb h hz)).2 hz⟩,fun h=>ke2 h8 hz h,fun h=>Zb _ _ _,fun h=>⟨(Z6 _ _ _ _ (by decide)).trans (h10 (kb h hz)).1,Zh (h10 (kb h hz)).2 hz⟩,fun h=>⟨(Z6 _ _ _ _ (by decide)).trans (h11 (kb h hz)).1,Zh (h11 (kb h hz)).2 hz⟩,fun h=>ke2 h12 hz h,fun h=>trivial⟩
   ·have d7:=h7 (Z7 hi (by decide))
    have d9:=h9 (Z7 hi (by decide));have hz:=hlt 10 (by decide);have ev31:(frame a0 [24,25,26,27,28,29,30,31,32,33,34,35,36] x).tmps[31]?.getD undef=.int .i64 (n.id+(p:Int)):=by have h:=(Z4 a0 [24,25,26,27,28,29,30,31,32,33,34,35,36] x 31 rfl (hsl 31 (by decide))).trans d7.1;simpa [Act.eval] using h
    have ev33:(frame a0 [24,25,26,27,28,29,30,31,32,33,34,35,36] x).tmps[33]?.getD undef=.int .i64 n.sz:=by have h:=(Z4 a0 [24,25,26,27,28,29,30,31,32,33,34,35,36] x 33 rfl (hsl 33 (by decide))).trans d9;simpa [Act.eval] using h
    refine Z8 rfl rfl (Zd (v:=.int .i64 y) ?_ ?_)
    ·obtain ⟨aa,haa⟩:∃ aa,aa=frame a0 [24,25,26,27,28,29,30,31,32,33,34,35,36] x:=⟨_,rfl⟩
     rw [<-haa] at ev31 ev33 ⊢;clear haa;go_simp
    exact ⟨_,Z9 _ _ _ 34 _ rfl,(by rw [Zp hz (by decide),Zp hz (by decide)];exact hS),fun h=>ke2 h0 hz h,fun h=>ke2 h1 hz h,fun h=>ke2 h2 hz h,fun h=>ke2 h3 hz h,fun h=>ke2 h4 hz h,fun h=>ke2 h5 hz h,fun h=>ke2 h6 hz h,fun h=>⟨(Z6 _ _ _ _ (by decide)).trans (h7 (kb h hz)).1,Zh (h7 (kb h hz)).2 hz⟩,fun h=>ke2 h8 hz h,fun h=>ke2 h9 hz h,fun h=>⟨Zb _ _ _,Zh d7.2 hz⟩,fun h=>⟨(Z6 _ _ _ _ (by decide)).trans (h11 (kb h hz)).1,Zh (h11 (kb h hz)).2 hz⟩,fun h=>ke2 h12 hz h,fun h=>trivial⟩
   ·have d10:=h10 (Z7 hi (by decide))
    have hz:=hlt 11 (by decide);have ev34:(frame a0 [24,25,26,27,28,29,30,31,32,33,34,35,36] x).tmps[34]?.getD undef=.int .i64 y:=by have h:=(Z4 a0 [24,25,26,27,28,29,30,31,32,33,34,35,36] x 34 rfl (hsl 34 (by decide))).trans d10.1;simpa [Act.eval] using h
    refine Z8 rfl rfl (Zd (v:=.int .i64 (1+y)) ?_ ?_)
    ·obtain ⟨aa,haa⟩:∃ aa,aa=frame a0 [24,25,26,27,28,29,30,31,32,33,34,35,36] x:=⟨_,rfl⟩
     rw [<-haa] at ev34 ⊢;clear haa;go_simp;rw [IntKind.wrap_i64];omega
    exact ⟨_,Z9 _ _ _ 35 _ rfl,(by rw [Zp hz (by decide),Zp hz (by decide)];exact hS),fun h=>ke2 h0 hz h,fun h=>ke2 h1 hz h,fun h=>ke2 h2 hz h,fun h=>ke2 h3 hz h,fun h=>ke2 h4 hz h,fun h=>ke2 h5 hz h,fun h=>ke2 h6 hz h,fun h=>⟨(Z6 _ _ _ _ (by decide)).trans (h7 (kb h hz)).1,Zh (h7 (kb h hz)).2 hz⟩,fun h=>ke2 h8 hz h,fun h=>ke2 h9 hz h,fun h=>⟨(Z6 _ _ _ _ (by decide)).trans (h10 (kb h hz)).1,Zh (h10 (kb h hz)).2 hz⟩,fun h=>⟨Zb _ _ _,Zh d10.2 hz⟩,fun h=>ke2 h12 hz h,fun h=>trivial⟩
   ·skip
    have hz:=hlt 12 (by decide);have ev5:(frame a0 [24,25,26,27,28,29,30,31,32,33,34,35,36] x).tmps[5]?.getD undef=.pointer (some ⟨b5,0,none⟩):=by have h:=(Zc a0 [24,25,26,27,28,29,30,31,32,33,34,35,36] x 5 rfl).trans e5;simpa [Act.eval] using h
    refine Z8 rfl rfl (Zd (v:=.pointer (some ⟨b5,1,none⟩)) ?_ ?_)
    ·obtain ⟨aa,haa⟩:∃ aa,aa=frame a0 [24,25,26,27,28,29,30,31,32,33,34,35,36] x:=⟨_,rfl⟩
     rw [<-haa] at ev5 ⊢;clear haa;go_simp
    exact ⟨_,Z9 _ _ _ 36 _ rfl,(by rw [Zp hz (by decide),Zp hz (by decide)];exact hS),fun h=>ke2 h0 hz h,fun h=>ke2 h1 hz h,fun h=>ke2 h2 hz h,fun h=>ke2 h3 hz h,fun h=>ke2 h4 hz h,fun h=>ke2 h5 hz h,fun h=>ke2 h6 hz h,fun h=>⟨(Z6 _ _ _ _ (by decide)).trans (h7 (kb h hz)).1,Zh (h7 (kb h hz)).2 hz⟩,fun h=>ke2 h8 hz h,fun h=>ke2 h9 hz h,fun h=>⟨(Z6 _ _ _ _ (by decide)).trans (h10 (kb h hz)).1,Zh (h10 (kb h hz)).2 hz⟩,fun h=>⟨(Z6 _ _ _ _ (by decide)).trans (h11 (kb h hz)).1,Zh (h11 (kb h hz)).2 hz⟩,fun h=>Zb _ _ _,fun h=>trivial⟩
   ·have d11:=h11 (Z7 hi (by decide))
    have d12:=h12 (Z7 hi (by decide));have hz:=hlt 13 (by decide);have hb13:L.getD 13 false=false:=by have h9:=(Zx hsL hi).2;rw [Array.getD_eq_getD_getElem?,h9];rfl
    have evp:=(Z4 a0 [24,25,26,27,28,29,30,31,32,33,34,35,36] x 36 rfl (hsl 36 (by decide))).trans d12;have evs:=(Z4 a0 [24,25,26,27,28,29,30,31,32,33,34,35,36] x 35 rfl (hsl 35 (by decide))).trans d11.1;have ha6:L.getD 6 false=true:=d11.2;rw [ha6,hb13] at hS;refine Z8 rfl rfl (Z27 (.tmp 36) (.tmp 35) rfl evp evs ((FS.mb hS).cell 1) ((FS.mb hS).free 1) rfl ?_);exact ⟨_,rfl,(by rw [Zp hz (by decide),ha6,Yo hz];exact FS.set hS 1 (by omega) _ rfl rfl),fun h=>ku2 h0 hz h,fun h=>ku2 h1 hz h,fun h=>ku2 h2 hz h,fun h=>ku2 h3 hz h,fun h=>ku2 h4 hz h,fun h=>ku2 h5 hz h,fun h=>ku2 h6 hz h,fun h=>⟨(h7 (kb h hz)).1,Zh (h7 (kb h hz)).2 hz⟩,fun h=>ku2 h8 hz h,fun h=>ku2 h9 hz h,fun h=>⟨(h10 (kb h hz)).1,Zh (h10 (kb h hz)).2 hz⟩,fun h=>⟨(h11 (kb h hz)).1,Zh (h11 (kb h hz)).2 hz⟩,fun h=>ku2 h12 hz h,fun h=>trivial⟩
  ·rintro L a w' hsL hr ⟨x,rfl,hS,h0,h1,h2,h3,h4,h5,h6,h7,h8,h9,h10,h11,h12,h13⟩
   have hall:=Yq hsL hr (by decide);replace h0:=h0 (hall 0 (by decide));replace h1:=h1 (hall 1 (by decide));replace h2:=h2 (hall 2 (by decide));replace h3:=h3 (hall 3 (by decide));replace h4:=h4 (hall 4 (by decide));replace h5:=h5 (hall 5 (by decide));replace h6:=h6 (hall 6 (by decide));replace h7:=h7 (hall 7 (by decide));replace h8:=h8 (hall 8 (by decide));replace h9:=h9 (hall 9 (by decide));replace h10:=h10 (hall 10 (by decide));replace h11:=h11 (hall 11 (by decide));replace h12:=h12 (hall 12 (by decide));replace h13:=h13 (hall 13 (by decide));rw [hall 6 (by decide),hall 13 (by decide)] at hS;exact ⟨rfl,x,rfl,hS⟩
 ·rintro a' w' ⟨x,rfl,hFin⟩
  exact hP _ _ (hF.frame _ _) ((Zc a [24,25,26,27,28,29,30,31,32,33,34,35,36] x 0 rfl).trans h0) ((Zc a [24,25,26,27,28,29,30,31,32,33,34,35,36] x 3 rfl).trans h3) ((Zc a [24,25,26,27,28,29,30,31,32,33,34,35,36] x 4 rfl).trans h4) ((Zc a [24,25,26,27,28,29,30,31,32,33,34,35,36] x 5 rfl).trans h5) hFin
theorem eq1 (q:Nat):((q:Int) == 1)=decide (q=1):=by
 by_cases h:q=1
 ·subst h;rfl
 ·have:¬(q:Int)=1:=by omega
  simp [h,this]
theorem df16 {w0:World}{g k b3 b4 b5:Nat}{v:Value}{l:List Int}{n:Nd}{xr:RV}{m:Mg}{ve:Value}{q:Nat}{e7:Value}(hq:q<=10){Q:Exit->Act->World->Prop}{K:Act->World->Prop}{a:Act}{w:World}(hF:SzD a 343)(h0:a.eval (.tmp 0)=.pointer (some ⟨g,0,none⟩))(h3:a.eval (.tmp 3)=.pointer (some ⟨b3,0,none⟩))(h4:a.eval (.tmp 4)=.pointer (some ⟨b4,0,none⟩))(h5:a.eval (.tmp 5)=.pointer (some ⟨b5,0,none⟩))(h6:a.eval (.tmp 6)=.int .i64 (q:Nat))(h7:a.eval (.tmp 7)=e7)(hS:FS w0 w g v l b3 b4 b5 n xr k m ve)(hP:∀ a' w',SzD a' 343->a'.eval (.tmp 0)=.pointer (some ⟨g,0,none⟩)->a'.eval (.tmp 3)=.pointer (some ⟨b3,0,none⟩)->a'.eval (.tmp 4)=.pointer (some ⟨b4,0,none⟩)->a'.eval (.tmp 5)=.pointer (some ⟨b5,0,none⟩)->a'.eval (.tmp 6)=.int .i64 (q:Nat)->a'.eval (.tmp 7)=e7->a'.eval (.tmp 81)=.bool (decide (q=0))->FS w0 w' g v l b3 b4 b5 n xr k m ve->K a' w'):(Z1 0 (Z1 11 (Z3 Tryz.f54))).wp Tryz.prog (Exit.then K Q) a w:=by
 obtain ⟨t,rfl⟩:=hF.opened;clear hF;rw [Z3z]
 try dsimp only
 rw [show t 0=_ from h0,show t 3=_ from h3,show t 4=_ from h4,show t 5=_ from h5,show t 6=_ from h6,show t 7=_ from h7];clear h0 h3 h4 h5 h6 h7;have HS:Hid (FS w0 w g v l b3 b4 b5 n xr k m ve):=hS;clear hS
 conv=>arg 2;whnf
 go_wp2_with fail
 exact hP _ _ ⟨rfl,rfl⟩ rfl rfl rfl rfl rfl rfl (by simp [Act.eval,beq0]) HS.out
theorem df17 {w0:World}{g k b3 b4 b5:Nat}{v:Value}{l:List Int}{n:Nd}{xr:RV}{m:Mg}{ve:Value}(hL:l.length<=1048576)(hk:k<=890000000)(htm:0<=n.tm/\n.tm<=1073741824){e6:Value}{Q:Exit->Act->World->Prop}{K:Act->World->Prop}{a:Act}{w:World}(hF:SzD a 343)(h0:a.eval (.tmp 0)=.pointer (some ⟨g,0,none⟩))(h3:a.eval (.tmp 3)=.pointer (some ⟨b3,0,none⟩))(h4:a.eval (.tmp 4)=.pointer (some ⟨b4,0,none⟩))(h5:a.eval (.tmp 5)=.pointer (some ⟨b5,0,none⟩))(h6:a.eval (.tmp 6)=e6)(hS:FS w0 w g v l b3 b4 b5 n xr k m ve)(hP:∀ a' w',SzD a' 343->a'.eval (.tmp 0)=.pointer (some ⟨g,0,none⟩)->a'.eval (.tmp 3)=.pointer (some ⟨b3,0,none⟩)->a'.eval (.tmp 4)=.pointer (some ⟨b4,0,none⟩)->a'.eval (.tmp 5)=.pointer (some ⟨b5,0,none⟩)->a'.eval (.tmp 6)=e6->a'.eval (.tmp 7)=.int .i64 (n.tm+1+((Z5 l k 2:Nat):Int))->FS w0 w' g v l b3 b4 b5 n xr (k+1) m ve->K a' w'):(Zj (Z2 1 (Z1 11 (Z3 Tryz.f54)))).wp Tryz.prog (Exit.then K Q) a w:=by
 obtain ⟨p,hp⟩:∃ p,p=Z5 l k 2:=⟨_,rfl⟩;have Hp:Hid (p=Z5 l k 2):=hp;rw [<-hp] at hP;have bp:p<2:=by rw [hp];exact Zf _ _ _ (by omega)
 clear hp
 conv=>arg 2;whnf
 refine Xg (fun a0=>a0.tmps.size=343/\a0.eval (.tmp 0)=.pointer (some ⟨g,0,none⟩)/\a0.eval (.tmp 3)=.pointer (some ⟨b3,0,none⟩)) (fun a0 aF w'=>∃ x:Nat->Value,aF=frame a0 [82,83,84,85,86,87,7] x/\(FS w0 w' g v l b3 b4 b5 n xr (k+1) m ve/\x 7=.int .i64 (n.tm+1+(p:Int)))) ?_ ⟨hF.1,h0,h3⟩ ?_
 ·rintro a0 ⟨hsz0,e0,e3⟩
  refine Y7 (by kernel_rfl) (fun L aF w'=>∃ x:Nat->Value,aF=frame a0 [82,83,84,85,86,87,7] x/\(St3 (fun W=>FS w0 W g v l b3 b4 b5 n xr k m ve) (fun W=>FS w0 W g v l b3 b4 b5 n xr k m ve) (fun W=>FS w0 W g v l b3 b4 b5 n xr (k+1) m ve)) (L.getD 4 false) (L.getD 4 false) w'/\(L.getD 0 false=true->x 82=.pointer (some ⟨b3,4,none⟩))/\(L.getD 1 false=true->x 83=.int .i64 n.tm)/\(L.getD 2 false=true->x 84=.int .i64 (n.tm+1))/\(L.getD 3 false=true->x 85=.pointer (some ⟨g,0,none⟩))/\(L.getD 4 false=true->x 86=.int .i64 (p:Int))/\(L.getD 5 false=true->x 87=.int .i64 (n.tm+1+(p:Int)))/\(L.getD 6 false=true->x 7=.int .i64 (n.tm+1+(p:Int)))) ?_ ?_ ?_
  ·refine ⟨_,Yk a0 [82,83,84,85,86,87,7],?_,fun h=>(Zl h).elim,fun h=>(Zl h).elim,fun h=>(Zl h).elim,fun h=>(Zl h).elim,fun h=>(Zl h).elim,fun h=>(Zl h).elim,fun h=>(Zl h).elim⟩
   rw [Z05];exact hS.drew
  ·rintro L a w' i hsL hi ⟨x,rfl,hS,h0,h1,h2,h3,h4,h5,h6⟩
   have hlt:∀ j,j<7->j<L.size:=fun j hj=>by rw [hsL];exact hj
   have hsl:∀ j,j<343->j<a0.tmps.size:=fun j hj=>by rw [hsz0];exact hj
   have hiL:i<7:=(Zx hsL hi).1;have hLz:L.size=7:=hsL;have hcb34:w'.cell? ⟨b3,4,none⟩=some (.int .i64 n.tm):=by refine St3.any (P:=fun W=>W.cell? ⟨b3,4,none⟩=some (.int .i64 n.tm)) ?_ ?_ ?_ hS <;> intro W h <;> exact (FS.nb h).cell 4
   rcases (show i=0∨i=1∨i=2∨i=3∨i=4∨i=5∨i=6 by omega) with rfl | rfl | rfl | rfl | rfl | rfl | rfl
   ·skip
    have hz:=hlt 0 (by decide);have ev3:(frame a0 [82,83,84,85,86,87,7] x).tmps[3]?.getD undef=.pointer (some ⟨b3,0,none⟩):=by have h:=(Zc a0 [82,83,84,85,86,87,7] x 3 rfl).trans e3;simpa [Act.eval] using h
    refine Z8 rfl rfl (Zd (v:=.pointer (some ⟨b3,4,none⟩)) ?_ ?_)
    ·obtain ⟨aa,haa⟩:∃ aa,aa=frame a0 [82,83,84,85,86,87,7] x:=⟨_,rfl⟩
     rw [<-haa] at ev3 ⊢;clear haa;go_simp
    exact ⟨_,Z9 _ _ _ 82 _ rfl,(by rw [Zp hz (by decide)];exact hS),fun h=>Zb _ _ _,fun h=>ke2 h1 hz h,fun h=>ke2 h2 hz h,fun h=>ke2 h3 hz h,fun h=>ke2 h4 hz h,fun h=>ke2 h5 hz h,fun h=>ke2 h6 hz h⟩
   ·have d0:=h0 (Z7 hi (by decide))
    have hz:=hlt 1 (by decide);have ev82:(frame a0 [82,83,84,85,86,87,7] x).tmps[82]?.getD undef=.pointer (some ⟨b3,4,none⟩):=by have h:=(Z4 a0 [82,83,84,85,86,87,7] x 82 rfl (hsl 82 (by decide))).trans d0;simpa [Act.eval] using h
    refine Z8 rfl rfl (Zd (v:=.int .i64 n.tm) ?_ ?_)
    ·obtain ⟨aa,haa⟩:∃ aa,aa=frame a0 [82,83,84,85,86,87,7] x:=⟨_,rfl⟩
     rw [<-haa] at ev82 ⊢;clear haa;go_simp
    exact ⟨_,Z9 _ _ _ 83 _ rfl,(by rw [Zp hz (by decide)];exact hS),fun h=>ke2 h0 hz h,fun h=>Zb _ _ _,fun h=>ke2 h2 hz h,fun h=>ke2 h3 hz h,fun h=>ke2 h4 hz h,fun h=>ke2 h5 hz h,fun h=>ke2 h6 hz h⟩
   ·have d1:=h1 (Z7 hi (by decide))
    have hz:=hlt 2 (by decide);have ev83:(frame a0 [82,83,84,85,86,87,7] x).tmps[83]?.getD undef=.int .i64 n.tm:=by have h:=(Z4 a0 [82,83,84,85,86,87,7] x 83 rfl (hsl 83 (by decide))).trans d1;simpa [Act.eval] using h
    refine Z8 rfl rfl (Zd (v:=.int .i64 (n.tm+1)) ?_ ?_)
    ·obtain ⟨aa,haa⟩:∃ aa,aa=frame a0 [82,83,84,85,86,87,7] x:=⟨_,rfl⟩
     rw [<-haa] at ev83 ⊢;clear haa;go_simp;rw [IntKind.wrap_i64];omega
    exact ⟨_,Z9 _ _ _ 84 _ rfl,(by rw [Zp hz (by decide)];exact hS),fun h=>ke2 h0 hz h,fun h=>ke2 h1 hz h,fun h=>Zb _ _ _,fun h=>ke2 h3 hz h,fun h=>ke2 h4 hz h,fun h=>ke2 h5 hz h,fun h=>ke2 h6 hz h⟩
   ·skip
    have hz:=hlt 3 (by decide);refine Z8 rfl rfl (Y0 (.tmp 0) (Or.inl rfl) ?_);rw [Zc _ _ _ 0 rfl,e0];exact ⟨_,Z9 _ _ _ 85 _ rfl,(by rw [Zp hz (by decide)];exact hS),fun h=>ke2 h0 hz h,fun h=>ke2 h1 hz h,fun h=>ke2 h2 hz h,fun h=>Zb _ _ _,fun h=>ke2 h4 hz h,fun h=>ke2 h5 hz h,fun h=>ke2 h6 hz h⟩
   ·have d3:=h3 (Z7 hi (by decide))
    have hz:=hlt 4 (by decide);have ev85:=(Z4 a0 [82,83,84,85,86,87,7] x 85 rfl (hsl 85 (by decide))).trans d3;refine Z8 rfl rfl (Y4 (N:=53) rfl (fun _ _=>by go_simp) #[.pointer (some ⟨g,0,none⟩),.int .i64 2] (by simp only [List.map_toArray,List.map_cons,List.map_nil,ev85,Z0w]) ?_);have hb4:L.getD 4 false=false:=by have h9:=(Zx hsL hi).2;rw [Array.getD_eq_getD_getElem?,h9];rfl
    rw [hb4] at hS;have hS0:FS w0 w' g v l b3 b4 b5 n xr k m ve:=hS;refine Calls.mono (FS.pick1 hS0 2 hL (by omega) (by omega) (by omega)) ?_;rw [<-Hp.out];rintro e w2 ⟨rfl,hd⟩;refine ⟨_,rfl,?_⟩;exact ⟨_,Z9 _ _ _ 86 _ rfl,(by rw [Yo hz];exact hd),fun h=>ke2 h0 hz h,fun h=>ke2 h1 hz h,fun h=>ke2 h2 hz h,fun h=>ke2 h3 hz h,fun h=>Zb _ _ _,fun h=>ke2 h5 hz h,fun h=>ke2 h6 hz h⟩
   ·have d2:=h2 (Z7 hi (by decide))
    have d4:=h4 (Z7 hi (by decide));have hz:=hlt 5 (by decide);have ev84:(frame a0 [82,83,84,85,86,87,7] x).tmps[84]?.getD undef=.int .i64 (n.tm+1):=by have h:=(Z4 a0 [82,83,84,85,86,87,7] x 84 rfl (hsl 84 (by decide))).trans d2;simpa [Act.eval] using h
    have ev86:(frame a0 [82,83,84,85,86,87,7] x).tmps[86]?.getD undef=.int .i64 (p:Int):=by have h:=(Z4 a0 [82,83,84,85,86,87,7] x 86 rfl (hsl 86 (by decide))).trans d4;simpa [Act.eval] using h
    refine Z8 rfl rfl (Zd (v:=.int .i64 (n.tm+1+(p:Int))) ?_ ?_)
    ·obtain ⟨aa,haa⟩:∃ aa,aa=frame a0 [82,83,84,85,86,87,7] x:=⟨_,rfl⟩
     rw [<-haa] at ev84 ev86 ⊢;clear haa;go_simp;rw [IntKind.wrap_i64];omega
    exact ⟨_,Z9 _ _ _ 87 _ rfl,(by rw [Zp hz (by decide)];exact hS),fun h=>ke2 h0 hz h,fun h=>ke2 h1 hz h,fun h=>ke2 h2 hz h,fun h=>ke2 h3 hz h,fun h=>ke2 h4 hz h,fun h=>Zb _ _ _,fun h=>ke2 h6 hz h⟩
   ·have d5:=h5 (Z7 hi (by decide))
    have hz:=hlt 6 (by decide);have ev87:(frame a0 [82,83,84,85,86,87,7] x).tmps[87]?.getD undef=.int .i64 (n.tm+1+(p:Int)):=by have h:=(Z4 a0 [82,83,84,85,86,87,7] x 87 rfl (hsl 87 (by decide))).trans d5;simpa [Act.eval] using h
    refine Z8 rfl rfl (Zd (v:=.int .i64 (n.tm+1+(p:Int))) ?_ ?_)
    ·obtain ⟨aa,haa⟩:∃ aa,aa=frame a0 [82,83,84,85,86,87,7] x:=⟨_,rfl⟩
     rw [<-haa] at ev87 ⊢;clear haa;go_simp
    exact ⟨_,Z9 _ _ _ 7 _ rfl,(by rw [Zp hz (by decide)];exact hS),fun h=>ke2 h0 hz h,fun h=>ke2 h1 hz h,fun h=>ke2 h2 hz h,fun h=>ke2 h3 hz h,fun h=>ke2 h4 hz h,fun h=>ke2 h5 hz h,fun h=>Zb _ _ _⟩
  ·rintro L a w' hsL hr ⟨x,rfl,hS,h0,h1,h2,h3,h4,h5,h6⟩
   have hall:=Yq hsL hr (by decide);replace h0:=h0 (hall 0 (by decide));replace h1:=h1 (hall 1 (by decide));replace h2:=h2 (hall 2 (by decide));replace h3:=h3 (hall 3 (by decide));replace h4:=h4 (hall 4 (by decide));replace h5:=h5 (hall 5 (by decide));replace h6:=h6 (hall 6 (by decide));rw [hall 4 (by decide)] at hS;exact ⟨rfl,x,rfl,⟨hS,h6⟩⟩
 ·rintro a' w' ⟨x,rfl,hFin⟩
  exact hP _ _ (hF.frame _ _) ((Zc a [82,83,84,85,86,87,7] x 0 rfl).trans h0) ((Zc a [82,83,84,85,86,87,7] x 3 rfl).trans h3) ((Zc a [82,83,84,85,86,87,7] x 4 rfl).trans h4) ((Zc a [82,83,84,85,86,87,7] x 5 rfl).trans h5) ((Zc a [82,83,84,85,86,87,7] x 6 rfl).trans h6) ((Z4 a [82,83,84,85,86,87,7] x 7 rfl (by rw [hF.1];decide)).trans hFin.2) hFin.1
theorem df18 {w0:World}{g k b3 b4 b5:Nat}{v:Value}{l:List Int}{n:Nd}{xr:RV}{m:Mg}{ve:Value}{q:Nat}{e7:Value}(hq:q<=10){Q:Exit->Act->World->Prop}{K:Act->World->Prop}{a:Act}{w:World}(hF:SzD a 343)(h0:a.eval (.tmp 0)=.pointer (some ⟨g,0,none⟩))(h3:a.eval (.tmp 3)=.pointer (some ⟨b3,0,none⟩))(h4:a.eval (.tmp 4)=.pointer (some ⟨b4,0,none⟩))(h5:a.eval (.tmp 5)=.pointer (some ⟨b5,0,none⟩))(h6:a.eval (.tmp 6)=.int .i64 (q:Nat))(h7:a.eval (.tmp 7)=e7)(hS:FS w0 w g v l b3 b4 b5 n xr k m ve)(hP:∀ a' w',SzD a' 343->a'.eval (.tmp 0)=.pointer (some ⟨g,0,none⟩)->a'.eval (.tmp 3)=.pointer (some ⟨b3,0,none⟩)->a'.eval (.tmp 4)=.pointer (some ⟨b4,0,none⟩)->a'.eval (.tmp 5)=.pointer (some ⟨b5,0,none⟩)->a'.eval (.tmp 6)=.int .i64 (q:Nat)->a'.eval (.tmp 7)=e7->a'.eval (.tmp 89)=.bool (decide (q=1))->FS w0 w' g v l b3 b4 b5 n xr k m ve->K a' w'):(Z1 0 (Xx (Z2 1 (Z1 11 (Z3 Tryz.f54))))).wp Tryz.prog (Exit.then K Q) a w:=by
 obtain ⟨t,rfl⟩:=hF.opened;clear hF;rw [Z3z]
 try dsimp only
 rw [show t 0=_ from h0,show t 3=_ from h3,show t 4=_ from h4,show t 5=_ from h5,show t 6=_ from h6,show t 7=_ from h7];clear h0 h3 h4 h5 h6 h7;have HS:Hid (FS w0 w g v l b3 b4 b5 n xr k m ve):=hS;clear hS
 conv=>arg 2;whnf
 go_wp2_with fail
 exact hP _ _ ⟨rfl,rfl⟩ rfl rfl rfl rfl rfl rfl (by simp only [Act.eval];exact congrArg _ (eq1 q)) HS.out
theorem df19 {w0:World}{g k b3 b4 b5:Nat}{v:Value}{l:List Int}{n:Nd}{xr:RV}{m:Mg}{ve:Value}(htm:0<=n.tm/\n.tm<=1073741824){Q:Exit->Act->World->Prop}{K:Act->World->Prop}{a:Act}{w:World}(hF:SzD a 343)(h0:a.eval (.tmp 0)=.pointer (some ⟨g,0,none⟩))(h3:a.eval (.tmp 3)=.pointer (some ⟨b3,0,none⟩))(h4:a.eval (.tmp 4)=.pointer (some ⟨b4,0,none⟩))(h5:a.eval (.tmp 5)=.pointer (some ⟨b5,0,none⟩))(hS:FS w0 w g v l b3 b4 b5 n xr k m ve)(hP:∀ a' w',SzD a' 343->a'.eval (.tmp 0)=.pointer (some ⟨g,0,none⟩)->a'.eval (.tmp 3)=.pointer (some ⟨b3,0,none⟩)->a'.eval (.tmp 4)=.pointer (some ⟨b4,0,none⟩)->a'.eval (.tmp 5)=.pointer (some ⟨b5,0,none⟩)->a'.eval (.tmp 7)=.int .i64 (n.tm-1)->FS w0 w' g v l b3 b4 b5 n xr k m ve->K a' w'):(Zj (Z2 1 (Xx (Z2 1 (Z1 11 (Z3 Tryz.f54)))))).wp Tryz.prog (Exit.then K Q) a w:=by
 obtain ⟨t,rfl⟩:=hF.opened;clear hF;rw [Z3z]
 try dsimp only
 rw [show t 0=_ from h0,show t 3=_ from h3,show t 4=_ from h4,show t 5=_ from h5];clear h0 h3 h4 h5;have n4:w.cell? ⟨b3,4,none⟩=some (.int .i64 n.tm):=hS.nb.cell 4;have HS:Hid (FS w0 w g v l b3 b4 b5 n xr k m ve):=hS;clear hS
 conv=>arg 2;whnf
 go_wp2_with fail
 exact hP _ _ ⟨rfl,rfl⟩ rfl rfl rfl rfl rfl HS.out
theorem df20 {w0:World}{g k b3 b4 b5:Nat}{v:Value}{l:List Int}{n:Nd}{xr:RV}{m:Mg}{ve:Value}{e7:Value}{Q:Exit->Act->World->Prop}{K:Act->World->Prop}{a:Act}{w:World}(hF:SzD a 343)(h0:a.eval (.tmp 0)=.pointer (some ⟨g,0,none⟩))(h3:a.eval (.tmp 3)=.pointer (some ⟨b3,0,none⟩))(h4:a.eval (.tmp 4)=.pointer (some ⟨b4,0,none⟩))(h5:a.eval (.tmp 5)=.pointer (some ⟨b5,0,none⟩))(h7:a.eval (.tmp 7)=e7)(hS:FS w0 w g v l b3 b4 b5 n xr k m ve)(hP:∀ a' w',SzD a' 343->a'.eval (.tmp 0)=.pointer (some ⟨g,0,none⟩)->a'.eval (.tmp 3)=.pointer (some ⟨b3,0,none⟩)->a'.eval (.tmp 4)=.pointer (some ⟨b4,0,none⟩)->a'.eval (.tmp 5)=.pointer (some ⟨b5,0,none⟩)->a'.eval (.tmp 7)=e7->a'.eval (.tmp 100)=.bool (decide (m.ki=1∨m.ki=2))->FS w0 w' g v l b3 b4 b5 n xr k m ve->K a' w'):(Z1 0 (Xx (Z2 1 (Xx (Z2 1 (Z1 11 (Z3 Tryz.f54))))))).wp Tryz.prog (Exit.then K Q) a w:=by
 obtain ⟨t,rfl⟩:=hF.opened;clear hF;rw [Z3z]
 try dsimp only
 rw [show t 0=_ from h0,show t 3=_ from h3,show t 4=_ from h4,show t 5=_ from h5,show t 7=_ from h7];clear h0 h3 h4 h5 h7;obtain ⟨ki,hki⟩:∃ q,q=m.ki:=⟨_,rfl⟩;have m0:w.cell? ⟨b5,0,none⟩=some (.int .i64 ki):=by rw [hki];exact hS.mb.cell 0
 rw [<-hki] at hP;have HS:Hid (FS w0 w g v l b3 b4 b5 n xr k m ve):=hS;clear hS hki
 conv=>arg 2;whnf
 by_cases g1:ki=1
 ·go_wp2_with fail
  exact hP _ _ ⟨rfl,rfl⟩ rfl rfl rfl rfl rfl (by simp [Act.eval,g1]) HS.out
 ·by_cases g2:ki=2
  ·go_wp2_with fail
   exact hP _ _ ⟨rfl,rfl⟩ rfl rfl rfl rfl rfl (by simp [Act.eval,g2]) HS.out
  ·go_wp2_with fail
   exact hP _ _ ⟨rfl,rfl⟩ rfl rfl rfl rfl rfl (by simp [Act.eval,g1,g2]) HS.out
theorem df21 {w0:World}{g k b3 b4 b5:Nat}{v:Value}{l:List Int}{n:Nd}{xr:RV}{m:Mg}{ve:Value}(htm:0<=n.tm/\n.tm<=1073741824){Q:Exit->Act->World->Prop}{K:Act->World->Prop}{a:Act}{w:World}(hF:SzD a 343)(h0:a.eval (.tmp 0)=.pointer (some ⟨g,0,none⟩))(h3:a.eval (.tmp 3)=.pointer (some ⟨b3,0,none⟩))(h4:a.eval (.tmp 4)=.pointer (some ⟨b4,0,none⟩))(h5:a.eval (.tmp 5)=.pointer (some ⟨b5,0,none⟩))(hS:FS w0 w g v l b3 b4 b5 n xr k m ve)(hP:∀ a' w',SzD a' 343->a'.eval (.tmp 0)=.pointer (some ⟨g,0,none⟩)->a'.eval (.tmp 3)=.pointer (some ⟨b3,0,none⟩)->a'.eval (.tmp 4)=.pointer (some ⟨b4,0,none⟩)->a'.eval (.tmp 5)=.pointer (some ⟨b5,0,none⟩)->a'.eval (.tmp 7)=.int .i64 (n.tm+1)->FS w0 w' g v l b3 b4 b5 n xr k m ve->K a' w'):(Zj (Z2 1 (Xx (Z2 1 (Xx (Z2 1 (Z1 11 (Z3 Tryz.f54)))))))).wp Tryz.prog (Exit.then K Q) a w:=by
 obtain ⟨t,rfl⟩:=hF.opened;clear hF;rw [Z3z]
 try dsimp only
 rw [show t 0=_ from h0,show t 3=_ from h3,show t 4=_ from h4,show t 5=_ from h5];clear h0 h3 h4 h5;have n4:w.cell? ⟨b3,4,none⟩=some (.int .i64 n.tm):=hS.nb.cell 4;have HS:Hid (FS w0 w g v l b3 b4 b5 n xr k m ve):=hS;clear hS
 conv=>arg 2;whnf
 go_wp2_with fail
 exact hP _ _ ⟨rfl,rfl⟩ rfl rfl rfl rfl rfl HS.out
theorem df22 {w0:World}{g k b3 b4 b5:Nat}{v:Value}{l:List Int}{n:Nd}{xr:RV}{m:Mg}{ve:Value}{t7:Int}{Q:Exit->Act->World->Prop}{K:Act->World->Prop}{a:Act}{w:World}(hF:SzD a 343)(h0:a.eval (.tmp 0)=.pointer (some ⟨g,0,none⟩))(h3:a.eval (.tmp 3)=.pointer (some ⟨b3,0,none⟩))(h4:a.eval (.tmp 4)=.pointer (some ⟨b4,0,none⟩))(h5:a.eval (.tmp 5)=.pointer (some ⟨b5,0,none⟩))(h7:a.eval (.tmp 7)=.int .i64 t7)(hS:FS w0 w g v l b3 b4 b5 n xr k m ve)(hP:∀ a' w',SzD a' 343->a'.eval (.tmp 0)=.pointer (some ⟨g,0,none⟩)->a'.eval (.tmp 3)=.pointer (some ⟨b3,0,none⟩)->a'.eval (.tmp 4)=.pointer (some ⟨b4,0,none⟩)->a'.eval (.tmp 5)=.pointer (some ⟨b5,0,none⟩)->FS w0 w' g v l b3 b4 b5 n xr k { m with tm:=min (max t7 1) 1073741824 } ve->K a' w'):(Z1 12 (Z3 Tryz.f54)).wp Tryz.prog (Exit.then K Q) a w:=by
 obtain ⟨t,rfl⟩:=hF.opened;clear hF;rw [Z3z]
 try dsimp only
 rw [show t 0=_ from h0,show t 3=_ from h3,show t 4=_ from h4,show t 5=_ from h5,show t 7=_ from h7];clear h0 h3 h4 h5 h7;have m3:w.cell? ⟨b5,3,none⟩=some (.int .i64 m.tm):=hS.mb.cell 3;have f3:w.frozen? ⟨b5,3,none⟩=false:=hS.mb.free 3;have HS:Hid (FS w0 w g v l b3 b4 b5 n xr k m ve):=hS;clear hS;obtain ⟨M1,hM1⟩:∃ q,q=max t7 1:=⟨_,rfl⟩;have H1:Hid (M1=max t7 1):=hM1;obtain ⟨M2,hM2⟩:∃ q,q=min M1 1073741824:=⟨_,rfl⟩;have H2:Hid (M2=min M1 1073741824):=hM2;rw [<-hM1,<-hM2] at hP;clear hM1 hM2
 conv=>arg 2;whnf
 go_wp2_with (first | (go_at_call 94;go_loud (refine (Jm _ _ _).mono ?_;rw [<-H1.out];rintro r w9 ⟨rfl,hw⟩;obtain rfl:=hw.symm;clear hw)) | (go_at_call 55;go_loud (refine (Xf _ _ _).mono ?_;rw [<-H2.out];rintro r w9 ⟨rfl,hw⟩;obtain rfl:=hw.symm;clear hw)))
 exact hP _ _ ⟨rfl,rfl⟩ rfl rfl rfl rfl (HS.out.set 3 (by omega) _ rfl rfl)
theorem df23 {w0:World}{g k b3 b4 b5:Nat}{v:Value}{l:List Int}{n:Nd}{xr:RV}{m:Mg}{ve:Value}(hL:l.length<=1048576)(hk:k<=890000000){Q:Exit->Act->World->Prop}{K:Act->World->Prop}{a:Act}{w:World}(hF:SzD a 343)(h0:a.eval (.tmp 0)=.pointer (some ⟨g,0,none⟩))(h3:a.eval (.tmp 3)=.pointer (some ⟨b3,0,none⟩))(h4:a.eval (.tmp 4)=.pointer (some ⟨b4,0,none⟩))(h5:a.eval (.tmp 5)=.pointer (some ⟨b5,0,none⟩))(hS:FS w0 w g v l b3 b4 b5 n xr k m ve)(hP:∀ a' w',SzD a' 343->a'.eval (.tmp 0)=.pointer (some ⟨g,0,none⟩)->a'.eval (.tmp 3)=.pointer (some ⟨b3,0,none⟩)->a'.eval (.tmp 4)=.pointer (some ⟨b4,0,none⟩)->a'.eval (.tmp 5)=.pointer (some ⟨b5,0,none⟩)->a'.eval (.tmp 8)=.int .i64 (Z5 l k 5:Nat)->FS w0 w' g v l b3 b4 b5 n xr (k+1) m ve->K a' w'):(Z1 13 (Z3 Tryz.f54)).wp Tryz.prog (Exit.then K Q) a w:=by
 obtain ⟨t,rfl⟩:=hF.opened;clear hF;rw [Z3z]
 try dsimp only
 rw [show t 0=_ from h0,show t 3=_ from h3,show t 4=_ from h4,show t 5=_ from h5];clear h0 h3 h4 h5;have HS:Hid (FS w0 w g v l b3 b4 b5 n xr k m ve):=hS;clear hS;obtain ⟨p,hp⟩:∃ p,p=Z5 l k 5:=⟨_,rfl⟩;have Hp:Hid (p=Z5 l k 5):=hp;rw [<-hp] at hP;have bp:p<5:=by rw [hp];exact Zf _ _ _ (by omega)
 clear hp
 conv=>arg 2;whnf
 go_wp2_with (go_at_call 53;go_loud (refine (HS.out.pick1 5 hL (by omega) (by omega) (by omega)).mono ?_;rw [<-Hp.out];rintro r w9 ⟨rfl,hd⟩;have HS9:Hid (FS w0 w9 g v l b3 b4 b5 n xr (k+1) m ve):=hd;clear hd))
 exact hP _ _ ⟨rfl,rfl⟩ rfl rfl rfl rfl rfl HS9.out
theorem Ys:(Tryz.prog.info? 43).map (·.size)=some 10:=by kernel_rfl
theorem FS.row5 {w0 w:World}{g k b3 b4 b5:Nat}{v:Value}{l:List Int}{n:Nd}{xr:RV}{m:Mg}{ve:Value}(h:FS w0 w g v l b3 b4 b5 n xr k m ve)(m':Mg)(e:m'.es=m.es):FS w0 (w.setRow b5 (msV m' ve)) g v l b3 b4 b5 n xr k m' ve:=by
 have hn:NoU8 (msV m' ve):=by obtain ⟨a,c,hv⟩:=h.es.shape;unfold msV;rw [hv];exact Yd rfl
 exact ⟨h.dr.row 2 rfl (msV m' ve) hn,by rw [e];exact h.es.block fun q e'=>setRow_other _ _ _ _ (X4 h.es h.mb (by decide) q e')⟩
theorem lt1 (q:Nat):decide ((1:Int)<(q:Int))=decide (1<q):=by
 by_cases h:1<q
 ·have:(1:Int)<q:=by omega
  simp [h,this]
 ·have:¬(1:Int)<q:=by omega
  simp [h,this]
theorem df24 {w0:World}{g k b3 b4 b5:Nat}{v:Value}{l:List Int}{n:Nd}{xr:RV}{m:Mg}{ve:Value}{e8:Value}{Q:Exit->Act->World->Prop}{K:Act->World->Prop}{a:Act}{w:World}(hF:SzD a 343)(h0:a.eval (.tmp 0)=.pointer (some ⟨g,0,none⟩))(h3:a.eval (.tmp 3)=.pointer (some ⟨b3,0,none⟩))(h4:a.eval (.tmp 4)=.pointer (some ⟨b4,0,none⟩))(h5:a.eval (.tmp 5)=.pointer (some ⟨b5,0,none⟩))(h8:a.eval (.tmp 8)=e8)(hS:FS w0 w g v l b3 b4 b5 n xr k m ve)(hP:∀ a' w',SzD a' 343->a'.eval (.tmp 0)=.pointer (some ⟨g,0,none⟩)->a'.eval (.tmp 3)=.pointer (some ⟨b3,0,none⟩)->a'.eval (.tmp 4)=.pointer (some ⟨b4,0,none⟩)->a'.eval (.tmp 5)=.pointer (some ⟨b5,0,none⟩)->a'.eval (.tmp 8)=e8->FS w0 w' g v l b3 b4 b5 n xr k ⟨m.ki,m.fr,m.td,m.tm,0,0,0,0,0,m.es⟩ ve->K a' w'):(Z1 14 (Z3 Tryz.f54)).wp Tryz.prog (Exit.then K Q) a w:=by
 obtain ⟨t,rfl⟩:=hF.opened;clear hF;rw [Z3z]
 try dsimp only
 rw [show t 0=_ from h0,show t 3=_ from h3,show t 4=_ from h4,show t 5=_ from h5,show t 8=_ from h8];clear h0 h3 h4 h5 h8;obtain ⟨ea,ec,hv⟩:=hS.es.shape;have m9:w.cell? ⟨b5,9,none⟩=some (.slice ea m.es.length ec):=by rw [<-hv];exact hS.mb.cell 9
 have m0:w.cell? ⟨b5,0,none⟩=some (.int .i64 m.ki):=hS.mb.cell 0;have m1:w.cell? ⟨b5,1,none⟩=some (.int .i64 m.fr):=hS.mb.cell 1;have m2:w.cell? ⟨b5,2,none⟩=some (.int .i64 m.td):=hS.mb.cell 2;have m3:w.cell? ⟨b5,3,none⟩=some (.int .i64 m.tm):=hS.mb.cell 3;have HB:Hid (Blk w b5 (msV m ve) 43):=hS.mb;have HN:Hid (FS w0 (w.setRow b5 #[.int .i64 m.ki,.int .i64 m.fr,.int .i64 m.td,.int .i64 m.tm,.int .i64 0,.int .i64 0,.int .i64 0,.int .i64 0,.int .i64 0,.slice ea m.es.length ec]) g v l b3 b4 b5 n xr k ⟨m.ki,m.fr,m.td,m.tm,0,0,0,0,0,m.es⟩ ve):=by have h9:=hS.row5 ⟨m.ki,m.fr,m.td,m.tm,0,0,0,0,0,m.es⟩ rfl;unfold msV at h9;rw [hv] at h9;rw [hv];exact h9
 clear hS hv
 conv=>arg 2;whnf
 go_wp2_with (refine Y2 43 (.tmp 5) _ rfl ?_;go_loud (refine Y1 rfl 43 (.tmp 5) _ rfl b5 rfl rfl HB.out Ys rfl rfl (by simp [Value.oneCell']) ?_))
 exact hP _ _ ⟨rfl,rfl⟩ rfl rfl rfl rfl rfl HN.out
theorem df25 {w0:World}{g k b3 b4 b5:Nat}{v:Value}{l:List Int}{n:Nd}{xr:RV}{m:Mg}{ve:Value}{e8:Value}{Q:Exit->Act->World->Prop}{K:Act->World->Prop}{a:Act}{w:World}(hF:SzD a 343)(h0:a.eval (.tmp 0)=.pointer (some ⟨g,0,none⟩))(h3:a.eval (.tmp 3)=.pointer (some ⟨b3,0,none⟩))(h4:a.eval (.tmp 4)=.pointer (some ⟨b4,0,none⟩))(h5:a.eval (.tmp 5)=.pointer (some ⟨b5,0,none⟩))(h8:a.eval (.tmp 8)=e8)(hS:FS w0 w g v l b3 b4 b5 n xr k m ve)(hP:∀ a' w',SzD a' 343->a'.eval (.tmp 0)=.pointer (some ⟨g,0,none⟩)->a'.eval (.tmp 3)=.pointer (some ⟨b3,0,none⟩)->a'.eval (.tmp 4)=.pointer (some ⟨b4,0,none⟩)->a'.eval (.tmp 5)=.pointer (some ⟨b5,0,none⟩)->a'.eval (.tmp 8)=e8->a'.eval (.tmp 133)=.bool (decide (m.ki=2∨m.ki=4∨m.ki=6))->FS w0 w' g v l b3 b4 b5 n xr k m ve->K a' w'):(Z1 0 (Z1 15 (Z3 Tryz.f54))).wp Tryz.prog (Exit.then K Q) a w:=by
 obtain ⟨t,rfl⟩:=hF.opened;clear hF;rw [Z3z]
 try dsimp only
 rw [show t 0=_ from h0,show t 3=_ from h3,show t 4=_ from h4,show t 5=_ from h5,show t 8=_ from h8];clear h0 h3 h4 h5 h8;obtain ⟨ki,hki⟩:∃ q,q=m.ki:=⟨_,rfl⟩;have m0:w.cell? ⟨b5,0,none⟩=some (.int .i64 ki):=by rw [hki];exact hS.mb.cell 0
 rw [<-hki] at hP;have HS:Hid (FS w0 w g v l b3 b4 b5 n xr k m ve):=hS;clear hS hki
 conv=>arg 2;whnf
 by_cases g1:ki=2
 ·go_wp2_with fail
  exact hP _ _ ⟨rfl,rfl⟩ rfl rfl rfl rfl rfl (by simp [Act.eval,g1]) HS.out
 ·by_cases g2:ki=4
  ·go_wp2_with fail
   exact hP _ _ ⟨rfl,rfl⟩ rfl rfl rfl rfl rfl (by simp [Act.eval,g2]) HS.out
  ·by_cases g3:ki=6
   ·go_wp2_with fail
    exact hP _ _ ⟨rfl,rfl⟩ rfl rfl rfl rfl rfl (by simp [Act.eval,g3]) HS.out
   ·go_wp2_with fail
    exact hP _ _ ⟨rfl,rfl⟩ rfl rfl rfl rfl rfl (by simp [Act.eval,g1,g2,g3]) HS.out
theorem df26 {w0:World}{g k b3 b4 b5:Nat}{v:Value}{l:List Int}{n:Nd}{xr:RV}{m:Mg}{ve:Value}{e8:Value}{Q:Exit->Act->World->Prop}{K:Act->World->Prop}{a:Act}{w:World}(hF:SzD a 343)(h0:a.eval (.tmp 0)=.pointer (some ⟨g,0,none⟩))(h3:a.eval (.tmp 3)=.pointer (some ⟨b3,0,none⟩))(h4:a.eval (.tmp 4)=.pointer (some ⟨b4,0,none⟩))(h5:a.eval (.tmp 5)=.pointer (some ⟨b5,0,none⟩))(h8:a.eval (.tmp 8)=e8)(hS:FS w0 w g v l b3 b4 b5 n xr k m ve)(hP:∀ a' w',SzD a' 343->a'.eval (.tmp 0)=.pointer (some ⟨g,0,none⟩)->a'.eval (.tmp 3)=.pointer (some ⟨b3,0,none⟩)->a'.eval (.tmp 4)=.pointer (some ⟨b4,0,none⟩)->a'.eval (.tmp 5)=.pointer (some ⟨b5,0,none⟩)->a'.eval (.tmp 8)=e8->FS w0 w' g v l b3 b4 b5 n xr k { m with es:=[] } (.slice none 0 0)->K a' w'):(Z1 0 (Zj (Z2 1 (Z1 15 (Z3 Tryz.f54))))).wp Tryz.prog (Exit.then K Q) a w:=by
 obtain ⟨t,rfl⟩:=hF.opened;clear hF;rw [Z3z]
 try dsimp only
 rw [show t 0=_ from h0,show t 3=_ from h3,show t 4=_ from h4,show t 5=_ from h5,show t 8=_ from h8];clear h0 h3 h4 h5 h8;obtain ⟨ea,ec,hv⟩:=hS.es.shape;have m9:w.cell? ⟨b5,9,none⟩=some (.slice ea m.es.length ec):=by rw [<-hv];exact hS.mb.cell 9
 have f9:w.frozen? ⟨b5,9,none⟩=false:=hS.mb.free 9;have HS:Hid (FS w0 w g v l b3 b4 b5 n xr k m ve):=hS;clear hS;clear hv
 conv=>arg 2;whnf
 go_wp2_with fail
 exact hP _ _ ⟨rfl,rfl⟩ rfl rfl rfl rfl rfl HS.out.bare
theorem df27 {w0:World}{g k b3 b4 b5:Nat}{v:Value}{l:List Int}{n:Nd}{xr:RV}{m:Mg}{ve:Value}{q:Nat}(hq:q<=10){Q:Exit->Act->World->Prop}{K:Act->World->Prop}{a:Act}{w:World}(hF:SzD a 343)(h0:a.eval (.tmp 0)=.pointer (some ⟨g,0,none⟩))(h3:a.eval (.tmp 3)=.pointer (some ⟨b3,0,none⟩))(h4:a.eval (.tmp 4)=.pointer (some ⟨b4,0,none⟩))(h5:a.eval (.tmp 5)=.pointer (some ⟨b5,0,none⟩))(h8:a.eval (.tmp 8)=.int .i64 (q:Nat))(hS:FS w0 w g v l b3 b4 b5 n xr k m ve)(hP:∀ a' w',SzD a' 343->a'.eval (.tmp 0)=.pointer (some ⟨g,0,none⟩)->a'.eval (.tmp 3)=.pointer (some ⟨b3,0,none⟩)->a'.eval (.tmp 4)=.pointer (some ⟨b4,0,none⟩)->a'.eval (.tmp 5)=.pointer (some ⟨b5,0,none⟩)->a'.eval (.tmp 136)=.bool (decide (1<q))->FS w0 w' g v l b3 b4 b5 n xr k m ve->K a' w'):(Z1 1 (Zj (Z2 1 (Z1 15 (Z3 Tryz.f54))))).wp Tryz.prog (Exit.then K Q) a w:=by
 obtain ⟨t,rfl⟩:=hF.opened;clear hF;rw [Z3z]
 try dsimp only
 rw [show t 0=_ from h0,show t 3=_ from h3,show t 4=_ from h4,show t 5=_ from h5,show t 8=_ from h8];clear h0 h3 h4 h5 h8;have HS:Hid (FS w0 w g v l b3 b4 b5 n xr k m ve):=hS;clear hS
 conv=>arg 2;whnf
 go_wp2_with fail
 exact hP _ _ ⟨rfl,rfl⟩ rfl rfl rfl rfl (by simp only [Act.eval];exact congrArg _ (lt1 q)) HS.out
theorem df28 {w0:World}{g k b3 b4 b5:Nat}{v:Value}{l:List Int}{n:Nd}{xr:RV}{m:Mg}{ve:Value}{Q:Exit->Act->World->Prop}{K:Act->World->Prop}{a:Act}{w:World}(hF:SzD a 343)(h0:a.eval (.tmp 0)=.pointer (some ⟨g,0,none⟩))(h3:a.eval (.tmp 3)=.pointer (some ⟨b3,0,none⟩))(h4:a.eval (.tmp 4)=.pointer (some ⟨b4,0,none⟩))(h5:a.eval (.tmp 5)=.pointer (some ⟨b5,0,none⟩))(hS:FS w0 w g v l b3 b4 b5 n xr k m ve)(hP:∀ a' w',SzD a' 343->a'.eval (.tmp 0)=.pointer (some ⟨g,0,none⟩)->a'.eval (.tmp 3)=.pointer (some ⟨b3,0,none⟩)->a'.eval (.tmp 4)=.pointer (some ⟨b4,0,none⟩)->a'.eval (.tmp 5)=.pointer (some ⟨b5,0,none⟩)->FS w0 w' g v l b3 b4 b5 n xr k { m with ok:=1 } ve->K a' w'):(Zj (Z2 2 (Zj (Z2 1 (Z1 15 (Z3 Tryz.f54)))))).wp Tryz.prog (Exit.then K Q) a w:=by
 obtain ⟨t,rfl⟩:=hF.opened;clear hF;rw [Z3z]
 try dsimp only
 rw [show t 0=_ from h0,show t 3=_ from h3,show t 4=_ from h4,show t 5=_ from h5];clear h0 h3 h4 h5;have m7:w.cell? ⟨b5,7,none⟩=some (.int .i64 m.ok):=hS.mb.cell 7;have f7:w.frozen? ⟨b5,7,none⟩=false:=hS.mb.free 7;have HS:Hid (FS w0 w g v l b3 b4 b5 n xr k m ve):=hS;clear hS
 conv=>arg 2;whnf
 go_wp2_with fail
 exact hP _ _ ⟨rfl,rfl⟩ rfl rfl rfl rfl (HS.out.set 7 (by omega) _ rfl rfl)
theorem df29 {w0:World}{g k b3 b4 b5:Nat}{v:Value}{l:List Int}{n:Nd}{xr:RV}{m:Mg}{ve:Value}(hL:l.length<=1048576)(hk:k<=890000000)(hvl0:∃ a c,xr.vl=.slice a n.log.length c)(hlg:n.log.length<=4096){Q:Exit->Act->World->Prop}{K:Act->World->Prop}{a:Act}{w:World}(hF:SzD a 343)(h0:a.eval (.tmp 0)=.pointer (some ⟨g,0,none⟩))(h3:a.eval (.tmp 3)=.pointer (some ⟨b3,0,none⟩))(h4:a.eval (.tmp 4)=.pointer (some ⟨b4,0,none⟩))(h5:a.eval (.tmp 5)=.pointer (some ⟨b5,0,none⟩))(hS:FS w0 w g v l b3 b4 b5 n xr k m ve)(hP:∀ a' w',SzD a' 343->a'.eval (.tmp 0)=.pointer (some ⟨g,0,none⟩)->a'.eval (.tmp 3)=.pointer (some ⟨b3,0,none⟩)->a'.eval (.tmp 4)=.pointer (some ⟨b4,0,none⟩)->a'.eval (.tmp 5)=.pointer (some ⟨b5,0,none⟩)->a'.eval (.tmp 9)=.int .i64 ((n.log.length:Int)-((Z5 l k 4:Nat):Int)+((Z5 l (k+1) 2:Nat):Int))->FS w0 w' g v l b3 b4 b5 n xr (k+1+1) m ve->K a' w'):(Z1 16 (Z3 Tryz.f54)).wp Tryz.prog (Exit.then K Q) a w:=by
 obtain ⟨ra,rc,hvl⟩:=hvl0;have Hvl:Hid (xr.vl=.slice ra n.log.length rc):=hvl;obtain ⟨N,hN⟩:∃ N,N=n.log.length:=⟨_,rfl⟩;rw [<-hN] at hP Hvl hlg;clear hN hvl;obtain ⟨p,hp⟩:∃ p,p=Z5 l k 4:=⟨_,rfl⟩;have Hp:Hid (p=Z5 l k 4):=hp;rw [<-hp] at hP;have bp:p<4:=by rw [hp];exact Zf _ _ _ (by omega)
 obtain ⟨p2,hp2⟩:∃ p,p=Z5 l (k+1) 2:=⟨_,rfl⟩;have Hp2:Hid (p2=Z5 l (k+1) 2):=hp2;rw [<-hp2] at hP;have bp2:p2<2:=by rw [hp2];exact Zf _ _ _ (by omega)
 clear hp hp2
 conv=>arg 2;whnf
 refine Xg (fun a0=>a0.tmps.size=343/\a0.eval (.tmp 0)=.pointer (some ⟨g,0,none⟩)/\a0.eval (.tmp 3)=.pointer (some ⟨b3,0,none⟩)) (fun a0 aF w'=>∃ x:Nat->Value,aF=frame a0 [138,139,140,141,142,143,144,145,146,9] x/\(FS w0 w' g v l b3 b4 b5 n xr (k+1+1) m ve/\x 9=.int .i64 ((N:Int)-(p:Int)+(p2:Int)))) ?_ ⟨hF.1,h0,h3⟩ ?_
 ·rintro a0 ⟨hsz0,e0,e3⟩
  refine Y7 (by kernel_rfl) (fun L aF w'=>∃ x:Nat->Value,aF=frame a0 [138,139,140,141,142,143,144,145,146,9] x/\(St3 (fun W=>FS w0 W g v l b3 b4 b5 n xr k m ve) (fun W=>FS w0 W g v l b3 b4 b5 n xr (k+1) m ve) (fun W=>FS w0 W g v l b3 b4 b5 n xr (k+1+1) m ve)) (L.getD 4 false) (L.getD 7 false) w'/\(L.getD 0 false=true->x 138=.pointer (some ⟨b3,12,none⟩))/\(L.getD 1 false=true->x 139=.slice ra N rc)/\(L.getD 2 false=true->x 140=.int .i64 (N:Int))/\(L.getD 3 false=true->x 141=.pointer (some ⟨g,0,none⟩))/\(L.getD 4 false=true->x 142=.int .i64 (p:Int))/\(L.getD 5 false=true->x 143=.int .i64 ((N:Int)-(p:Int)))/\(L.getD 6 false=true->x 144=.pointer (some ⟨g,0,none⟩))/\(L.getD 7 false=true->x 145=.int .i64 (p2:Int))/\(L.getD 8 false=true->x 146=.int .i64 ((N:Int)-(p:Int)+(p2:Int)))/\(L.getD 9 false=true->x 9=.int .i64 ((N:Int)-(p:Int)+(p2:Int)))) ?_ ?_ ?_
  ·refine ⟨_,Yk a0 [138,139,140,141,142,143,144,145,146,9],?_,fun h=>(Zl h).elim,fun h=>(Zl h).elim,fun h=>(Zl h).elim,fun h=>(Zl h).elim,fun h=>(Zl h).elim,fun h=>(Zl h).elim,fun h=>(Zl h).elim,fun h=>(Zl h).elim,fun h=>(Zl h).elim,fun h=>(Zl h).elim⟩
   rw [Z05,Z05];exact hS.drew
  ·rintro L a w' i hsL hi ⟨x,rfl,hS,h0,h1,h2,h3,h4,h5,h6,h7,h8,h9⟩
   have hlt:∀ j,j<10->j<L.size:=fun j hj=>by rw [hsL];exact hj
   have hsl:∀ j,j<343->j<a0.tmps.size:=fun j hj=>by rw [hsz0];exact hj
   have hiL:i<10:=(Zx hsL hi).1;have hLz:L.size=10:=hsL;have hcl:w'.cell? ⟨b3,12,none⟩=some (.slice ra N rc):=by refine St3.any (P:=fun W=>W.cell? ⟨b3,12,none⟩=some (.slice ra N rc)) ?_ ?_ ?_ hS <;> intro W h <;> (rw [<-Hvl.out];exact (FS.nb h).cell 12)
   rcases (show i=0∨i=1∨i=2∨i=3∨i=4∨i=5∨i=6∨i=7∨i=8∨i=9 by omega) with rfl | rfl | rfl | rfl | rfl | rfl | rfl | rfl | rfl | rfl
   ·skip
    have hz:=hlt 0 (by decide);have ev3:(frame a0 [138,139,140,141,142,143,144,145,146,9] x).tmps[3]?.getD undef=.pointer (some ⟨b3,0,none⟩):=by have h:=(Zc a0 [138,139,140,141,142,143,144,145,146,9] x 3 rfl).trans e3;simpa [Act.eval] using h
    refine Z8 rfl rfl (Zd (v:=.pointer (some ⟨b3,12,none⟩)) ?_ ?_)
    ·obtain ⟨aa,haa⟩:∃ aa,aa=frame a0 [138,139,140,141,142,143,144,145,146,9] x:=⟨_,rfl⟩
     rw [<-haa] at ev3 ⊢;clear haa;go_simp
    exact ⟨_,Z9 _ _ _ 138 _ rfl,(by rw [Zp hz (by decide),Zp hz (by decide)];exact hS),fun h=>Zb _ _ _,fun h=>ke2 h1 hz h,fun h=>ke2 h2 hz h,fun h=>ke2 h3 hz h,fun h=>ke2 h4 hz h,fun h=>ke2 h5 hz h,fun h=>ke2 h6 hz h,fun h=>ke2 h7 hz h,fun h=>ke2 h8 hz h,fun h=>ke2 h9 hz h⟩
   ·have d0:=h0 (Z7 hi (by decide))
    have hz:=hlt 1 (by decide);have ev138:(frame a0 [138,139,140,141,142,143,144,145,146,9] x).tmps[138]?.getD undef=.pointer (some ⟨b3,12,none⟩):=by have h:=(Z4 a0 [138,139,140,141,142,143,144,145,146,9] x 138 rfl (hsl 138 (by decide))).trans d0;simpa [Act.eval] using h
    refine Z8 rfl rfl (Zd (v:=.slice ra N rc) ?_ ?_)
    ·obtain ⟨aa,haa⟩:∃ aa,aa=frame a0 [138,139,140,141,142,143,144,145,146,9] x:=⟨_,rfl⟩
     rw [<-haa] at ev138 ⊢;clear haa;go_simp
    exact ⟨_,Z9 _ _ _ 139 _ rfl,(by rw [Zp hz (by decide),Zp hz (by decide)];exact hS),fun h=>ke2 h0 hz h,fun h=>Zb _ _ _,fun h=>ke2 h2 hz h,fun h=>ke2 h3 hz h,fun h=>ke2 h4 hz h,fun h=>ke2 h5 hz h,fun h=>ke2 h6 hz h,fun h=>ke2 h7 hz h,fun h=>ke2 h8 hz h,fun h=>ke2 h9 hz h⟩
   ·have d1:=h1 (Z7 hi (by decide))
    have hz:=hlt 2 (by decide);have ev139:(frame a0 [138,139,140,141,142,143,144,145,146,9] x).tmps[139]?.getD undef=.slice ra N rc:=by have h:=(Z4 a0 [138,139,140,141,142,143,144,145,146,9] x 139 rfl (hsl 139 (by decide))).trans d1;simpa [Act.eval] using h
    refine Z8 rfl rfl (Zd (v:=.int .i64 (N:Int)) ?_ ?_)
    ·obtain ⟨aa,haa⟩:∃ aa,aa=frame a0 [138,139,140,141,142,143,144,145,146,9] x:=⟨_,rfl⟩
     rw [<-haa] at ev139 ⊢;clear haa;go_simp
    exact ⟨_,Z9 _ _ _ 140 _ rfl,(by rw [Zp hz (by decide),Zp hz (by decide)];exact hS),fun h=>ke2 h0 hz h,fun h=>ke2 h1 hz h,fun h=>Zb _ _ _,fun h=>ke2 h3 hz h,fun h=>ke2 h4 hz h,fun h=>ke2 h5 hz h,fun h=>ke2 h6 hz h,fun h=>ke2 h7 hz h,fun h=>ke2 h8 hz h,fun h=>ke2 h9 hz h⟩
   ·skip
    have hz:=hlt 3 (by decide);refine Z8 rfl rfl (Y0 (.tmp 0) (Or.inl rfl) ?_);rw [Zc _ _ _ 0 rfl,e0];exact ⟨_,Z9 _ _ _ 141 _ rfl,(by rw [Zp hz (by decide),Zp hz (by decide)];exact hS),fun h=>ke2 h0 hz h,fun h=>ke2 h1 hz h,fun h=>ke2 h2 hz h,fun h=>Zb _ _ _,fun h=>ke2 h4 hz h,fun h=>ke2 h5 hz h,fun h=>ke2 h6 hz h,fun h=>ke2 h7 hz h,fun h=>ke2 h8 hz h,fun h=>ke2 h9 hz h⟩
   ·have d3:=h3 (Z7 hi (by decide))
    have hz:=hlt 4 (by decide);have ev141:=(Z4 a0 [138,139,140,141,142,143,144,145,146,9] x 141 rfl (hsl 141 (by decide))).trans d3;refine Z8 rfl rfl (Y4 (N:=53) rfl (fun _ _=>by go_simp) #[.pointer (some ⟨g,0,none⟩),.int .i64 4] (by simp only [List.map_toArray,List.map_cons,List.map_nil,ev141,Z0w]) ?_);have hb4:L.getD 4 false=false:=by have h9:=(Zx hsL hi).2;rw [Array.getD_eq_getD_getElem?,h9];rfl
    rw [hb4] at hS;obtain ⟨hb7,hS0⟩:=hS.fst;refine Calls.mono (FS.pick1 hS0 4 hL (by omega) (by omega) (by omega)) ?_;rw [<-Hp.out];rintro e w2 ⟨rfl,hd⟩;refine ⟨_,rfl,?_⟩;exact ⟨_,Z9 _ _ _ 142 _ rfl,(by rw [Yo hz,Zp hz (by decide),hb7];exact hd),fun h=>ke2 h0 hz h,fun h=>ke2 h1 hz h,fun h=>ke2 h2 hz h,fun h=>ke2 h3 hz h,fun h=>Zb _ _ _,fun h=>ke2 h5 hz h,fun h=>ke2 h6 hz h,fun h=>ke2 h7 hz h,fun h=>ke2 h8 hz h,fun h=>ke2 h9 hz h⟩
   ·have d2:=h2 (Z7 hi (by decide))
    have d4:=h4 (Z7 hi (by decide));have hz:=hlt 5 (by decide);have ev140:(frame a0 [138,139,140,141,142,143,144,145,146,9] x).tmps[140]?.getD undef=.int .i64 (N:Int):=by have h:=(Z4 a0 [138,139,140,141,142,143,144,145,146,9] x 140 rfl (hsl 140 (by decide))).trans d2;simpa [Act.eval] using h
    have ev142:(frame a0 [138,139,140,141,142,143,144,145,146,9] x).tmps[142]?.getD undef=.int .i64 (p:Int):=by have h:=(Z4 a0 [138,139,140,141,142,143,144,145,146,9] x 142 rfl (hsl 142 (by decide))).trans d4;simpa [Act.eval] using h
    refine Z8 rfl rfl (Zd (v:=.int .i64 ((N:Int)-(p:Int))) ?_ ?_)
    ·obtain ⟨aa,haa⟩:∃ aa,aa=frame a0 [138,139,140,141,142,143,144,145,146,9] x:=⟨_,rfl⟩
     rw [<-haa] at ev140 ev142 ⊢;clear haa;go_simp;rw [IntKind.wrap_i64];omega
    exact ⟨_,Z9 _ _ _ 143 _ rfl,(by rw [Zp hz (by decide),Zp hz (by decide)];exact hS),fun h=>ke2 h0 hz h,fun h=>ke2 h1 hz h,fun h=>ke2 h2 hz h,fun h=>ke2 h3 hz h,fun h=>ke2 h4 hz h,fun h=>Zb _ _ _,fun h=>ke2 h6 hz h,fun h=>ke2 h7 hz h,fun h=>ke2 h8 hz h,fun h=>ke2 h9 hz h⟩
   ·skip
    have hz:=hlt 6 (by decide);refine Z8 rfl rfl (Y0 (.tmp 0) (Or.inl rfl) ?_);rw [Zc _ _ _ 0 rfl,e0];exact ⟨_,Z9 _ _ _ 144 _ rfl,(by rw [Zp hz (by decide),Zp hz (by decide)];exact hS),fun h=>ke2 h0 hz h,fun h=>ke2 h1 hz h,fun h=>ke2 h2 hz h,fun h=>ke2 h3 hz h,fun h=>ke2 h4 hz h,fun h=>ke2 h5 hz h,fun h=>Zb _ _ _,fun h=>ke2 h7 hz h,fun h=>ke2 h8 hz h,fun h=>ke2 h9 hz h⟩
   ·have d6:=h6 (Z7 hi (by decide))
    have hz:=hlt 7 (by decide);have ev144:=(Z4 a0 [138,139,140,141,142,143,144,145,146,9] x 144 rfl (hsl 144 (by decide))).trans d6;refine Z8 rfl rfl (Y4 (N:=53) rfl (fun _ _=>by go_simp) #[.pointer (some ⟨g,0,none⟩),.int .i64 2] (by simp only [List.map_toArray,List.map_cons,List.map_nil,ev144,Z0w]) ?_);have hb7:L.getD 7 false=false:=by have h9:=(Zx hsL hi).2;rw [Array.getD_eq_getD_getElem?,h9];rfl
    have ha4:L.getD 4 false=true:=Z7 hi (by decide);rw [ha4,hb7] at hS;have hS0:FS w0 w' g v l b3 b4 b5 n xr (k+1) m ve:=hS;refine Calls.mono (FS.pick1 hS0 2 hL (by omega) (by omega) (by omega)) ?_;rw [<-Hp2.out];rintro e w2 ⟨rfl,hd⟩;refine ⟨_,rfl,?_⟩;exact ⟨_,Z9 _ _ _ 145 _ rfl,(by rw [Zp hz (by decide),ha4,Yo hz];exact hd),fun h=>ke2 h0 hz h,fun h=>ke2 h1 hz h,fun h=>ke2 h2 hz h,fun h=>ke2 h3 hz h,fun h=>ke2 h4 hz h,fun h=>ke2 h5 hz h,fun h=>ke2 h6 hz h,fun h=>Zb _ _ _,fun h=>ke2 h8 hz h,fun h=>ke2 h9 hz h⟩
   ·have d5:=h5 (Z7 hi (by decide))
    have d7:=h7 (Z7 hi (by decide));have hz:=hlt 8 (by decide);have ev143:(frame a0 [138,139,140,141,142,143,144,145,146,9] x).tmps[143]?.getD undef=.int .i64 ((N:Int)-(p:Int)):=by have h:=(Z4 a0 [138,139,140,141,142,143,144,145,146,9] x 143 rfl (hsl 143 (by decide))).trans d5;simpa [Act.eval] using h
    have ev145:(frame a0 [138,139,140,141,142,143,144,145,146,9] x).tmps[145]?.getD undef=.int .i64 (p2:Int):=by have h:=(Z4 a0 [138,139,140,141,142,143,144,145,146,9] x 145 rfl (hsl 145 (by decide))).trans d7;simpa [Act.eval] using h
    refine Z8 rfl rfl (Zd (v:=.int .i64 ((N:Int)-(p:Int)+(p2:Int))) ?_ ?_)
    ·obtain ⟨aa,haa⟩:∃ aa,aa=frame a0 [138,139,140,141,142,143,144,145,146,9] x:=⟨_,rfl⟩
     rw [<-haa] at ev143 ev145 ⊢;clear haa;go_simp;rw [IntKind.wrap_i64];omega
    exact ⟨_,Z9 _ _ _ 146 _ rfl,(by rw [Zp hz (by decide),Zp hz (by decide)];exact hS),fun h=>ke2 h0 hz h,fun h=>ke2 h1 hz h,fun h=>ke2 h2 hz h,fun h=>ke2 h3 hz h,fun h=>ke2 h4 hz h,fun h=>ke2 h5 hz h,fun h=>ke2 h6 hz h,fun h=>ke2 h7 hz h,fun h=>Zb _ _ _,fun h=>ke2 h9 hz h⟩
   ·have d8:=h8 (Z7 hi (by decide))
    have hz:=hlt 9 (by decide);have ev146:(frame a0 [138,139,140,141,142,143,144,145,146,9] x).tmps[146]?.getD undef=.int .i64 ((N:Int)-(p:Int)+(p2:Int)):=by have h:=(Z4 a0 [138,139,140,141,142,143,144,145,146,9] x 146 rfl (hsl 146 (by decide))).trans d8;simpa [Act.eval] using h
    refine Z8 rfl rfl (Zd (v:=.int .i64 ((N:Int)-(p:Int)+(p2:Int))) ?_ ?_)
    ·obtain ⟨aa,haa⟩:∃ aa,aa=frame a0 [138,139,140,141,142,143,144,145,146,9] x:=⟨_,rfl⟩
     rw [<-haa] at ev146 ⊢;clear haa;go_simp
    exact ⟨_,Z9 _ _ _ 9 _ rfl,(by rw [Zp hz (by decide),Zp hz (by decide)];exact hS),fun h=>ke2 h0 hz h,fun h=>ke2 h1 hz h,fun h=>ke2 h2 hz h,fun h=>ke2 h3 hz h,fun h=>ke2 h4 hz h,fun h=>ke2 h5 hz h,fun h=>ke2 h6 hz h,fun h=>ke2 h7 hz h,fun h=>ke2 h8 hz h,fun h=>Zb _ _ _⟩
  ·rintro L a w' hsL hr ⟨x,rfl,hS,h0,h1,h2,h3,h4,h5,h6,h7,h8,h9⟩
   have hall:=Yq hsL hr (by decide);replace h0:=h0 (hall 0 (by decide));replace h1:=h1 (hall 1 (by decide));replace h2:=h2 (hall 2 (by decide));replace h3:=h3 (hall 3 (by decide));replace h4:=h4 (hall 4 (by decide));replace h5:=h5 (hall 5 (by decide));replace h6:=h6 (hall 6 (by decide));replace h7:=h7 (hall 7 (by decide));replace h8:=h8 (hall 8 (by decide));replace h9:=h9 (hall 9 (by decide));rw [hall 4 (by decide),hall 7 (by decide)] at hS;exact ⟨rfl,x,rfl,⟨hS,h9⟩⟩
 ·rintro a' w' ⟨x,rfl,hFin⟩
  exact hP _ _ (hF.frame _ _) ((Zc a [138,139,140,141,142,143,144,145,146,9] x 0 rfl).trans h0) ((Zc a [138,139,140,141,142,143,144,145,146,9] x 3 rfl).trans h3) ((Zc a [138,139,140,141,142,143,144,145,146,9] x 4 rfl).trans h4) ((Zc a [138,139,140,141,142,143,144,145,146,9] x 5 rfl).trans h5) ((Z4 a [138,139,140,141,142,143,144,145,146,9] x 9 rfl (by rw [hF.1];decide)).trans hFin.2) hFin.1
theorem df30 {w0:World}{g k b3 b4 b5:Nat}{v:Value}{l:List Int}{n:Nd}{xr:RV}{m:Mg}{ve:Value}{t9:Int}{Q:Exit->Act->World->Prop}{K:Act->World->Prop}{a:Act}{w:World}(hF:SzD a 343)(h0:a.eval (.tmp 0)=.pointer (some ⟨g,0,none⟩))(h3:a.eval (.tmp 3)=.pointer (some ⟨b3,0,none⟩))(h4:a.eval (.tmp 4)=.pointer (some ⟨b4,0,none⟩))(h5:a.eval (.tmp 5)=.pointer (some ⟨b5,0,none⟩))(h9:a.eval (.tmp 9)=.int .i64 t9)(hS:FS w0 w g v l b3 b4 b5 n xr k m ve)(hP:∀ a' w',SzD a' 343->a'.eval (.tmp 0)=.pointer (some ⟨g,0,none⟩)->a'.eval (.tmp 3)=.pointer (some ⟨b3,0,none⟩)->a'.eval (.tmp 4)=.pointer (some ⟨b4,0,none⟩)->a'.eval (.tmp 5)=.pointer (some ⟨b5,0,none⟩)->a'.eval (.tmp 9)=.int .i64 (min (max t9 0) 4096)->FS w0 w' g v l b3 b4 b5 n xr k m ve->K a' w'):(Z1 17 (Z3 Tryz.f54)).wp Tryz.prog (Exit.then K Q) a w:=by
 obtain ⟨t,rfl⟩:=hF.opened;clear hF;rw [Z3z]
 try dsimp only
 rw [show t 0=_ from h0,show t 3=_ from h3,show t 4=_ from h4,show t 5=_ from h5,show t 9=_ from h9];clear h0 h3 h4 h5 h9;have HS:Hid (FS w0 w g v l b3 b4 b5 n xr k m ve):=hS;clear hS;obtain ⟨M1,hM1⟩:∃ q,q=max t9 0:=⟨_,rfl⟩;have H1:Hid (M1=max t9 0):=hM1;obtain ⟨M2,hM2⟩:∃ q,q=min M1 4096:=⟨_,rfl⟩;have H2:Hid (M2=min M1 4096):=hM2;rw [<-hM1,<-hM2] at hP;clear hM1 hM2
 conv=>arg 2;whnf
 go_wp2_with (first | (go_at_call 94;go_loud (refine (Jm _ _ _).mono ?_;rw [<-H1.out];rintro r w9 ⟨rfl,hw⟩;obtain rfl:=hw.symm;clear hw)) | (go_at_call 55;go_loud (refine (Xf _ _ _).mono ?_;rw [<-H2.out];rintro r w9 ⟨rfl,hw⟩;obtain rfl:=hw.symm;clear hw)))
 exact hP _ _ ⟨rfl,rfl⟩ rfl rfl rfl rfl rfl HS.out
theorem df31 {w0:World}{g k b3 b4 b5:Nat}{v:Value}{l:List Int}{n:Nd}{xr:RV}{m:Mg}{ve:Value}{e9:Value}{Q:Exit->Act->World->Prop}{K:Act->World->Prop}{a:Act}{w:World}(hF:SzD a 343)(h0:a.eval (.tmp 0)=.pointer (some ⟨g,0,none⟩))(h3:a.eval (.tmp 3)=.pointer (some ⟨b3,0,none⟩))(h4:a.eval (.tmp 4)=.pointer (some ⟨b4,0,none⟩))(h5:a.eval (.tmp 5)=.pointer (some ⟨b5,0,none⟩))(h9:a.eval (.tmp 9)=e9)(hS:FS w0 w g v l b3 b4 b5 n xr k m ve)(hP:∀ a' w',SzD a' 343->a'.eval (.tmp 0)=.pointer (some ⟨g,0,none⟩)->a'.eval (.tmp 3)=.pointer (some ⟨b3,0,none⟩)->a'.eval (.tmp 4)=.pointer (some ⟨b4,0,none⟩)->a'.eval (.tmp 5)=.pointer (some ⟨b5,0,none⟩)->a'.eval (.tmp 9)=e9->a'.eval (.tmp 152)=.bool (m.ki == 6)->FS w0 w' g v l b3 b4 b5 n xr k m ve->K a' w'):(Z1 0 (Z1 18 (Z3 Tryz.f54))).wp Tryz.prog (Exit.then K Q) a w:=by
 obtain ⟨t,rfl⟩:=hF.opened;clear hF;rw [Z3z]
 try dsimp only
 rw [show t 0=_ from h0,show t 3=_ from h3,show t 4=_ from h4,show t 5=_ from h5,show t 9=_ from h9];clear h0 h3 h4 h5 h9;have m0:w.cell? ⟨b5,0,none⟩=some (.int .i64 m.ki):=hS.mb.cell 0;have HS:Hid (FS w0 w g v l b3 b4 b5 n xr k m ve):=hS;clear hS
 conv=>arg 2;whnf
 go_wp2_with fail
 exact hP _ _ ⟨rfl,rfl⟩ rfl rfl rfl rfl rfl rfl HS.out
theorem df32 {w0:World}{g k b3 b4 b5:Nat}{v:Value}{l:List Int}{n:Nd}{xr:RV}{m:Mg}{ve:Value}{t9:Int}{Q:Exit->Act->World->Prop}{K:Act->World->Prop}{a:Act}{w:World}(hF:SzD a 343)(h0:a.eval (.tmp 0)=.pointer (some ⟨g,0,none⟩))(h3:a.eval (.tmp 3)=.pointer (some ⟨b3,0,none⟩))(h4:a.eval (.tmp 4)=.pointer (some ⟨b4,0,none⟩))(h5:a.eval (.tmp 5)=.pointer (some ⟨b5,0,none⟩))(h9:a.eval (.tmp 9)=.int .i64 t9)(hS:FS w0 w g v l b3 b4 b5 n xr k m ve)(hP:∀ a' w',SzD a' 343->a'.eval (.tmp 0)=.pointer (some ⟨g,0,none⟩)->a'.eval (.tmp 3)=.pointer (some ⟨b3,0,none⟩)->a'.eval (.tmp 4)=.pointer (some ⟨b4,0,none⟩)->a'.eval (.tmp 5)=.pointer (some ⟨b5,0,none⟩)->FS w0 w' g v l b3 b4 b5 n xr k { m with li:=t9 } ve->K a' w'):(Z1 0 (Zj (Z2 1 (Z1 18 (Z3 Tryz.f54))))).wp Tryz.prog (Exit.then K Q) a w:=by
 obtain ⟨t,rfl⟩:=hF.opened;clear hF;rw [Z3z]
 try dsimp only
 rw [show t 0=_ from h0,show t 3=_ from h3,show t 4=_ from h4,show t 5=_ from h5,show t 9=_ from h9];clear h0 h3 h4 h5 h9;have m4:w.cell? ⟨b5,4,none⟩=some (.int .i64 m.li):=hS.mb.cell 4;have f4:w.frozen? ⟨b5,4,none⟩=false:=hS.mb.free 4;have HS:Hid (FS w0 w g v l b3 b4 b5 n xr k m ve):=hS;clear hS
 conv=>arg 2;whnf
 go_wp2_with fail
 exact hP _ _ ⟨rfl,rfl⟩ rfl rfl rfl rfl (HS.out.set 4 (by omega) _ rfl rfl)
theorem df33 {w0:World}{g k b3 b4 b5:Nat}{v:Value}{l:List Int}{n:Nd}{xr:RV}{m:Mg}{ve:Value}{Q:Exit->Act->World->Prop}{K:Act->World->Prop}{a:Act}{w:World}(hF:SzD a 343)(h0:a.eval (.tmp 0)=.pointer (some ⟨g,0,none⟩))(h3:a.eval (.tmp 3)=.pointer (some ⟨b3,0,none⟩))(h4:a.eval (.tmp 4)=.pointer (some ⟨b4,0,none⟩))(h5:a.eval (.tmp 5)=.pointer (some ⟨b5,0,none⟩))(hS:FS w0 w g v l b3 b4 b5 n xr k m ve)(hP:∀ a' w',SzD a' 343->a'.eval (.tmp 0)=.pointer (some ⟨g,0,none⟩)->a'.eval (.tmp 3)=.pointer (some ⟨b3,0,none⟩)->a'.eval (.tmp 4)=.pointer (some ⟨b4,0,none⟩)->a'.eval (.tmp 5)=.pointer (some ⟨b5,0,none⟩)->a'.eval (.tmp 162)=.bool (decide (n.ro=3/\m.ok=0))->FS w0 w' g v l b3 b4 b5 n xr k m ve->K a' w'):(Z1 0 (Z1 1 (Zj (Z2 1 (Z1 18 (Z3 Tryz.f54)))))).wp Tryz.prog (Exit.then K Q) a w:=by
 obtain ⟨t,rfl⟩:=hF.opened;clear hF;rw [Z3z]
 try dsimp only
 rw [show t 0=_ from h0,show t 3=_ from h3,show t 4=_ from h4,show t 5=_ from h5];clear h0 h3 h4 h5;obtain ⟨ro,hro⟩:∃ q,q=n.ro:=⟨_,rfl⟩;obtain ⟨ok,hok⟩:∃ q,q=m.ok:=⟨_,rfl⟩;have n6:w.cell? ⟨b3,6,none⟩=some (.int .i64 ro):=by rw [hro];exact hS.nb.cell 6
 have m7:w.cell? ⟨b5,7,none⟩=some (.int .i64 ok):=by rw [hok];exact hS.mb.cell 7
 rw [<-hro,<-hok] at hP;have HS:Hid (FS w0 w g v l b3 b4 b5 n xr k m ve):=hS;clear hS hro hok
 conv=>arg 2;whnf
 by_cases g1:ro=3
 ·by_cases g2:ok=0
  ·go_wp2_with fail
   exact hP _ _ ⟨rfl,rfl⟩ rfl rfl rfl rfl (by simp [Act.eval,g1,g2]) HS.out
  ·go_wp2_with fail
   exact hP _ _ ⟨rfl,rfl⟩ rfl rfl rfl rfl (by simp [Act.eval,g1,g2]) HS.out
 ·go_wp2_with fail
  exact hP _ _ ⟨rfl,rfl⟩ rfl rfl rfl rfl (by simp [Act.eval,g1]) HS.out
theorem df34 {w0:World}{g k b3 b4 b5:Nat}{v:Value}{l:List Int}{n:Nd}{xr:RV}{m:Mg}{ve:Value}{j:Nat}{y:Int}(hj:j<n.nx.length)(hj7:j<=7)(hfr:m.fr=(j:Int)+1)(hy:0<=y/\y<=5000){Q:Exit->Act->World->Prop}{K:Act->World->Prop}{a:Act}{w:World}(hF:SzD a 343)(h0:a.eval (.tmp 0)=.pointer (some ⟨g,0,none⟩))(h3:a.eval (.tmp 3)=.pointer (some ⟨b3,0,none⟩))(h4:a.eval (.tmp 4)=.pointer (some ⟨b4,0,none⟩))(h5:a.eval (.tmp 5)=.pointer (some ⟨b5,0,none⟩))(hS:FS w0 w g v l b3 b4 b5 n xr k m ve)(hnx:∃ q c,xr.vn=.slice (some ⟨q,0,none⟩) n.nx.length c/\w.cell? ⟨q,j,none⟩=some (.int .i64 y))(hP:∀ a' w',SzD a' 343->a'.eval (.tmp 0)=.pointer (some ⟨g,0,none⟩)->a'.eval (.tmp 3)=.pointer (some ⟨b3,0,none⟩)->a'.eval (.tmp 4)=.pointer (some ⟨b4,0,none⟩)->a'.eval (.tmp 5)=.pointer (some ⟨b5,0,none⟩)->FS w0 w' g v l b3 b4 b5 n xr k { m with li:=y-1 } ve->K a' w'):(Z1 0 (Zj (Z2 1 (Z1 1 (Zj (Z2 1 (Z1 18 (Z3 Tryz.f54)))))))).wp Tryz.prog (Exit.then K Q) a w:=by
 obtain ⟨t,rfl⟩:=hF.opened;clear hF;rw [Z3z]
 try dsimp only
 rw [show t 0=_ from h0,show t 3=_ from h3,show t 4=_ from h4,show t 5=_ from h5];clear h0 h3 h4 h5;obtain ⟨nq,nc,hv,hcn⟩:=hnx;have n14:w.cell? ⟨b3,14,none⟩=some (.slice (some ⟨nq,0,none⟩) n.nx.length nc):=by rw [<-hv];exact hS.nb.cell 14
 have m1:w.cell? ⟨b5,1,none⟩=some (.int .i64 ((j:Int)+1)):=by rw [<-hfr];exact hS.mb.cell 1
 have m4:w.cell? ⟨b5,4,none⟩=some (.int .i64 m.li):=hS.mb.cell 4;have f4:w.frozen? ⟨b5,4,none⟩=false:=hS.mb.free 4;obtain ⟨N,hN⟩:∃ N,N=n.nx.length:=⟨_,rfl⟩;rw [<-hN] at n14 hj;have hji:(j:Int)<(N:Int):=by omega
 have hwk:IntKind.i64.wrap ((j:Int)+1-1)=(j:Int):=by rw [IntKind.wrap_i64];omega
 have hwj:IntKind.i64.wrap (j:Int)=(j:Int):=by rw [IntKind.wrap_i64];omega
 clear hv hN hfr;have HS:Hid (FS w0 w g v l b3 b4 b5 n xr k m ve):=hS;clear hS
 conv=>arg 2;whnf
 go_wp2_with fail
 exact hP _ _ ⟨rfl,rfl⟩ rfl rfl rfl rfl (HS.out.set 4 (by omega) _ rfl rfl)
theorem df35 {w0:World}{g k b3 b4 b5:Nat}{v:Value}{l:List Int}{n:Nd}{xr:RV}{m:Mg}{ve:Value}(hL:l.length<=1048576)(hk:k<=890000000)(hvl0:∃ a c,xr.vl=.slice a n.log.length c)(hlg:n.log.length<=4096){Q:Exit->Act->World->Prop}{K:Act->World->Prop}{a:Act}{w:World}(hF:SzD a 343)(h0:a.eval (.tmp 0)=.pointer (some ⟨g,0,none⟩))(h3:a.eval (.tmp 3)=.pointer (some ⟨b3,0,none⟩))(h4:a.eval (.tmp 4)=.pointer (some ⟨b4,0,none⟩))(h5:a.eval (.tmp 5)=.pointer (some ⟨b5,0,none⟩))(hS:FS w0 w g v l b3 b4 b5 n xr k m ve)(hP:∀ a' w',SzD a' 343->a'.eval (.tmp 0)=.pointer (some ⟨g,0,none⟩)->a'.eval (.tmp 3)=.pointer (some ⟨b3,0,none⟩)->a'.eval (.tmp 4)=.pointer (some ⟨b4,0,none⟩)->a'.eval (.tmp 5)=.pointer (some ⟨b5,0,none⟩)->FS w0 w' g v l b3 b4 b5 n xr (k+Zm (n.log.length+2)) { m with hi:=(Z5 l k (n.log.length+2):Nat) } ve->K a' w'):(Z2 1 (Zj (Z2 1 (Z1 1 (Zj (Z2 1 (Z1 18 (Z3 Tryz.f54)))))))).wp Tryz.prog (Exit.then K Q) a w:=by
 obtain ⟨t,rfl⟩:=hF.opened;clear hF;rw [Z3z]
 try dsimp only
 rw [show t 0=_ from h0,show t 3=_ from h3,show t 4=_ from h4,show t 5=_ from h5];clear h0 h3 h4 h5;obtain ⟨ra,rc,hvl⟩:=hvl0;have n12:w.cell? ⟨b3,12,none⟩=some (.slice ra n.log.length rc):=by rw [<-hvl];exact hS.nb.cell 12
 clear hvl;obtain ⟨N,hN⟩:∃ N,N=n.log.length:=⟨_,rfl⟩;rw [<-hN] at n12 hP hlg;have HS:Hid (FS w0 w g v l b3 b4 b5 n xr k m ve):=hS;clear hS;have HN:Hid (N=n.log.length):=hN;clear hN;obtain ⟨p,hp⟩:∃ p,p=Z5 l k (N+2):=⟨_,rfl⟩;have Hp:Hid (p=Z5 l k (N+2)):=hp;rw [<-hp] at hP;have bp:p<(N+2):=by rw [hp];exact Zf _ _ _ (by omega)
 clear hp
 conv=>arg 2;whnf
 go_wp2_with (go_at_call 53;go_loud (refine (HS.out.pick (N+2) hL (by omega) (by omega) (by omega)).mono ?_;rw [<-Hp.out];rintro r w9 ⟨rfl,hd⟩;have HS9:Hid (FS w0 w9 g v l b3 b4 b5 n xr (k+Zm (N+2)) m ve):=hd;have m8:w9.cell? ⟨b5,8,none⟩=some (.int .i64 m.hi):=HS9.out.mb.cell 8;have f8:w9.frozen? ⟨b5,8,none⟩=false:=HS9.out.mb.free 8;clear hd))
 exact hP _ _ ⟨rfl,rfl⟩ rfl rfl rfl rfl (HS9.out.set 8 (by omega) _ rfl rfl)
structure FR (w0 w:World) (g:Nat) (v:Value) (l:List Int) (b4:Nat) (k:Nat) (m:Mg) (ve:Value):Prop where
 src:Src w g v l k
 grown:w0.grownBy w (some g)
 rb:Blk w b4 (msV m ve) 43
 es:Zv w w0.heap.size ve m.es
theorem FS.ret {w0 w:World}{g k b3 b4 b5:Nat}{v:Value}{l:List Int}{n:Nd}{xr:RV}{m:Mg}{ve:Value}(h:FS w0 w g v l b3 b4 b5 n xr k m ve):FR w0 (w.setRow b4 (msV m ve)) g v l b4 k m ve:=by
 have hn:NoU8 (msV m ve):=by obtain ⟨a,c,hv⟩:=h.es.shape;unfold msV;rw [hv];exact Yd rfl
 have hR:=h.dr.row 1 rfl (msV m ve) hn;exact ⟨hR.src,hR.grown,hR.blk 1 rfl,h.es.block fun q e'=>setRow_other _ _ _ _ (X4 h.es h.rb (by decide) q e')⟩
theorem df3 {w0:World}{g k b3 b4 b5:Nat}{v:Value}{l:List Int}{n:Nd}{xr:RV}{m:Mg}{ve:Value}{Q:Exit->Act->World->Prop}{K:Act->World->Prop}{a:Act}{w:World}(hF:SzD a 343)(h4:a.eval (.tmp 4)=.pointer (some ⟨b4,0,none⟩))(h5:a.eval (.tmp 5)=.pointer (some ⟨b5,0,none⟩))(hS:FS w0 w g v l b3 b4 b5 n xr k m ve)(hP:∀ a' w',SzD a' 343->a'.eval (.tmp 4)=.pointer (some ⟨b4,0,none⟩)->FR w0 w' g v l b4 k m ve->K a' w'):(Z1 0 (Zj (Z2 1 (Z1 2 (Z3 Tryz.f54))))).wp Tryz.prog (Exit.then K Q) a w:=by
 obtain ⟨t,rfl⟩:=hF.opened;clear hF;rw [Z3z]
 try dsimp only
 rw [show t 4=_ from h4,show t 5=_ from h5];clear h4 h5;have HB:Hid (Blk w b5 (msV m ve) 43):=hS.mb;have HR4:Hid (Blk w b4 Z0d 43):=hS.rb;have HN:Hid (FR w0 (w.setRow b4 (msV m ve)) g v l b4 k m ve):=hS.ret;have HC:Hid ((msV m ve).all (·.oneCell')=true):=by obtain ⟨a,c,hv⟩:=hS.es.shape;unfold Hid msV;rw [hv];simp [Value.oneCell']
 have hBA:True:=trivial;clear hS
 conv=>arg 2;whnf
 go_wp2_with (first
  |(refine Zw 43 (.tmp 5) rfl ?_;clear hBA;refine Zk rfl 43 (.tmp 5) rfl b5 rfl HB.out Tryz.underlying43 rfl Ys rfl ?_)
  |(refine Y2 43 (.tmp 4) _ rfl ?_;refine Y1 rfl 43 (.tmp 4) _ rfl b4 rfl rfl HR4.out Ys rfl rfl HC.out ?_))
 exact hP _ _ ⟨rfl,rfl⟩ rfl HN.out
theorem df36 {w0:World}{g k b3 b4 b5:Nat}{v:Value}{l:List Int}{n:Nd}{xr:RV}{m:Mg}{ve:Value}{Q:Exit->Act->World->Prop}{K:Act->World->Prop}{a:Act}{w:World}(hF:SzD a 343)(h4:a.eval (.tmp 4)=.pointer (some ⟨b4,0,none⟩))(h5:a.eval (.tmp 5)=.pointer (some ⟨b5,0,none⟩))(hS:FS w0 w g v l b3 b4 b5 n xr k m ve)(hP:∀ a' w',SzD a' 343->a'.eval (.tmp 4)=.pointer (some ⟨b4,0,none⟩)->FR w0 w' g v l b4 k m ve->K a' w'):(Z1 2 (Zj (Z2 1 (Z1 18 (Z3 Tryz.f54))))).wp Tryz.prog (Exit.then K Q) a w:=by
 obtain ⟨t,rfl⟩:=hF.opened;clear hF;rw [Z3z]
 try dsimp only
 rw [show t 4=_ from h4,show t 5=_ from h5];clear h4 h5;have HB:Hid (Blk w b5 (msV m ve) 43):=hS.mb;have HR4:Hid (Blk w b4 Z0d 43):=hS.rb;have HN:Hid (FR w0 (w.setRow b4 (msV m ve)) g v l b4 k m ve):=hS.ret;have HC:Hid ((msV m ve).all (·.oneCell')=true):=by obtain ⟨a,c,hv⟩:=hS.es.shape;unfold Hid msV;rw [hv];simp [Value.oneCell']
 have hBA:True:=trivial;clear hS
 conv=>arg 2;whnf
 go_wp2_with (first
  |(refine Zw 43 (.tmp 5) rfl ?_;clear hBA;refine Zk rfl 43 (.tmp 5) rfl b5 rfl HB.out Tryz.underlying43 rfl Ys rfl ?_)
  |(refine Y2 43 (.tmp 4) _ rfl ?_;refine Y1 rfl 43 (.tmp 4) _ rfl b4 rfl rfl HR4.out Ys rfl rfl HC.out ?_))
 exact hP _ _ ⟨rfl,rfl⟩ rfl HN.out
theorem df38 {w0:World}{g k b3 b4 b5:Nat}{v:Value}{l:List Int}{n:Nd}{xr:RV}{m:Mg}{ve:Value}{Q:Exit->Act->World->Prop}{K:Act->World->Prop}{a:Act}{w:World}(hF:SzD a 343)(h4:a.eval (.tmp 4)=.pointer (some ⟨b4,0,none⟩))(h5:a.eval (.tmp 5)=.pointer (some ⟨b5,0,none⟩))(hS:FS w0 w g v l b3 b4 b5 n xr k m ve)(hP:∀ a' w',SzD a' 343->a'.eval (.tmp 4)=.pointer (some ⟨b4,0,none⟩)->FR w0 w' g v l b4 k m ve->K a' w'):(Z1 0 (Zj (Z2 1 (Z1 19 (Z3 Tryz.f54))))).wp Tryz.prog (Exit.then K Q) a w:=by
 obtain ⟨t,rfl⟩:=hF.opened;clear hF;rw [Z3z]
 try dsimp only
 rw [show t 4=_ from h4,show t 5=_ from h5];clear h4 h5;have HB:Hid (Blk w b5 (msV m ve) 43):=hS.mb;have HR4:Hid (Blk w b4 Z0d 43):=hS.rb;have HN:Hid (FR w0 (w.setRow b4 (msV m ve)) g v l b4 k m ve):=hS.ret;have HC:Hid ((msV m ve).all (·.oneCell')=true):=by obtain ⟨a,c,hv⟩:=hS.es.shape;unfold Hid msV;rw [hv];simp [Value.oneCell']
 have hBA:True:=trivial;clear hS
 conv=>arg 2;whnf
 go_wp2_with (first
  |(refine Zw 43 (.tmp 5) rfl ?_;clear hBA;refine Zk rfl 43 (.tmp 5) rfl b5 rfl HB.out Tryz.underlying43 rfl Ys rfl ?_)
  |(refine Y2 43 (.tmp 4) _ rfl ?_;refine Y1 rfl 43 (.tmp 4) _ rfl b4 rfl rfl HR4.out Ys rfl rfl HC.out ?_))
 exact hP _ _ ⟨rfl,rfl⟩ rfl HN.out
theorem df51 {w0:World}{g k b3 b4 b5:Nat}{v:Value}{l:List Int}{n:Nd}{xr:RV}{m:Mg}{ve:Value}{Q:Exit->Act->World->Prop}{K:Act->World->Prop}{a:Act}{w:World}(hF:SzD a 343)(h4:a.eval (.tmp 4)=.pointer (some ⟨b4,0,none⟩))(h5:a.eval (.tmp 5)=.pointer (some ⟨b5,0,none⟩))(hS:FS w0 w g v l b3 b4 b5 n xr k m ve)(hP:∀ a' w',SzD a' 343->a'.eval (.tmp 4)=.pointer (some ⟨b4,0,none⟩)->FR w0 w' g v l b4 k m ve->K a' w'):(Z1 1 (Zj (Z2 1 (Z1 24 (Z3 Tryz.f54))))).wp Tryz.prog (Exit.then K Q) a w:=by
 obtain ⟨t,rfl⟩:=hF.opened;clear hF;rw [Z3z]
 try dsimp only
 rw [show t 4=_ from h4,show t 5=_ from h5];clear h4 h5;have HB:Hid (Blk w b5 (msV m ve) 43):=hS.mb;have HR4:Hid (Blk w b4 Z0d 43):=hS.rb;have HN:Hid (FR w0 (w.setRow b4 (msV m ve)) g v l b4 k m ve):=hS.ret;have HC:Hid ((msV m ve).all (·.oneCell')=true):=by obtain ⟨a,c,hv⟩:=hS.es.shape;unfold Hid msV;rw [hv];simp [Value.oneCell']
 have hBA:True:=trivial;clear hS
 conv=>arg 2;whnf
 go_wp2_with (first
  |(refine Zw 43 (.tmp 5) rfl ?_;clear hBA;refine Zk rfl 43 (.tmp 5) rfl b5 rfl HB.out Tryz.underlying43 rfl Ys rfl ?_)
  |(refine Y2 43 (.tmp 4) _ rfl ?_;refine Y1 rfl 43 (.tmp 4) _ rfl b4 rfl rfl HR4.out Ys rfl rfl HC.out ?_))
 exact hP _ _ ⟨rfl,rfl⟩ rfl HN.out
theorem df71 {w0:World}{g k b3 b4 b5:Nat}{v:Value}{l:List Int}{n:Nd}{xr:RV}{m:Mg}{ve:Value}{Q:Exit->Act->World->Prop}{K:Act->World->Prop}{a:Act}{w:World}(hF:SzD a 343)(h4:a.eval (.tmp 4)=.pointer (some ⟨b4,0,none⟩))(h5:a.eval (.tmp 5)=.pointer (some ⟨b5,0,none⟩))(hS:FS w0 w g v l b3 b4 b5 n xr k m ve)(hP:∀ a' w',SzD a' 343->a'.eval (.tmp 4)=.pointer (some ⟨b4,0,none⟩)->FR w0 w' g v l b4 k m ve->K a' w'):(Z1 31 (Z3 Tryz.f54)).wp Tryz.prog (Exit.then K Q) a w:=by
 obtain ⟨t,rfl⟩:=hF.opened;clear hF;rw [Z3z]
 try dsimp only
 rw [show t 4=_ from h4,show t 5=_ from h5];clear h4 h5;have HB:Hid (Blk w b5 (msV m ve) 43):=hS.mb;have HR4:Hid (Blk w b4 Z0d 43):=hS.rb;have HN:Hid (FR w0 (w.setRow b4 (msV m ve)) g v l b4 k m ve):=hS.ret;have HC:Hid ((msV m ve).all (·.oneCell')=true):=by obtain ⟨a,c,hv⟩:=hS.es.shape;unfold Hid msV;rw [hv];simp [Value.oneCell']
 have hBA:True:=trivial;clear hS
 conv=>arg 2;whnf
 go_wp2_with (first
  |(refine Zw 43 (.tmp 5) rfl ?_;clear hBA;refine Zk rfl 43 (.tmp 5) rfl b5 rfl HB.out Tryz.underlying43 rfl Ys rfl ?_)
  |(refine Y2 43 (.tmp 4) _ rfl ?_;refine Y1 rfl 43 (.tmp 4) _ rfl b4 rfl rfl HR4.out Ys rfl rfl HC.out ?_))
 exact hP _ _ ⟨rfl,rfl⟩ rfl HN.out
end Go.Proofs.YtmmpoppgabadmaaGreat
