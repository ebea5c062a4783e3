import Derived.Test.YtmmpoppgabadmaaGreatG11
set_option linter.unusedVariables false
set_option linter.unusedSimpArgs false
set_option maxRecDepth 100000
set_option maxHeartbeats 16000000
namespace Go.Proofs.YtmmpoppgabadmaaGreat
open Go.RowKit
theorem df37 {w0:World}{g k b3 b4 b5:Nat}{v:Value}{l:List Int}{n:Nd}{xr:RV}{m:Mg}{ve:Value}{e9:Value}{Q:Exit->Act->World->Prop}{K:Act->World->Prop}{a:Act}{w:World}(hF:SzD a 343)(h0:a.eval (.tmp 0)=.pointer (some ⟨g,0,none⟩))(h3:a.eval (.tmp 3)=.pointer (some ⟨b3,0,none⟩))(h4:a.eval (.tmp 4)=.pointer (some ⟨b4,0,none⟩))(h5:a.eval (.tmp 5)=.pointer (some ⟨b5,0,none⟩))(h9:a.eval (.tmp 9)=e9)(hS:FS w0 w g v l b3 b4 b5 n xr k m ve)(hP:∀ a' w',SzD a' 343->a'.eval (.tmp 0)=.pointer (some ⟨g,0,none⟩)->a'.eval (.tmp 3)=.pointer (some ⟨b3,0,none⟩)->a'.eval (.tmp 4)=.pointer (some ⟨b4,0,none⟩)->a'.eval (.tmp 5)=.pointer (some ⟨b5,0,none⟩)->a'.eval (.tmp 9)=e9->a'.eval (.tmp 187)=.bool (decide (m.ki=2∨m.ki=4))->FS w0 w' g v l b3 b4 b5 n xr k m ve->K a' w'):(Z1 0 (Z1 19 (Z3 Tryz.f54))).wp Tryz.prog (Exit.then K Q) a w:=by
 obtain ⟨t,rfl⟩:=hF.opened;clear hF;rw [Z3z]
 try dsimp only
 rw [show t 0=_ from h0,show t 3=_ from h3,show t 4=_ from h4,show t 5=_ from h5,show t 9=_ from h9];clear h0 h3 h4 h5 h9;obtain ⟨ki,hki⟩:∃ q,q=m.ki:=⟨_,rfl⟩;have m0:w.cell? ⟨b5,0,none⟩=some (.int .i64 ki):=by rw [hki];exact hS.mb.cell 0
 rw [<-hki] at hP;have HS:Hid (FS w0 w g v l b3 b4 b5 n xr k m ve):=hS;clear hS hki
 conv=>arg 2;whnf
 by_cases g1:ki=2
 ·go_wp2_with fail
  exact hP _ _ ⟨rfl,rfl⟩ rfl rfl rfl rfl rfl (by simp [Act.eval,g1]) HS.out
 ·by_cases g2:ki=4
  ·go_wp2_with fail
   exact hP _ _ ⟨rfl,rfl⟩ rfl rfl rfl rfl rfl (by simp [Act.eval,g2]) HS.out
  ·go_wp2_with fail
   exact hP _ _ ⟨rfl,rfl⟩ rfl rfl rfl rfl rfl (by simp [Act.eval,g1,g2]) HS.out
theorem df39t {w0:World}{g k b3 b4 b5:Nat}{v:Value}{l:List Int}{n:Nd}{xr:RV}{m:Mg}{ve:Value}(hL:l.length<=1048576)(hk:k<=890000000){e9:Value}(hki:m.ki=5){Q:Exit->Act->World->Prop}{K:Act->World->Prop}{a:Act}{w:World}(hF:SzD a 343)(h0:a.eval (.tmp 0)=.pointer (some ⟨g,0,none⟩))(h3:a.eval (.tmp 3)=.pointer (some ⟨b3,0,none⟩))(h4:a.eval (.tmp 4)=.pointer (some ⟨b4,0,none⟩))(h5:a.eval (.tmp 5)=.pointer (some ⟨b5,0,none⟩))(h9:a.eval (.tmp 9)=e9)(hS:FS w0 w g v l b3 b4 b5 n xr k m ve)(hP:∀ a' w',SzD a' 343->a'.eval (.tmp 0)=.pointer (some ⟨g,0,none⟩)->a'.eval (.tmp 3)=.pointer (some ⟨b3,0,none⟩)->a'.eval (.tmp 4)=.pointer (some ⟨b4,0,none⟩)->a'.eval (.tmp 5)=.pointer (some ⟨b5,0,none⟩)->a'.eval (.tmp 9)=e9->a'.eval (.tmp 10)=.bool (decide (Z5 l k 3=0))->FS w0 w' g v l b3 b4 b5 n xr (k+1) m ve->K a' w'):(Z1 20 (Z3 Tryz.f54)).wp Tryz.prog (Exit.then K Q) a w:=by
 obtain ⟨t,rfl⟩:=hF.opened;clear hF;rw [Z3z]
 try dsimp only
 rw [show t 0=_ from h0,show t 3=_ from h3,show t 4=_ from h4,show t 5=_ from h5,show t 9=_ from h9];clear h0 h3 h4 h5 h9;have m0:w.cell? ⟨b5,0,none⟩=some (.int .i64 5):=by rw [<-hki];exact hS.mb.cell 0
 have HS:Hid (FS w0 w g v l b3 b4 b5 n xr k m ve):=hS;clear hS;obtain ⟨p,hp⟩:∃ p,p=Z5 l k 3:=⟨_,rfl⟩;have Hp:Hid (p=Z5 l k 3):=hp;rw [<-hp] at hP;have bp:p<3:=by rw [hp];exact Zf _ _ _ (by omega)
 clear hp
 conv=>arg 2;whnf
 go_wp2_with (go_at_call 53;go_loud (refine (HS.out.pick1 3 hL (by omega) (by omega) (by omega)).mono ?_;rw [<-Hp.out];rintro r w9 ⟨rfl,hd⟩;have HS9:Hid (FS w0 w9 g v l b3 b4 b5 n xr (k+1) m ve):=hd;clear hd))
 exact hP _ _ ⟨rfl,rfl⟩ rfl rfl rfl rfl rfl (by simp [Act.eval,beq0]) HS9.out
theorem df39f {w0:World}{g k b3 b4 b5:Nat}{v:Value}{l:List Int}{n:Nd}{xr:RV}{m:Mg}{ve:Value}{e9:Value}(hki:¬ m.ki=5){Q:Exit->Act->World->Prop}{K:Act->World->Prop}{a:Act}{w:World}(hF:SzD a 343)(h0:a.eval (.tmp 0)=.pointer (some ⟨g,0,none⟩))(h3:a.eval (.tmp 3)=.pointer (some ⟨b3,0,none⟩))(h4:a.eval (.tmp 4)=.pointer (some ⟨b4,0,none⟩))(h5:a.eval (.tmp 5)=.pointer (some ⟨b5,0,none⟩))(h9:a.eval (.tmp 9)=e9)(hS:FS w0 w g v l b3 b4 b5 n xr k m ve)(hP:∀ a' w',SzD a' 343->a'.eval (.tmp 0)=.pointer (some ⟨g,0,none⟩)->a'.eval (.tmp 3)=.pointer (some ⟨b3,0,none⟩)->a'.eval (.tmp 4)=.pointer (some ⟨b4,0,none⟩)->a'.eval (.tmp 5)=.pointer (some ⟨b5,0,none⟩)->a'.eval (.tmp 9)=e9->a'.eval (.tmp 10)=.bool false->FS w0 w' g v l b3 b4 b5 n xr k m ve->K a' w'):(Z1 20 (Z3 Tryz.f54)).wp Tryz.prog (Exit.then K Q) a w:=by
 obtain ⟨t,rfl⟩:=hF.opened;clear hF;rw [Z3z]
 try dsimp only
 rw [show t 0=_ from h0,show t 3=_ from h3,show t 4=_ from h4,show t 5=_ from h5,show t 9=_ from h9];clear h0 h3 h4 h5 h9;have m0:w.cell? ⟨b5,0,none⟩=some (.int .i64 m.ki):=hS.mb.cell 0;have hb:(m.ki == 5)=false:=by simpa using hki
 have HS:Hid (FS w0 w g v l b3 b4 b5 n xr k m ve):=hS;clear hS
 conv=>arg 2;whnf
 go_wp2_with fail
 exact hP _ _ ⟨rfl,rfl⟩ rfl rfl rfl rfl rfl rfl HS.out
theorem df40 {w0:World}{g k b3 b4 b5:Nat}{v:Value}{l:List Int}{n:Nd}{xr:RV}{m:Mg}{ve:Value}{e9:Value}{o10:Bool}{Q:Exit->Act->World->Prop}{K:Act->World->Prop}{a:Act}{w:World}(hF:SzD a 343)(h0:a.eval (.tmp 0)=.pointer (some ⟨g,0,none⟩))(h3:a.eval (.tmp 3)=.pointer (some ⟨b3,0,none⟩))(h4:a.eval (.tmp 4)=.pointer (some ⟨b4,0,none⟩))(h5:a.eval (.tmp 5)=.pointer (some ⟨b5,0,none⟩))(h9:a.eval (.tmp 9)=e9)(h10:a.eval (.tmp 10)=.bool o10)(hS:FS w0 w g v l b3 b4 b5 n xr k m ve)(hP:∀ a' w',SzD a' 343->a'.eval (.tmp 0)=.pointer (some ⟨g,0,none⟩)->a'.eval (.tmp 3)=.pointer (some ⟨b3,0,none⟩)->a'.eval (.tmp 4)=.pointer (some ⟨b4,0,none⟩)->a'.eval (.tmp 5)=.pointer (some ⟨b5,0,none⟩)->a'.eval (.tmp 9)=e9->a'.eval (.tmp 10)=.bool o10->a'.eval (.tmp 197)=.bool o10->FS w0 w' g v l b3 b4 b5 n xr k m ve->K a' w'):(Z1 0 (Z1 21 (Z3 Tryz.f54))).wp Tryz.prog (Exit.then K Q) a w:=by
 obtain ⟨t,rfl⟩:=hF.opened;clear hF;rw [Z3z]
 try dsimp only
 rw [show t 0=_ from h0,show t 3=_ from h3,show t 4=_ from h4,show t 5=_ from h5,show t 9=_ from h9,show t 10=_ from h10];clear h0 h3 h4 h5 h9 h10;have HS:Hid (FS w0 w g v l b3 b4 b5 n xr k m ve):=hS;clear hS
 conv=>arg 2;whnf
 go_wp2_with fail
 exact hP _ _ ⟨rfl,rfl⟩ rfl rfl rfl rfl rfl rfl rfl HS.out
theorem df41 {w0:World}{g k b3 b4 b5:Nat}{v:Value}{l:List Int}{n:Nd}{xr:RV}{m:Mg}{ve:Value}(hL:l.length<=1048576)(hk:k<=890000000)(hvl0:∃ a c,xr.vl=.slice a n.log.length c)(hlg:n.log.length<=4096){t9:Int}{e10:Value}{Q:Exit->Act->World->Prop}{K:Act->World->Prop}{a:Act}{w:World}(hF:SzD a 343)(h0:a.eval (.tmp 0)=.pointer (some ⟨g,0,none⟩))(h3:a.eval (.tmp 3)=.pointer (some ⟨b3,0,none⟩))(h4:a.eval (.tmp 4)=.pointer (some ⟨b4,0,none⟩))(h5:a.eval (.tmp 5)=.pointer (some ⟨b5,0,none⟩))(h9:a.eval (.tmp 9)=.int .i64 t9)(h10:a.eval (.tmp 10)=e10)(hS:FS w0 w g v l b3 b4 b5 n xr k m ve)(hP:∀ a' w',SzD a' 343->a'.eval (.tmp 0)=.pointer (some ⟨g,0,none⟩)->a'.eval (.tmp 3)=.pointer (some ⟨b3,0,none⟩)->a'.eval (.tmp 4)=.pointer (some ⟨b4,0,none⟩)->a'.eval (.tmp 5)=.pointer (some ⟨b5,0,none⟩)->a'.eval (.tmp 10)=e10->a'.eval (.tmp 9)=.int .i64 (max 0 (min ((n.log.length:Int)-1-((Z5 l k 3:Nat):Int)) (max t9 n.cm)))->FS w0 w' g v l b3 b4 b5 n xr (k+1) m ve->K a' w'):(Zj (Z2 1 (Z1 21 (Z3 Tryz.f54)))).wp Tryz.prog (Exit.then K Q) a w:=by
 obtain ⟨ra,rc,hvl⟩:=hvl0;have Hvl:Hid (xr.vl=.slice ra n.log.length rc):=hvl;obtain ⟨N,hN⟩:∃ N,N=n.log.length:=⟨_,rfl⟩;rw [<-hN] at hP Hvl hlg;clear hN hvl;obtain ⟨p,hp⟩:∃ p,p=Z5 l k 3:=⟨_,rfl⟩;have Hp:Hid (p=Z5 l k 3):=hp;rw [<-hp] at hP;have bp:p<3:=by rw [hp];exact Zf _ _ _ (by omega)
 clear hp;obtain ⟨A1,hA1⟩:∃ q,q=max t9 n.cm:=⟨_,rfl⟩;have H1:Hid (A1=max t9 n.cm):=hA1;obtain ⟨A2,hA2⟩:∃ q,q=min ((N:Int)-1-(p:Int)) A1:=⟨_,rfl⟩;have H2:Hid (A2=min ((N:Int)-1-(p:Int)) A1):=hA2;obtain ⟨A3,hA3⟩:∃ q,q=max 0 A2:=⟨_,rfl⟩;have H3:Hid (A3=max 0 A2):=hA3;rw [<-hA1,<-hA2,<-hA3] at hP;clear hA1 hA2 hA3
 conv=>arg 2;whnf
 refine Xg (fun a0=>a0.tmps.size=343/\a0.eval (.tmp 0)=.pointer (some ⟨g,0,none⟩)/\a0.eval (.tmp 3)=.pointer (some ⟨b3,0,none⟩)/\a0.eval (.tmp 9)=.int .i64 t9) (fun a0 aF w'=>∃ x:Nat->Value,aF=frame a0 [198,199,200,201,202,203,204,205,206,207,208,209,210,9] x/\(FS w0 w' g v l b3 b4 b5 n xr (k+1) m ve/\x 9=.int .i64 A3)) ?_ ⟨hF.1,h0,h3,h9⟩ ?_
 ·rintro a0 ⟨hsz0,e0,e3,e9⟩
  refine Y7 (by kernel_rfl) (fun L aF w'=>∃ x:Nat->Value,aF=frame a0 [198,199,200,201,202,203,204,205,206,207,208,209,210,9] x/\(St3 (fun W=>FS w0 W g v l b3 b4 b5 n xr k m ve) (fun W=>FS w0 W g v l b3 b4 b5 n xr k m ve) (fun W=>FS w0 W g v l b3 b4 b5 n xr (k+1) m ve)) (L.getD 5 false) (L.getD 5 false) w'/\(L.getD 0 false=true->x 198=.pointer (some ⟨b3,12,none⟩))/\(L.getD 1 false=true->x 199=.slice ra N rc)/\(L.getD 2 false=true->x 200=.int .i64 (N:Int))/\(L.getD 3 false=true->x 201=.int .i64 ((N:Int)-1))/\(L.getD 4 false=true->x 202=.pointer (some ⟨g,0,none⟩))/\(L.getD 5 false=true->x 203=.int .i64 (p:Int))/\(L.getD 6 false=true->x 204=.int .i64 ((N:Int)-1-(p:Int)))/\(L.getD 7 false=true->x 205=.int .i64 t9)/\(L.getD 8 false=true->x 206=.pointer (some ⟨b3,8,none⟩))/\(L.getD 9 false=true->x 207=.int .i64 n.cm)/\(L.getD 10 false=true->x 208=.int .i64 A1/\L.getD 7 false=true)/\(L.getD 11 false=true->x 209=.int .i64 A2/\L.getD 7 false=true)/\(L.getD 12 false=true->x 210=.int .i64 A3/\L.getD 7 false=true)/\(L.getD 13 false=true->x 9=.int .i64 A3/\L.getD 7 false=true)/\(L.getD 13 false=false->x 9=.int .i64 t9)) ?_ ?_ ?_
  ·refine ⟨_,Yk a0 [198,199,200,201,202,203,204,205,206,207,208,209,210,9],?_,fun h=>(Zl h).elim,fun h=>(Zl h).elim,fun h=>(Zl h).elim,fun h=>(Zl h).elim,fun h=>(Zl h).elim,fun h=>(Zl h).elim,fun h=>(Zl h).elim,fun h=>(Zl h).elim,fun h=>(Zl h).elim,fun h=>(Zl h).elim,fun h=>(Zl h).elim,fun h=>(Zl h).elim,fun h=>(Zl h).elim,fun h=>(Zl h).elim,fun _=>e9⟩
   rw [Z05];exact hS.drew
  ·rintro L a w' i hsL hi ⟨x,rfl,hS,h0,h1,h2,h3,h4,h5,h6,h7,h8,h9,h10,h11,h12,h13,p9⟩
   have hlt:∀ j,j<14->j<L.size:=fun j hj=>by rw [hsL];exact hj
   have hsl:∀ j,j<343->j<a0.tmps.size:=fun j hj=>by rw [hsz0];exact hj
   have hiL:i<14:=(Zx hsL hi).1;have hLz:L.size=14:=hsL;have hcl:w'.cell? ⟨b3,12,none⟩=some (.slice ra N rc):=by refine St3.any (P:=fun W=>W.cell? ⟨b3,12,none⟩=some (.slice ra N rc)) ?_ ?_ ?_ hS <;> intro W h <;> (rw [<-Hvl.out];exact (FS.nb h).cell 12)
   have hcb38:w'.cell? ⟨b3,8,none⟩=some (.int .i64 n.cm):=by refine St3.any (P:=fun W=>W.cell? ⟨b3,8,none⟩=some (.int .i64 n.cm)) ?_ ?_ ?_ hS <;> intro W h <;> exact (FS.nb h).cell 8
   rcases (show i=0∨i=1∨i=2∨i=3∨i=4∨i=5∨i=6∨i=7∨i=8∨i=9∨i=10∨i=11∨i=12∨i=13 by omega) with rfl | rfl | rfl | rfl | rfl | rfl | rfl | rfl | rfl | rfl | rfl | rfl | rfl | rfl
   ·skip
    have hz:=hlt 0 (by decide);have ev3:(frame a0 [198,199,200,201,202,203,204,205,206,207,208,209,210,9] x).tmps[3]?.getD undef=.pointer (some ⟨b3,0,none⟩):=by have h:=(Zc a0 [198,199,200,201,202,203,204,205,206,207,208,209,210,9] x 3 rfl).trans e3;simpa [Act.eval] using h
    refine Z8 rfl rfl (Zd (v:=.pointer (some ⟨b3,12,none⟩)) ?_ ?_)
    ·obtain ⟨aa,haa⟩:∃ aa,aa=frame a0 [198,199,200,201,202,203,204,205,206,207,208,209,210,9] x:=⟨_,rfl⟩
     rw [<-haa] at ev3 ⊢;clear haa;go_simp
    exact ⟨_,Z9 _ _ _ 198 _ rfl,(by rw [Zp hz (by decide)];exact hS),fun h=>Zb _ _ _,fun h=>ke2 h1 hz h,fun h=>ke2 h2 hz h,fun h=>ke2 h3 hz h,fun h=>ke2 h4 hz h,fun h=>ke2 h5 hz h,fun h=>ke2 h6 hz h,fun h=>ke2 h7 hz h,fun h=>ke2 h8 hz h,fun h=>ke2 h9 hz h,fun h=>⟨(Z6 _ _ _ _ (by decide)).trans (h10 (kb h hz)).1,Zh (h10 (kb h hz)).2 hz⟩,fun h=>⟨(Z6 _ _ _ _ (by decide)).trans (h11 (kb h hz)).1,Zh (h11 (kb h hz)).2 hz⟩,fun h=>⟨(Z6 _ _ _ _ (by decide)).trans (h12 (kb h hz)).1,Zh (h12 (kb h hz)).2 hz⟩,fun h=>⟨(Z6 _ _ _ _ (by decide)).trans (h13 (kb h hz)).1,Zh (h13 (kb h hz)).2 hz⟩,fun h=>(Z6 _ _ _ _ (by decide)).trans (p9 (by rwa [Zp hz (by decide)] at h))⟩
   ·have d0:=h0 (Z7 hi (by decide))
    have hz:=hlt 1 (by decide);have ev198:(frame a0 [198,199,200,201,202,203,204,205,206,207,208,209,210,9] x).tmps[198]?.getD undef=.pointer (some ⟨b3,12,none⟩):=by have h:=(Z4 a0 [198,199,200,201,202,203,204,205,206,207,208,209,210,9] x 198 rfl (hsl 198 (by decide))).trans d0;simpa [Act.eval] using h
    refine Z8 rfl rfl (Zd (v:=.slice ra N rc) ?_ ?_)
    ·obtain ⟨aa,haa⟩:∃ aa,aa=frame a0 [198,199,200,201,202,203,204,205,206,207,208,209,210,9] x:=⟨_,rfl⟩
     rw [<-haa] at ev198 ⊢;clear haa;go_simp
    exact ⟨_,Z9 _ _ _ 199 _ rfl,(by rw [Zp hz (by decide)];exact hS),fun h=>ke2 h0 hz h,fun h=>Zb _ _ _,fun h=>ke2 h2 hz h,fun h=>ke2 h3 hz h,fun h=>ke2 h4 hz h,fun h=>ke2 h5 hz h,fun h=>ke2 h6 hz h,fun h=>ke2 h7 hz h,fun h=>ke2 h8 hz h,fun h=>ke2 h9 hz h,fun h=>⟨(Z6 _ _ _ _ (by decide)).trans (h10 (kb h hz)).1,Zh (h10 (kb h hz)).2 hz⟩,fun h=>⟨(Z6 _ _ _ _ (by decide)).trans (h11 (kb h hz)).1,Zh (h11 (kb h hz)).2 hz⟩,fun h=>⟨(Z6 _ _ _ _ (by decide)).trans (h12 (kb h hz)).1,Zh (h12 (kb h hz)).2 hz⟩,fun h=>⟨(Z6 _ _ _ _ (by decide)).trans (h13 (kb h hz)).1,Zh (h13 (kb h hz)).2 hz⟩,fun h=>(Z6 _ _ _ _ (by decide)).trans (p9 (by rwa [Zp hz (by decide)] at h))⟩
   ·have d1:=h1 (Z7 hi (by decide))
    have hz:=hlt 2 (by decide);have ev199:(frame a0 [198,199,200,201,202,203,204,205,206,207,208,209,210,9] x).tmps[199]?.getD undef=.slice ra N rc:=by have h:=(Z4 a0 [198,199,200,201,202,203,204,205,206,207,208,209,210,9] x 199 rfl (hsl 199 (by decide))).trans d1;simpa [Act.eval] using h
    refine Z8 rfl rfl (Zd (v:=.int .i64 (N:Int)) ?_ ?_)
    ·obtain ⟨aa,haa⟩:∃ aa,aa=frame a0 [198,199,200,201,202,203,204,205,206,207,208,209,210,9] x:=⟨_,rfl⟩
     rw [<-haa] at ev199 ⊢;clear haa;go_simp
    exact ⟨_,Z9 _ _ _ 200 _ rfl,(by rw [Zp hz (by decide)];exact hS),fun h=>ke2 h0 hz h,fun h=>ke2 h1 hz h,fun h=>Zb _ _ _,fun h=>ke2 h3 hz h,fun h=>ke2 h4 hz h,fun h=>ke2 h5 hz h,fun h=>ke2 h6 hz h,fun h=>ke2 h7 hz h,fun h=>ke2 h8 hz h,fun h=>ke2 h9 hz h,fun h=>⟨(Z6 _ _ _ _ (by decide)).trans (h10 (kb h hz)).1,Zh (h10 (kb h hz)).2 hz⟩,fun h=>⟨(Z6 _ _ _ _ (by decide)).trans (h11 (kb h hz)).1,Zh (h11 (kb h hz)).2 hz⟩,fun h=>⟨(Z6 _ _ _ _ (by decide)).trans (h12 (kb h hz)).1,Zh (h12 (kb h hz)).2 hz⟩,fun h=>⟨(Z6 _ _ _ _ (by decide)).trans (h13 (kb h hz)).1,Zh (h13 (kb h hz)).2 hz⟩,fun h=>(Z6 _ _ _ _ (by decide)).trans (p9 (by rwa [Zp hz (by decide)] at h))⟩
   ·have d2:=h2 (Z7 hi (by decide))
    have hz:=hlt 3 (by decide);have ev200:(frame a0 [198,199,200,201,202,203,204,205,206,207,208,209,210,9] x).tmps[200]?.getD undef=.int .i64 (N:Int):=by have h:=(Z4 a0 [198,199,200,201,202,203,204,205,206,207,208,209,210,9] x 200 rfl (hsl 200 (by decide))).trans d2;simpa [Act.eval] using h
    refine Z8 rfl rfl (Zd (v:=.int .i64 ((N:Int)-1)) ?_ ?_)
    ·obtain ⟨aa,haa⟩:∃ aa,aa=frame a0 [198,199,200,201,202,203,204,205,206,207,208,209,210,9] x:=⟨_,rfl⟩
     rw [<-haa] at ev200 ⊢;clear haa;go_simp;rw [IntKind.wrap_i64];omega
    exact ⟨_,Z9 _ _ _ 201 _ rfl,(by rw [Zp hz (by decide)];exact hS),fun h=>ke2 h0 hz h,fun h=>ke2 h1 hz h,fun h=>ke2 h2 hz h,fun h=>Zb _ _ _,fun h=>ke2 h4 hz h,fun h=>ke2 h5 hz h,fun h=>ke2 h6 hz h,fun h=>ke2 h7 hz h,fun h=>ke2 h8 hz h,fun h=>ke2 h9 hz h,fun h=>⟨(Z6 _ _ _ _ (by decide)).trans (h10 (kb h hz)).1,Zh (h10 (kb h hz)).2 hz⟩,fun h=>⟨(Z6 _ _ _ _ (by decide)).trans (h11 (kb h hz)).1,Zh (h11 (kb h hz)).2 hz⟩,fun h=>⟨(Z6 _ _ _ _ (by decide)).trans (h12 (kb h hz)).1,Zh (h12 (kb h hz)).2 hz⟩,fun h=>⟨(Z6 _ _ _ _ (by decide)).trans (h13 (kb h hz)).1,Zh (h13 (kb h hz)).2 hz⟩,fun h=>(Z6 _ _ _ _ (by decide)).trans (p9 (by rwa [Zp hz (by decide)] at h))⟩
   ·skip
    have hz:=hlt 4 (by decide);refine Z8 rfl rfl (Y0 (.tmp 0) (Or.inl rfl) ?_);rw [Zc _ _ _ 0 rfl,e0];exact ⟨_,Z9 _ _ _ 202 _ rfl,(by rw [Zp hz (by decide)];exact hS),fun h=>ke2 h0 hz h,fun h=>ke2 h1 hz h,fun h=>ke2 h2 hz h,fun h=>ke2 h3 hz h,fun h=>Zb _ _ _,fun h=>ke2 h5 hz h,fun h=>ke2 h6 hz h,fun h=>ke2 h7 hz h,fun h=>ke2 h8 hz h,fun h=>ke2 h9 hz h,fun h=>⟨(Z6 _ _ _ _ (by decide)).trans (h10 (kb h hz)).1,Zh (h10 (kb h hz)).2 hz⟩,fun h=>⟨(Z6 _ _ _ _ (by decide)).trans (h11 (kb h hz)).1,Zh (h11 (kb h hz)).2 hz⟩,fun h=>⟨(Z6 _ _ _ _ (by decide)).trans (h12 (kb h hz)).1,Zh (h12 (kb h hz)).2 hz⟩,fun h=>⟨(Z6 _ _ _ _ (by decide)).trans (h13 (kb h hz)).1,Zh (h13 (kb h hz)).2 hz⟩,fun h=>(Z6 _ _ _ _ (by decide)).trans (p9 (by rwa [Zp hz (by decide)] at h))⟩
   ·have d4:=h4 (Z7 hi (by decide))
    have hz:=hlt 5 (by decide);have ev202:=(Z4 a0 [198,199,200,201,202,203,204,205,206,207,208,209,210,9] x 202 rfl (hsl 202 (by decide))).trans d4;refine Z8 rfl rfl (Y4 (N:=53) rfl (fun _ _=>by go_simp) #[.pointer (some ⟨g,0,none⟩),.int .i64 3] (by simp only [List.map_toArray,List.map_cons,List.map_nil,ev202,Z0w]) ?_);have hb5:L.getD 5 false=false:=by have h9:=(Zx hsL hi).2;rw [Array.getD_eq_getD_getElem?,h9];rfl
    rw [hb5] at hS;have hS0:FS w0 w' g v l b3 b4 b5 n xr k m ve:=hS;refine Calls.mono (FS.pick1 hS0 3 hL (by omega) (by omega) (by omega)) ?_;rw [<-Hp.out];rintro e w2 ⟨rfl,hd⟩;refine ⟨_,rfl,?_⟩;exact ⟨_,Z9 _ _ _ 203 _ rfl,(by rw [Yo hz];exact hd),fun h=>ke2 h0 hz h,fun h=>ke2 h1 hz h,fun h=>ke2 h2 hz h,fun h=>ke2 h3 hz h,fun h=>ke2 h4 hz h,fun h=>Zb _ _ _,fun h=>ke2 h6 hz h,fun h=>ke2 h7 hz h,fun h=>ke2 h8 hz h,fun h=>ke2 h9 hz h,fun h=>⟨(Z6 _ _ _ _ (by decide)).trans (h10 (kb h hz)).1,Zh (h10 (kb h hz)).2 hz⟩,fun h=>⟨(Z6 _ _ _ _ (by decide)).trans (h11 (kb h hz)).1,Zh (h11 (kb h hz)).2 hz⟩,fun h=>⟨(Z6 _ _ _ _ (by decide)).trans (h12 (kb h hz)).1,Zh (h12 (kb h hz)).2 hz⟩,fun h=>⟨(Z6 _ _ _ _ (by decide)).trans (h13 (kb h hz)).1,Zh (h13 (kb h hz)).2 hz⟩,fun h=>(Z6 _ _ _ _ (by decide)).trans (p9 (by rwa [Zp hz (by decide)] at h))⟩
   ·have d3:=h3 (Z7 hi (by decide))
    have d5:=h5 (Z7 hi (by decide));have hz:=hlt 6 (by decide);have ev201:(frame a0 [198,199,200,201,202,203,204,205,206,207,208,209,210,9] x).tmps[201]?.getD undef=.int .i64 ((N:Int)-1):=by have h:=(Z4 a0 [198,199,200,201,202,203,204,205,206,207,208,209,210,9] x 201 rfl (hsl 201 (by decide))).trans d3;simpa [Act.eval] using h
    have ev203:(frame a0 [198,199,200,201,202,203,204,205,206,207,208,209,210,9] x).tmps[203]?.getD undef=.int .i64 (p:Int):=by have h:=(Z4 a0 [198,199,200,201,202,203,204,205,206,207,208,209,210,9] x 203 rfl (hsl 203 (by decide))).trans d5;simpa [Act.eval] using h
    refine Z8 rfl rfl (Zd (v:=.int .i64 ((N:Int)-1-(p:Int))) ?_ ?_)
    ·obtain ⟨aa,haa⟩:∃ aa,aa=frame a0 [198,199,200,201,202,203,204,205,206,207,208,209,210,9] x:=⟨_,rfl⟩
     rw [<-haa] at ev201 ev203 ⊢;clear haa;go_simp;rw [IntKind.wrap_i64];omega
    exact ⟨_,Z9 _ _ _ 204 _ rfl,(by rw [Zp hz (by decide)];exact hS),fun h=>ke2 h0 hz h,fun h=>ke2 h1 hz h,fun h=>ke2 h2 hz h,fun h=>ke2 h3 hz h,fun h=>ke2 h4 hz h,fun h=>ke2 h5 hz h,fun h=>Zb _ _ _,fun h=>ke2 h7 hz h,fun h=>ke2 h8 hz h,fun h=>ke2 h9 hz h,fun h=>⟨(Z6 _ _ _ _ (by decide)).trans (h10 (kb h hz)).1,Zh (h10 (kb h hz)).2 hz⟩,fun h=>⟨(Z6 _ _ _ _ (by decide)).trans (h11 (kb h hz)).1,Zh (h11 (kb h hz)).2 hz⟩,fun h=>⟨(Z6 _ _ _ _ (by decide)).trans (h12 (kb h hz)).1,Zh (h12 (kb h hz)).2 hz⟩,fun h=>⟨(Z6 _ _ _ _ (by decide)).trans (h13 (kb h hz)).1,Zh (h13 (kb h hz)).2 hz⟩,fun h=>(Z6 _ _ _ _ (by decide)).trans (p9 (by rwa [Zp hz (by decide)] at h))⟩
   ·skip
    have hz:=hlt 7 (by decide);refine Z8 rfl rfl (Y0 (.tmp 9) (Or.inl rfl) ?_);have nb7:L.getD 7 false=false:=by have h9:=(Zx hsL hi).2;rw [Array.getD_eq_getD_getElem?,h9];rfl
    have nq13:L.getD 13 false=false:=Bool.eq_false_iff.mpr (fun hq=>by have h9:=(h13 hq).2;rw [nb7] at h9;exact absurd h9 (by decide));rw [Z4 _ _ _ 9 rfl (hsl 9 (by decide)),p9 nq13];exact ⟨_,Z9 _ _ _ 205 _ rfl,(by rw [Zp hz (by decide)];exact hS),fun h=>ke2 h0 hz h,fun h=>ke2 h1 hz h,fun h=>ke2 h2 hz h,fun h=>ke2 h3 hz h,fun h=>ke2 h4 hz h,fun h=>ke2 h5 hz h,fun h=>ke2 h6 hz h,fun h=>Zb _ _ _,fun h=>ke2 h8 hz h,fun h=>ke2 h9 hz h,fun h=>⟨(Z6 _ _ _ _ (by decide)).trans (h10 (kb h hz)).1,Zh (h10 (kb h hz)).2 hz⟩,fun h=>⟨(Z6 _ _ _ _ (by decide)).trans (h11 (kb h hz)).1,Zh (h11 (kb h hz)).2 hz⟩,fun h=>⟨(Z6 _ _ _ _ (by decide)).trans (h12 (kb h hz)).1,Zh (h12 (kb h hz)).2 hz⟩,fun h=>⟨(Z6 _ _ _ _ (by decide)).trans (h13 (kb h hz)).1,Zh (h13 (kb h hz)).2 hz⟩,fun h=>(Z6 _ _ _ _ (by decide)).trans (p9 (by rwa [Zp hz (by decide)] at h))⟩
   ·skip
    have hz:=hlt 8 (by decide);have ev3:(frame a0 [198,199,200,201,202,203,204,205,206,207,208,209,210,9] x).tmps[3]?.getD undef=.pointer (some ⟨b3,0,none⟩):=by have h:=(Zc a0 [198,199,200,201,202,203,204,205,206,207,208,209,210,9] x 3 rfl).trans e3;simpa [Act.eval] using h
    refine Z8 rfl rfl (Zd (v:=.pointer (some ⟨b3,8,none⟩)) ?_ ?_)
    ·obtain ⟨aa,haa⟩:∃ aa,aa=frame a0 [198,199,200,201,202,203,204,205,206,207,208,209,210,9] x:=⟨_,rfl⟩
     rw [<-haa] at ev3 ⊢;clear haa;go_simp
    exact ⟨_,Z9 _ _ _ 206 _ rfl,(by rw [Zp hz (by decide)];exact hS),fun h=>ke2 h0 hz h,fun h=>ke2 h1 hz h,fun h=>ke2 h2 hz h,fun h=>ke2 h3 hz h,fun h=>ke2 h4 hz h,fun h=>ke2 h5 hz h,fun h=>ke2 h6 hz h,fun h=>ke2 h7 hz h,fun h=>Zb _ _ _,fun h=>ke2 h9 hz h,fun h=>⟨(Z6 _ _ _ _ (by decide)).trans (h10 (kb h hz)).1,Zh (h10 (kb h hz)).2 hz⟩,fun h=>⟨(Z6 _ _ _ _ (by decide)).trans (h11 (kb h hz)).1,Zh (h11 (kb h hz)).2 hz⟩,fun h=>⟨(Z6 _ _ _ _ (by decide)).trans (h12 (kb h hz)).1,Zh (h12 (kb h hz)).2 hz⟩,fun h=>⟨(Z6 _ _ _ _ (by decide)).trans (h13 (kb h hz)).1,Zh (h13 (kb h hz)).2 hz⟩,fun h=>(Z6 _ _ _ _ (by decide)).trans (p9 (by rwa [Zp hz (by decide)] at h))⟩
   ·have d8:=h8 (Z7 hi (by decide))
    have hz:=hlt 9 (by decide);have ev206:(frame a0 [198,199,200,201,202,203,204,205,206,207,208,209,210,9] x).tmps[206]?.getD undef=.pointer (some ⟨b3,8,none⟩):=by have h:=(Z4 a0 [198,199,200,201,202,203,204,205,206,207,208,209,210,9] x 206 rfl (hsl 206 (by decide))).trans d8;simpa [Act.eval] using h
    refine Z8 rfl rfl (Zd (v:=.int .i64 n.cm) ?_ ?_)
    ·obtain ⟨aa,haa⟩:∃ aa,aa=frame a0 [198,199,200,201,202,203,204,205,206,207,208,209,210,9] x:=⟨_,rfl⟩
     rw [<-haa] at ev206 ⊢;clear haa;go_simp
    exact ⟨_,Z9 _ _ _ 207 _ rfl,(by rw [Zp hz (by decide)];exact hS),fun h=>ke2 h0 hz h,fun h=>ke2 h1 hz h,fun h=>ke2 h2 hz h,fun h=>ke2 h3 hz h,fun h=>ke2 h4 hz h,fun h=>ke2 h5 hz h,fun h=>ke2 h6 hz h,fun h=>ke2 h7 hz h,fun h=>ke2 h8 hz h,fun h=>Zb _ _ _,fun h=>⟨(Z6 _ _ _ _ (by decide)).trans (h10 (kb h hz)).1,Zh (h10 (kb h hz)).2 hz⟩,fun h=>⟨(Z6 _ _ _ _ (by decide)).trans (h11 (kb h hz)).1,Zh (h11 (kb h hz)).2 hz⟩,fun h=>⟨(Z6 _ _ _ _ (by decide)).trans (h12 (kb h hz)).1,Zh (h12 (kb h hz)).2 hz⟩,fun h=>⟨(Z6 _ _ _ _ (by decide)).trans (h13 (kb h hz)).1,Zh (h13 (kb h hz)).2 hz⟩,fun h=>(Z6 _ _ _ _ (by decide)).trans (p9 (by rwa [Zp hz (by decide)] at h))⟩
   ·have d7:=h7 (Z7 hi (by decide))
    have d9:=h9 (Z7 hi (by decide));have hz:=hlt 10 (by decide);have ev205:=(Z4 a0 [198,199,200,201,202,203,204,205,206,207,208,209,210,9] x 205 rfl (hsl 205 (by decide))).trans d7;have ev207:=(Z4 a0 [198,199,200,201,202,203,204,205,206,207,208,209,210,9] x 207 rfl (hsl 207 (by decide))).trans d9;refine Z8 rfl rfl (Y4 (N:=94) rfl (fun _ _=>by go_simp) #[.int .i64 t9,.int .i64 n.cm] (by simp only [List.map_toArray,List.map_cons,List.map_nil,ev205,ev207]) ?_);refine Calls.mono (Jm _ _ _) ?_;rw [<-H1.out];rintro e w2 ⟨rfl,rfl⟩;refine ⟨_,rfl,?_⟩;exact ⟨_,Z9 _ _ _ 208 _ rfl,(by rw [Zp hz (by decide)];exact hS),fun h=>ke2 h0 hz h,fun h=>ke2 h1 hz h,fun h=>ke2 h2 hz h,fun h=>ke2 h3 hz h,fun h=>ke2 h4 hz h,fun h=>ke2 h5 hz h,fun h=>ke2 h6 hz h,fun h=>ke2 h7 hz h,fun h=>ke2 h8 hz h,fun h=>ke2 h9 hz h,fun h=>⟨Zb _ _ _,Zh (Z7 hi (by decide)) hz⟩,fun h=>⟨(Z6 _ _ _ _ (by decide)).trans (h11 (kb h hz)).1,Zh (h11 (kb h hz)).2 hz⟩,fun h=>⟨(Z6 _ _ _ _ (by decide)).trans (h12 (kb h hz)).1,Zh (h12 (kb h hz)).2 hz⟩,fun h=>⟨(Z6 _ _ _ _ (by decide)).trans (h13 (kb h hz)).1,Zh (h13 (kb h hz)).2 hz⟩,fun h=>(Z6 _ _ _ _ (by decide)).trans (p9 (by rwa [Zp hz (by decide)] at h))⟩
   ·have d6:=h6 (Z7 hi (by decide))
    have d10:=h10 (Z7 hi (by decide));have hz:=hlt 11 (by decide);have ev204:=(Z4 a0 [198,199,200,201,202,203,204,205,206,207,208,209,210,9] x 204 rfl (hsl 204 (by decide))).trans d6;have ev208:=(Z4 a0 [198,199,200,201,202,203,204,205,206,207,208,209,210,9] x 208 rfl (hsl 208 (by decide))).trans d10.1;refine Z8 rfl rfl (Y4 (N:=55) rfl (fun _ _=>by go_simp) #[.int .i64 ((N:Int)-1-(p:Int)),.int .i64 A1] (by simp only [List.map_toArray,List.map_cons,List.map_nil,ev204,ev208]) ?_);refine Calls.mono (Xf _ _ _) ?_;rw [<-H2.out];rintro e w2 ⟨rfl,rfl⟩;refine ⟨_,rfl,?_⟩;exact ⟨_,Z9 _ _ _ 209 _ rfl,(by rw [Zp hz (by decide)];exact hS),fun h=>ke2 h0 hz h,fun h=>ke2 h1 hz h,fun h=>ke2 h2 hz h,fun h=>ke2 h3 hz h,fun h=>ke2 h4 hz h,fun h=>ke2 h5 hz h,fun h=>ke2 h6 hz h,fun h=>ke2 h7 hz h,fun h=>ke2 h8 hz h,fun h=>ke2 h9 hz h,fun h=>⟨(Z6 _ _ _ _ (by decide)).trans (h10 (kb h hz)).1,Zh (h10 (kb h hz)).2 hz⟩,fun h=>⟨Zb _ _ _,Zh d10.2 hz⟩,fun h=>⟨(Z6 _ _ _ _ (by decide)).trans (h12 (kb h hz)).1,Zh (h12 (kb h hz)).2 hz⟩,fun h=>⟨(Z6 _ _ _ _ (by decide)).trans (h13 (kb h hz)).1,Zh (h13 (kb h hz)).2 hz⟩,fun h=>(Z6 _ _ _ _ (by decide)).trans (p9 (by rwa [Zp hz (by decide)] at h))⟩
   ·have d11:=h11 (Z7 hi (by decide))
    have hz:=hlt 12 (by decide);have ev209:=(Z4 a0 [198,199,200,201,202,203,204,205,206,207,208,209,210,9] x 209 rfl (hsl 209 (by decide))).trans d11.1;refine Z8 rfl rfl (Y4 (N:=94) rfl (fun _ _=>by go_simp) #[.int .i64 0,.int .i64 A2] (by simp only [List.map_toArray,List.map_cons,List.map_nil,ev209,Z0w]) ?_);refine Calls.mono (Jm _ _ _) ?_;rw [<-H3.out];rintro e w2 ⟨rfl,rfl⟩;refine ⟨_,rfl,?_⟩;exact ⟨_,Z9 _ _ _ 210 _ rfl,(by rw [Zp hz (by decide)];exact hS),fun h=>ke2 h0 hz h,fun h=>ke2 h1 hz h,fun h=>ke2 h2 hz h,fun h=>ke2 h3 hz h,fun h=>ke2 h4 hz h,fun h=>ke2 h5 hz h,fun h=>ke2 h6 hz h,fun h=>ke2 h7 hz h,fun h=>ke2 h8 hz h,fun h=>ke2 h9 hz h,fun h=>⟨(Z6 _ _ _ _ (by decide)).trans (h10 (kb h hz)).1,Zh (h10 (kb h hz)).2 hz⟩,fun h=>⟨(Z6 _ _ _ _ (by decide)).trans (h11 (kb h hz)).1,Zh (h11 (kb h hz)).2 hz⟩,fun h=>⟨Zb _ _ _,Zh d11.2 hz⟩,fun h=>⟨(Z6 _ _ _ _ (by decide)).trans (h13 (kb h hz)).1,Zh (h13 (kb h hz)).2 hz⟩,fun h=>(Z6 _ _ _ _ (by decide)).trans (p9 (by rwa [Zp hz (by decide)] at h))⟩
   ·have d12:=h12 (Z7 hi (by decide))
    have hz:=hlt 13 (by decide);have ev210:(frame a0 [198,199,200,201,202,203,204,205,206,207,208,209,210,9] x).tmps[210]?.getD undef=.int .i64 A3:=by have h:=(Z4 a0 [198,199,200,201,202,203,204,205,206,207,208,209,210,9] x 210 rfl (hsl 210 (by decide))).trans d12.1;simpa [Act.eval] using h
    refine Z8 rfl rfl (Zd (v:=.int .i64 A3) ?_ ?_)
    ·obtain ⟨aa,haa⟩:∃ aa,aa=frame a0 [198,199,200,201,202,203,204,205,206,207,208,209,210,9] x:=⟨_,rfl⟩
     rw [<-haa] at ev210 ⊢;clear haa;go_simp
    exact ⟨_,Z9 _ _ _ 9 _ rfl,(by rw [Zp hz (by decide)];exact hS),fun h=>ke2 h0 hz h,fun h=>ke2 h1 hz h,fun h=>ke2 h2 hz h,fun h=>ke2 h3 hz h,fun h=>ke2 h4 hz h,fun h=>ke2 h5 hz h,fun h=>ke2 h6 hz h,fun h=>ke2 h7 hz h,fun h=>ke2 h8 hz h,fun h=>ke2 h9 hz h,fun h=>⟨(Z6 _ _ _ _ (by decide)).trans (h10 (kb h hz)).1,Zh (h10 (kb h hz)).2 hz⟩,fun h=>⟨(Z6 _ _ _ _ (by decide)).trans (h11 (kb h hz)).1,Zh (h11 (kb h hz)).2 hz⟩,fun h=>⟨(Z6 _ _ _ _ (by decide)).trans (h12 (kb h hz)).1,Zh (h12 (kb h hz)).2 hz⟩,fun h=>⟨Zb _ _ _,Zh d12.2 hz⟩,fun h=>Bool.noConfusion ((Yo hz).symm.trans h)⟩
  ·rintro L a w' hsL hr ⟨x,rfl,hS,h0,h1,h2,h3,h4,h5,h6,h7,h8,h9,h10,h11,h12,h13,p9⟩
   have hall:=Yq hsL hr (by decide);replace h0:=h0 (hall 0 (by decide));replace h1:=h1 (hall 1 (by decide));replace h2:=h2 (hall 2 (by decide));replace h3:=h3 (hall 3 (by decide));replace h4:=h4 (hall 4 (by decide));replace h5:=h5 (hall 5 (by decide));replace h6:=h6 (hall 6 (by decide));replace h7:=h7 (hall 7 (by decide));replace h8:=h8 (hall 8 (by decide));replace h9:=h9 (hall 9 (by decide));replace h10:=h10 (hall 10 (by decide));replace h11:=h11 (hall 11 (by decide));replace h12:=h12 (hall 12 (by decide));replace h13:=h13 (hall 13 (by decide));rw [hall 5 (by decide)] at hS;exact ⟨rfl,x,rfl,⟨hS,h13.1⟩⟩
 ·rintro a' w' ⟨x,rfl,hFin⟩
  exact hP _ _ (hF.frame _ _) ((Zc a [198,199,200,201,202,203,204,205,206,207,208,209,210,9] x 0 rfl).trans h0) ((Zc a [198,199,200,201,202,203,204,205,206,207,208,209,210,9] x 3 rfl).trans h3) ((Zc a [198,199,200,201,202,203,204,205,206,207,208,209,210,9] x 4 rfl).trans h4) ((Zc a [198,199,200,201,202,203,204,205,206,207,208,209,210,9] x 5 rfl).trans h5) ((Zc a [198,199,200,201,202,203,204,205,206,207,208,209,210,9] x 10 rfl).trans h10) ((Z4 a [198,199,200,201,202,203,204,205,206,207,208,209,210,9] x 9 rfl (by rw [hF.1];decide)).trans hFin.2) hFin.1
theorem df42 {w0:World}{g k b3 b4 b5:Nat}{v:Value}{l:List Int}{n:Nd}{xr:RV}{m:Mg}{ve:Value}{t9:Int}{e10:Value}{Q:Exit->Act->World->Prop}{K:Act->World->Prop}{a:Act}{w:World}(hF:SzD a 343)(h0:a.eval (.tmp 0)=.pointer (some ⟨g,0,none⟩))(h3:a.eval (.tmp 3)=.pointer (some ⟨b3,0,none⟩))(h4:a.eval (.tmp 4)=.pointer (some ⟨b4,0,none⟩))(h5:a.eval (.tmp 5)=.pointer (some ⟨b5,0,none⟩))(h9:a.eval (.tmp 9)=.int .i64 t9)(h10:a.eval (.tmp 10)=e10)(hS:FS w0 w g v l b3 b4 b5 n xr k m ve)(hP:∀ a' w',SzD a' 343->a'.eval (.tmp 0)=.pointer (some ⟨g,0,none⟩)->a'.eval (.tmp 3)=.pointer (some ⟨b3,0,none⟩)->a'.eval (.tmp 4)=.pointer (some ⟨b4,0,none⟩)->a'.eval (.tmp 5)=.pointer (some ⟨b5,0,none⟩)->a'.eval (.tmp 9)=.int .i64 t9->a'.eval (.tmp 10)=e10->FS w0 w' g v l b3 b4 b5 n xr k { m with li:=t9 } ve->K a' w'):(Z1 22 (Z3 Tryz.f54)).wp Tryz.prog (Exit.then K Q) a w:=by
 obtain ⟨t,rfl⟩:=hF.opened;clear hF;rw [Z3z]
 try dsimp only
 rw [show t 0=_ from h0,show t 3=_ from h3,show t 4=_ from h4,show t 5=_ from h5,show t 9=_ from h9,show t 10=_ from h10];clear h0 h3 h4 h5 h9 h10;have m4:w.cell? ⟨b5,4,none⟩=some (.int .i64 m.li):=hS.mb.cell 4;have f4:w.frozen? ⟨b5,4,none⟩=false:=hS.mb.free 4;have HS:Hid (FS w0 w g v l b3 b4 b5 n xr k m ve):=hS;clear hS
 conv=>arg 2;whnf
 go_wp2_with fail
 exact hP _ _ ⟨rfl,rfl⟩ rfl rfl rfl rfl rfl rfl (HS.out.set 4 (by omega) _ rfl rfl)
theorem df43 {w0:World}{g k b3 b4 b5:Nat}{v:Value}{l:List Int}{n:Nd}{xr:RV}{m:Mg}{ve:Value}{t9:Int}{e10:Value}{Q:Exit->Act->World->Prop}{K:Act->World->Prop}{a:Act}{w:World}(hF:SzD a 343)(h0:a.eval (.tmp 0)=.pointer (some ⟨g,0,none⟩))(h3:a.eval (.tmp 3)=.pointer (some ⟨b3,0,none⟩))(h4:a.eval (.tmp 4)=.pointer (some ⟨b4,0,none⟩))(h5:a.eval (.tmp 5)=.pointer (some ⟨b5,0,none⟩))(h9:a.eval (.tmp 9)=.int .i64 t9)(h10:a.eval (.tmp 10)=e10)(hS:FS w0 w g v l b3 b4 b5 n xr k m ve)(hP:∀ a' w',SzD a' 343->a'.eval (.tmp 0)=.pointer (some ⟨g,0,none⟩)->a'.eval (.tmp 3)=.pointer (some ⟨b3,0,none⟩)->a'.eval (.tmp 4)=.pointer (some ⟨b4,0,none⟩)->a'.eval (.tmp 5)=.pointer (some ⟨b5,0,none⟩)->a'.eval (.tmp 9)=.int .i64 t9->a'.eval (.tmp 10)=e10->a'.eval (.tmp 214)=.bool (decide (0<t9))->FS w0 w' g v l b3 b4 b5 n xr k m ve->K a' w'):(Z1 0 (Z1 23 (Z3 Tryz.f54))).wp Tryz.prog (Exit.then K Q) a w:=by
 obtain ⟨t,rfl⟩:=hF.opened;clear hF;rw [Z3z]
 try dsimp only
 rw [show t 0=_ from h0,show t 3=_ from h3,show t 4=_ from h4,show t 5=_ from h5,show t 9=_ from h9,show t 10=_ from h10];clear h0 h3 h4 h5 h9 h10;have HS:Hid (FS w0 w g v l b3 b4 b5 n xr k m ve):=hS;clear hS
 conv=>arg 2;whnf
 go_wp2_with fail
 exact hP _ _ ⟨rfl,rfl⟩ rfl rfl rfl rfl rfl rfl rfl HS.out
theorem df44 {w0:World}{g k b3 b4 b5:Nat}{v:Value}{l:List Int}{n:Nd}{xr:RV}{m:Mg}{ve:Value}{t9:Int}{e10:Value}{Q:Exit->Act->World->Prop}{K:Act->World->Prop}{a:Act}{w:World}(hF:SzD a 343)(h0:a.eval (.tmp 0)=.pointer (some ⟨g,0,none⟩))(h3:a.eval (.tmp 3)=.pointer (some ⟨b3,0,none⟩))(h4:a.eval (.tmp 4)=.pointer (some ⟨b4,0,none⟩))(h5:a.eval (.tmp 5)=.pointer (some ⟨b5,0,none⟩))(h9:a.eval (.tmp 9)=.int .i64 t9)(h10:a.eval (.tmp 10)=e10)(hS:FS w0 w g v l b3 b4 b5 n xr k m ve)(hP:∀ a' w',SzD a' 343->a'.eval (.tmp 0)=.pointer (some ⟨g,0,none⟩)->a'.eval (.tmp 3)=.pointer (some ⟨b3,0,none⟩)->a'.eval (.tmp 4)=.pointer (some ⟨b4,0,none⟩)->a'.eval (.tmp 5)=.pointer (some ⟨b5,0,none⟩)->a'.eval (.tmp 9)=.int .i64 t9->a'.eval (.tmp 10)=e10->FS w0 w' g v l b3 b4 b5 n xr k { m with lt:=m.tm } ve->K a' w'):(Z1 0 (Zj (Z2 1 (Z1 23 (Z3 Tryz.f54))))).wp Tryz.prog (Exit.then K Q) a w:=by
 obtain ⟨t,rfl⟩:=hF.opened;clear hF;rw [Z3z]
 try dsimp only
 rw [show t 0=_ from h0,show t 3=_ from h3,show t 4=_ from h4,show t 5=_ from h5,show t 9=_ from h9,show t 10=_ from h10];clear h0 h3 h4 h5 h9 h10;have m3:w.cell? ⟨b5,3,none⟩=some (.int .i64 m.tm):=hS.mb.cell 3;have m5:w.cell? ⟨b5,5,none⟩=some (.int .i64 m.lt):=hS.mb.cell 5;have f5:w.frozen? ⟨b5,5,none⟩=false:=hS.mb.free 5;have HS:Hid (FS w0 w g v l b3 b4 b5 n xr k m ve):=hS;clear hS
 conv=>arg 2;whnf
 go_wp2_with fail
 exact hP _ _ ⟨rfl,rfl⟩ rfl rfl rfl rfl rfl rfl (HS.out.set 5 (by omega) _ rfl rfl)
structure LgQ (w0:World) (g:Nat) (x:RV) (n:Nd) (q c:Nat):Prop where
 vl:x.vl=.slice (some ⟨q,0,none⟩) n.log.length c
 lt:q<w0.heap.size
 ne:q≠g
 ent:∀ j (h:j<n.log.length),Xv w0 q (j*7) n.log[j]
 fit:∀ e∈n.log,e.fits
theorem Xv.keep {w w':World}{b o:Nat}{e:Ent}(h:Xv w b o e)(hk:w'.heap[b]? = w.heap[b]?):Xv w' b o e:=by
 have hc:∀ j,w'.cell? ⟨b,j,none⟩=w.cell? ⟨b,j,none⟩:=fun j=>by unfold World.cell?;rw [hk]
 obtain ⟨h0,h1,h2,h3,h4,h5,h6⟩:=h;exact ⟨(hc _).trans h0,(hc _).trans h1,(hc _).trans h2,(hc _).trans h3,(hc _).trans h4,(hc _).trans h5,(hc _).trans h6⟩
structure GS (w0 w:World) (g:Nat) (v:Value) (l:List Int) (b3 b4 b5:Nat) (n:Nd) (x:RV) (k:Nat) (m:Mg) (ve ev:Value) (es:List Ent):Prop where
 dr:Dr w0 w g v l k [(b3,ndC n x,36),(b4,Z0d,43),(b5,msV m ve,43)]
 es:Zv w w0.heap.size ev es
theorem Z1r (x:Ent):∀(l:List Ent) (i:Nat) (hi:i<l.length),Yc (l.set i x)=setL (Yc l) (i*7) x.cells
 | [],i,hi=>by simp at hi
 | e :: l,0,hi=>by simp [Yc,Ent.cells,setL]
 | e :: l,i+1,hi=>by
  have hi':i<l.length:=by simpa using hi
  have h7:e.cells.length=7:=rfl;simp only [List.set_cons_succ,Yc];rw [Z1r x l i hi',show (i+1)*7=e.cells.length+(i*7) by rw [h7];omega,setL_app e.cells x.cells (Yc l) (i*7)]
theorem grewCellG {w:World}{q i n c:Nat}(x:Value):Xe w (.slice (some ⟨q,0,none⟩) n c) (w.setCell ⟨q,i,none⟩ x) (.slice (some ⟨q,0,none⟩) n c):=
 ⟨⟨rfl,rfl,rfl,by simp,fun k _ hk=>Below.heap_setCell _ _ _ _ (fun e=>hk (by rw [e];rfl))⟩,.inl rfl⟩
theorem Z3u {n c q:Nat} : ∀(vs:List Value) (w:World) (i:Nat),Xe w (.slice (some ⟨q,0,none⟩) n c) (w.setCells q i vs) (.slice (some ⟨q,0,none⟩) n c)
 | [],w,i=>Xe.refl _ _
 | v :: vs,w,i=>(grewCellG v).trans (Z3u vs _ (i+1))
section
variable {w0 w w':World} {g:Nat} {v:Value} {l:List Int} {k k' b3 b4 b5:Nat} {n:Nd} {x:RV} {m m':Mg} {ve ev:Value} {es:List Ent}
theorem FS.old (h:FS w0 w g v l b3 b4 b5 n x k m ve){q:Nat}(h1:q<w0.heap.size)(h2:q≠g):w.heap[q]? = w0.heap[q]?:=h.dr.grown.block q h1 (fun e=>by injection e with e;exact h2 e)
theorem GS.old (h:GS w0 w g v l b3 b4 b5 n x k m ve ev es){q:Nat}(h1:q<w0.heap.size)(h2:q≠g):w.heap[q]? = w0.heap[q]?:=h.dr.grown.block q h1 (fun e=>by injection e with e;exact h2 e)
theorem GS.call (h:GS w0 w g v l b3 b4 b5 n x k m ve ev es)(hs:Src w' g v l k')(hg:w.grownBy w' (some g)):GS w0 w' g v l b3 b4 b5 n x k' m ve ev es:=
 ⟨h.dr.call hs hg,h.es.block fun q e=>hg.block q (World.ownsRow.lt h.es.2 q e).2 (fun e'=>by injection e' with e';have h1:=(World.ownsRow.lt h.es.2 q e).1;have:=h.dr.gl;omega)⟩
theorem GS.below (h:GS w0 w g v l b3 b4 b5 n x k m ve ev es)(hb:Below w.heap.size w w'):GS w0 w' g v l b3 b4 b5 n x k m ve ev es:=⟨h.dr.below hb,h.es.below hb⟩
theorem GS.pick1 (h:GS w0 w g v l b3 b4 b5 n x k m ve ev es)(q:Nat)(hL:l.length<=1048576)(hk:k<=900000000)(hm:0<q)(hM:q<=256) :
  Calls Tryz.prog 53 #[.pointer (some ⟨g,0,none⟩),.int .i64 q] w fun e w'=>e=.returned (.int .i64 (Z5 l k q:Nat))/\GS w0 w' g v l b3 b4 b5 n x (k+1) m ve ev es:=
 (Zq g w v l k q hL hk hm (by omega) h.dr.src).mono fun e w' ⟨h1,h2,h3⟩=>⟨h1,by rw [show Zm q=1 by unfold Zm;rw [if_pos hM]] at h2;exact h.call h2 h3⟩
theorem GS.nb (h:GS w0 w g v l b3 b4 b5 n x k m ve ev es):Blk w b3 (ndC n x) 36:=h.dr.blk 0 rfl
theorem GS.rb (h:GS w0 w g v l b3 b4 b5 n x k m ve ev es):Blk w b4 Z0d 43:=h.dr.blk 1 rfl
theorem GS.mb (h:GS w0 w g v l b3 b4 b5 n x k m ve ev es):Blk w b5 (msV m ve) 43:=h.dr.blk 2 rfl
theorem GS.grew (h:GS w0 w g v l b3 b4 b5 n x k m ve ev es)(hg:Xe w ev w' ev):Dr w0 w' g v l k [(b3,ndC n x,36),(b4,Z0d,43),(b5,msV m ve,43)]:=by
 refine h.dr.grew hg (fun q e=>(World.ownsRow.lt h.es.2 q e).1) (fun y hy=>?_);simp only [List.mem_cons,List.not_mem_nil,or_false] at hy;rcases hy with rfl | rfl | rfl
 ·exact fun e=>X4 h.es h.nb (by decide) _ e rfl
 ·exact fun e=>X4 h.es h.rb (by decide) _ e rfl
 ·exact fun e=>X4 h.es h.mb (by decide) _ e rfl
theorem GS.setT {q c:Nat}(h:GS w0 w g v l b3 b4 b5 n x k m ve (.slice (some ⟨q,0,none⟩) es.length c) es)(i:Nat)(hi:i<es.length)(T:Int):GS w0 (w.setCell ⟨q,i*7,none⟩ (.int .i64 T)) g v l b3 b4 b5 n x k m ve (.slice (some ⟨q,0,none⟩) es.length c) (es.set i (Xm T es[i])):=
 ⟨h.grew (grewCellG _),h.es.setT rfl i hi T⟩
theorem GS.setE {q c:Nat}(h:GS w0 w g v l b3 b4 b5 n x k m ve (.slice (some ⟨q,0,none⟩) es.length c) es)(i:Nat)(hi:i<es.length)(e:Ent)(he:e.fits):GS w0 (w.setCells q (i*7) e.cells) g v l b3 b4 b5 n x k m ve (.slice (some ⟨q,0,none⟩) es.length c) (es.set i e):=by
 refine ⟨h.grew (Z3u _ _ _),fun y hy=>?_,?_⟩
 ·rcases List.mem_or_eq_of_mem_set hy with hy | hy
  ·exact h.es.1 y hy
  ·subst hy;exact he
 ·rw [List.length_set,Z1r e es i hi]
  exact Z1u _ _ _ _ h.es.2
theorem GS.done (h:GS w0 w g v l b3 b4 b5 n x k m ve ev es):FS w0 (w.setCell ⟨b5,9,none⟩ ev) g v l b3 b4 b5 n x k { m with es:=es } ev:=by
 obtain ⟨a,c,hv⟩:=h.es.shape;have hd:=h.dr.set 2 rfl 9 (by show 9<10;omega) ev (by rw [hv];rfl);exact ⟨hd,h.es.block fun q e=>Below.heap_setCell _ _ _ _ (X4 h.es h.mb (by decide) q e)⟩
end
theorem df45 {w0:World}{g k b3 b4 b5:Nat}{v:Value}{l:List Int}{n:Nd}{xr:RV}{m:Mg}{ve:Value}(hvl0:∃ a c,xr.vl=.slice a n.log.length c)(hlg:n.log.length<=4096){t9:Int}{e10:Value}{Q:Exit->Act->World->Prop}{K:Act->World->Prop}{a:Act}{w:World}(hF:SzD a 343)(h0:a.eval (.tmp 0)=.pointer (some ⟨g,0,none⟩))(h3:a.eval (.tmp 3)=.pointer (some ⟨b3,0,none⟩))(h4:a.eval (.tmp 4)=.pointer (some ⟨b4,0,none⟩))(h5:a.eval (.tmp 5)=.pointer (some ⟨b5,0,none⟩))(h9:a.eval (.tmp 9)=.int .i64 t9)(h10:a.eval (.tmp 10)=e10)(hS:FS w0 w g v l b3 b4 b5 n xr k m ve)(hP:∀ a' w',SzD a' 343->a'.eval (.tmp 0)=.pointer (some ⟨g,0,none⟩)->a'.eval (.tmp 3)=.pointer (some ⟨b3,0,none⟩)->a'.eval (.tmp 4)=.pointer (some ⟨b4,0,none⟩)->a'.eval (.tmp 5)=.pointer (some ⟨b5,0,none⟩)->a'.eval (.tmp 9)=.int .i64 t9->a'.eval (.tmp 10)=e10->a'.eval (.tmp 222)=.bool (decide (t9<=(n.log.length:Int)))->FS w0 w' g v l b3 b4 b5 n xr k m ve->K a' w'):(Z1 0 (Z1 1 (Zj (Z2 1 (Z1 23 (Z3 Tryz.f54)))))).wp Tryz.prog (Exit.then K Q) a w:=by
 obtain ⟨t,rfl⟩:=hF.opened;clear hF;rw [Z3z]
 try dsimp only
 rw [show t 0=_ from h0,show t 3=_ from h3,show t 4=_ from h4,show t 5=_ from h5,show t 9=_ from h9,show t 10=_ from h10];clear h0 h3 h4 h5 h9 h10;obtain ⟨ra,rc,hvl⟩:=hvl0;have n12:w.cell? ⟨b3,12,none⟩=some (.slice ra n.log.length rc):=by rw [<-hvl];exact hS.nb.cell 12
 clear hvl;obtain ⟨N,hN⟩:∃ N,N=n.log.length:=⟨_,rfl⟩;rw [<-hN] at n12 hP hlg;have HS:Hid (FS w0 w g v l b3 b4 b5 n xr k m ve):=hS;clear hS;have HN:Hid (N=n.log.length):=hN;clear hN
 conv=>arg 2;whnf
 go_wp2_with fail
 exact hP _ _ ⟨rfl,rfl⟩ rfl rfl rfl rfl rfl rfl rfl HS.out
theorem df46 {w0:World}{g k b3 b4 b5:Nat}{v:Value}{l:List Int}{n:Nd}{xr:RV}{m:Mg}{ve:Value}{q c J:Nat}{e10:Value}(hQ:LgQ w0 g xr n q c)(hJ:J<n.log.length)(hlg:n.log.length<=4096){Q:Exit->Act->World->Prop}{K:Act->World->Prop}{a:Act}{w:World}(hF:SzD a 343)(h0:a.eval (.tmp 0)=.pointer (some ⟨g,0,none⟩))(h3:a.eval (.tmp 3)=.pointer (some ⟨b3,0,none⟩))(h4:a.eval (.tmp 4)=.pointer (some ⟨b4,0,none⟩))(h5:a.eval (.tmp 5)=.pointer (some ⟨b5,0,none⟩))(h9:a.eval (.tmp 9)=.int .i64 ((J:Int)+1))(h10:a.eval (.tmp 10)=e10)(hS:FS w0 w g v l b3 b4 b5 n xr k m ve)(hP:∀ a' w',SzD a' 343->a'.eval (.tmp 0)=.pointer (some ⟨g,0,none⟩)->a'.eval (.tmp 3)=.pointer (some ⟨b3,0,none⟩)->a'.eval (.tmp 4)=.pointer (some ⟨b4,0,none⟩)->a'.eval (.tmp 5)=.pointer (some ⟨b5,0,none⟩)->a'.eval (.tmp 9)=.int .i64 ((J:Int)+1)->a'.eval (.tmp 10)=e10->FS w0 w' g v l b3 b4 b5 n xr k { m with lt:=min n.log[J].t m.tm } ve->K a' w'):(Zj (Z2 1 (Z1 1 (Zj (Z2 1 (Z1 23 (Z3 Tryz.f54))))))).wp Tryz.prog (Exit.then K Q) a w:=by
 have hv0:=hQ.vl;have hE0:=hQ.ent J hJ;have hql:=hQ.lt;have hqn:=hQ.ne;obtain ⟨TT,hTT⟩:∃ t,t=n.log[J].t:=⟨_,rfl⟩;have hc0:w0.cell? ⟨q,J*7,none⟩=some (.int .i64 TT):=by rw [hTT];exact hE0.1
 obtain ⟨A1,hA1⟩:∃ q,q=min n.log[J].t m.tm:=⟨_,rfl⟩;rw [<-hA1] at hP;rw [<-hTT] at hA1;have H1:Hid (A1=min TT m.tm):=hA1;clear hTT hA1;have Hvl:Hid (xr.vl=.slice (some ⟨q,0,none⟩) n.log.length c):=hv0;obtain ⟨N,hN⟩:∃ N,N=n.log.length:=⟨_,rfl⟩;rw [<-hN] at Hvl;have hJN:J<N:=by omega
 have hJi:(J:Int)<(N:Int):=by omega
 have hN9:N<=4096:=by omega
 clear hN hv0 hE0 hQ hJ hlg;have hwj:IntKind.i64.wrap (J:Int)=(J:Int):=by rw [IntKind.wrap_i64];omega
 conv=>arg 2;whnf
 refine Xg (fun a0=>a0.tmps.size=343/\a0.eval (.tmp 3)=.pointer (some ⟨b3,0,none⟩)/\a0.eval (.tmp 5)=.pointer (some ⟨b5,0,none⟩)/\a0.eval (.tmp 9)=.int .i64 ((J:Int)+1)) (fun a0 aF w'=>∃ x:Nat->Value,aF=frame a0 [223,224,225,226,227,228,229,230,231,232,233] x/\(FS w0 w' g v l b3 b4 b5 n xr k { m with lt:=A1 } ve)) ?_ ⟨hF.1,h3,h5,h9⟩ ?_
 ·rintro a0 ⟨hsz0,e3,e5,e9⟩
  refine Y7 (by kernel_rfl) (fun L aF w'=>∃ x:Nat->Value,aF=frame a0 [223,224,225,226,227,228,229,230,231,232,233] x/\(St3 (fun W=>FS w0 W g v l b3 b4 b5 n xr k m ve) (fun W=>FS w0 W g v l b3 b4 b5 n xr k m ve) (fun W=>FS w0 W g v l b3 b4 b5 n xr k { m with lt:=A1 } ve)) (L.getD 11 false) (L.getD 11 false) w'/\(L.getD 0 false=true->x 223=.pointer (some ⟨b3,12,none⟩))/\(L.getD 1 false=true->x 224=.slice (some ⟨q,0,none⟩) N c)/\(L.getD 2 false=true->x 225=.int .i64 ((J:Int)+1))/\(L.getD 3 false=true->x 226=.int .i64 (J:Int))/\(L.getD 4 false=true->x 227=.pointer (some ⟨q,J*7,none⟩))/\(L.getD 5 false=true->x 228=.pointer (some ⟨q,J*7,none⟩))/\(L.getD 6 false=true->x 229=.int .i64 TT)/\(L.getD 7 false=true->x 230=.pointer (some ⟨b5,3,none⟩))/\(L.getD 8 false=true->x 231=.int .i64 m.tm)/\(L.getD 9 false=true->x 232=.int .i64 A1)/\(L.getD 10 false=true->x 233=.pointer (some ⟨b5,5,none⟩))/\(L.getD 11 false=true->True)) ?_ ?_ ?_
  ·refine ⟨_,Yk a0 [223,224,225,226,227,228,229,230,231,232,233],?_,fun h=>(Zl h).elim,fun h=>(Zl h).elim,fun h=>(Zl h).elim,fun h=>(Zl h).elim,fun h=>(Zl h).elim,fun h=>(Zl h).elim,fun h=>(Zl h).elim,fun h=>(Zl h).elim,fun h=>(Zl h).elim,fun h=>(Zl h).elim,fun h=>(Zl h).elim,fun h=>(Zl h).elim⟩
   rw [Z05];exact hS.drew
  ·rintro L a w' i hsL hi ⟨x,rfl,hS,h0,h1,h2,h3,h4,h5,h6,h7,h8,h9,h10,h11⟩
   have hlt:∀ j,j<12->j<L.size:=fun j hj=>by rw [hsL];exact hj
   have hsl:∀ j,j<343->j<a0.tmps.size:=fun j hj=>by rw [hsz0];exact hj
   have hiL:i<12:=(Zx hsL hi).1;have hLz:L.size=12:=hsL;have hcl:w'.cell? ⟨b3,12,none⟩=some (.slice (some ⟨q,0,none⟩) N c):=by refine St3.any (P:=fun W=>W.cell? ⟨b3,12,none⟩=some (.slice (some ⟨q,0,none⟩) N c)) ?_ ?_ ?_ hS <;> intro W h <;> (rw [<-Hvl.out];exact (FS.nb h).cell 12)
   have hcq:w'.cell? ⟨q,J*7,none⟩=some (.int .i64 TT):=by refine St3.any (P:=fun W=>W.cell? ⟨q,J*7,none⟩=some (.int .i64 TT)) ?_ ?_ ?_ hS <;> intro W h <;> (rw [<-hc0];unfold World.cell?;rw [FS.old h hql hqn])
   have hcb53:w'.cell? ⟨b5,3,none⟩=some (.int .i64 m.tm):=by refine St3.any (P:=fun W=>W.cell? ⟨b5,3,none⟩=some (.int .i64 m.tm)) ?_ ?_ ?_ hS <;> intro W h <;> exact (FS.mb h).cell 3
   rcases (show i=0∨i=1∨i=2∨i=3∨i=4∨i=5∨i=6∨i=7∨i=8∨i=9∨i=10∨i=11 by omega) with rfl | rfl | rfl | rfl | rfl | rfl | rfl | rfl | rfl | rfl | rfl | rfl
   ·skip
    have hz:=hlt 0 (by decide);have ev3:(frame a0 [223,224,225,226,227,228,229,230,231,232,233] x).tmps[3]?.getD undef=.pointer (some ⟨b3,0,none⟩):=by have h:=(Zc a0 [223,224,225,226,227,228,229,230,231,232,233] x 3 rfl).trans e3;simpa [Act.eval] using h
    refine Z8 rfl rfl (Zd (v:=.pointer (some ⟨b3,12,none⟩)) ?_ ?_)
    ·obtain ⟨aa,haa⟩:∃ aa,aa=frame a0 [223,224,225,226,227,228,229,230,231,232,233] x:=⟨_,rfl⟩
     rw [<-haa] at ev3 ⊢;clear haa;go_simp
    exact ⟨_,Z9 _ _ _ 223 _ rfl,(by rw [Zp hz (by decide)];exact hS),fun h=>Zb _ _ _,fun h=>ke2 h1 hz h,fun h=>ke2 h2 hz h,fun h=>ke2 h3 hz h,fun h=>ke2 h4 hz h,fun h=>ke2 h5 hz h,fun h=>ke2 h6 hz h,fun h=>ke2 h7 hz h,fun h=>ke2 h8 hz h,fun h=>ke2 h9 hz h,fun h=>ke2 h10 hz h,fun h=>trivial⟩
   ·have d0:=h0 (Z7 hi (by decide))
    have hz:=hlt 1 (by decide);have ev223:(frame a0 [223,224,225,226,227,228,229,230,231,232,233] x).tmps[223]?.getD undef=.pointer (some ⟨b3,12,none⟩):=by have h:=(Z4 a0 [223,224,225,226,227,228,229,230,231,232,233] x 223 rfl (hsl 223 (by decide))).trans d0;simpa [Act.eval] using h
    refine Z8 rfl rfl (Zd (v:=.slice (some ⟨q,0,none⟩) N c) ?_ ?_)
    ·obtain ⟨aa,haa⟩:∃ aa,aa=frame a0 [223,224,225,226,227,228,229,230,231,232,233] x:=⟨_,rfl⟩
     rw [<-haa] at ev223 ⊢;clear haa;go_simp
    exact ⟨_,Z9 _ _ _ 224 _ rfl,(by rw [Zp hz (by decide)];exact hS),fun h=>ke2 h0 hz h,fun h=>Zb _ _ _,fun h=>ke2 h2 hz h,fun h=>ke2 h3 hz h,fun h=>ke2 h4 hz h,fun h=>ke2 h5 hz h,fun h=>ke2 h6 hz h,fun h=>ke2 h7 hz h,fun h=>ke2 h8 hz h,fun h=>ke2 h9 hz h,fun h=>ke2 h10 hz h,fun h=>trivial⟩
   ·skip
    have hz:=hlt 2 (by decide);refine Z8 rfl rfl (Y0 (.tmp 9) (Or.inl rfl) ?_);rw [Zc _ _ _ 9 rfl,e9];exact ⟨_,Z9 _ _ _ 225 _ rfl,(by rw [Zp hz (by decide)];exact hS),fun h=>ke2 h0 hz h,fun h=>ke2 h1 hz h,fun h=>Zb _ _ _,fun h=>ke2 h3 hz h,fun h=>ke2 h4 hz h,fun h=>ke2 h5 hz h,fun h=>ke2 h6 hz h,fun h=>ke2 h7 hz h,fun h=>ke2 h8 hz h,fun h=>ke2 h9 hz h,fun h=>ke2 h10 hz h,fun h=>trivial⟩
   ·have d2:=h2 (Z7 hi (by decide))
    have hz:=hlt 3 (by decide);have ev225:(frame a0 [223,224,225,226,227,228,229,230,231,232,233] x).tmps[225]?.getD undef=.int .i64 ((J:Int)+1):=by have h:=(Z4 a0 [223,224,225,226,227,228,229,230,231,232,233] x 225 rfl (hsl 225 (by decide))).trans d2;simpa [Act.eval] using h
    refine Z8 rfl rfl (Zd (v:=.int .i64 (J:Int)) ?_ ?_)
    ·obtain ⟨aa,haa⟩:∃ aa,aa=frame a0 [223,224,225,226,227,228,229,230,231,232,233] x:=⟨_,rfl⟩
     rw [<-haa] at ev225 ⊢;clear haa;go_simp
    exact ⟨_,Z9 _ _ _ 226 _ rfl,(by rw [Zp hz (by decide)];exact hS),fun h=>ke2 h0 hz h,fun h=>ke2 h1 hz h,fun h=>ke2 h2 hz h,fun h=>Zb _ _ _,fun h=>ke2 h4 hz h,fun h=>ke2 h5 hz h,fun h=>ke2 h6 hz h,fun h=>ke2 h7 hz h,fun h=>ke2 h8 hz h,fun h=>ke2 h9 hz h,fun h=>ke2 h10 hz h,fun h=>trivial⟩
   ·have d1:=h1 (Z7 hi (by decide))
    have d3:=h3 (Z7 hi (by decide));have hz:=hlt 4 (by decide);have ev224:(frame a0 [223,224,225,226,227,228,229,230,231,232,233] x).tmps[224]?.getD undef=.slice (some ⟨q,0,none⟩) N c:=by have h:=(Z4 a0 [223,224,225,226,227,228,229,230,231,232,233] x 224 rfl (hsl 224 (by decide))).trans d1;simpa [Act.eval] using h
    have ev226:(frame a0 [223,224,225,226,227,228,229,230,231,232,233] x).tmps[226]?.getD undef=.int .i64 (J:Int):=by have h:=(Z4 a0 [223,224,225,226,227,228,229,230,231,232,233] x 226 rfl (hsl 226 (by decide))).trans d3;simpa [Act.eval] using h
    refine Z8 rfl rfl (Zd (v:=.pointer (some ⟨q,J*7,none⟩)) ?_ ?_)
    ·obtain ⟨aa,haa⟩:∃ aa,aa=frame a0 [223,224,225,226,227,228,229,230,231,232,233] x:=⟨_,rfl⟩
     rw [<-haa] at ev224 ev226 ⊢;clear haa;go_simp
    exact ⟨_,Z9 _ _ _ 227 _ rfl,(by rw [Zp hz (by decide)];exact hS),fun h=>ke2 h0 hz h,fun h=>ke2 h1 hz h,fun h=>ke2 h2 hz h,fun h=>ke2 h3 hz h,fun h=>Zb _ _ _,fun h=>ke2 h5 hz h,fun h=>ke2 h6 hz h,fun h=>ke2 h7 hz h,fun h=>ke2 h8 hz h,fun h=>ke2 h9 hz h,fun h=>ke2 h10 hz h,fun h=>trivial⟩
   ·have d4:=h4 (Z7 hi (by decide))
    have hz:=hlt 5 (by decide);have ev227:(frame a0 [223,224,225,226,227,228,229,230,231,232,233] x).tmps[227]?.getD undef=.pointer (some ⟨q,J*7,none⟩):=by have h:=(Z4 a0 [223,224,225,226,227,228,229,230,231,232,233] x 227 rfl (hsl 227 (by decide))).trans d4;simpa [Act.eval] using h
    refine Z8 rfl rfl (Zd (v:=.pointer (some ⟨q,J*7,none⟩)) ?_ ?_)
    ·obtain ⟨aa,haa⟩:∃ aa,aa=frame a0 [223,224,225,226,227,228,229,230,231,232,233] x:=⟨_,rfl⟩
     rw [<-haa] at ev227 ⊢;clear haa;go_simp
    exact ⟨_,Z9 _ _ _ 228 _ rfl,(by rw [Zp hz (by decide)];exact hS),fun h=>ke2 h0 hz h,fun h=>ke2 h1 hz h,fun h=>ke2 h2 hz h,fun h=>ke2 h3 hz h,fun h=>ke2 h4 hz h,fun h=>Zb _ _ _,fun h=>ke2 h6 hz h,fun h=>ke2 h7 hz h,fun h=>ke2 h8 hz h,fun h=>ke2 h9 hz h,fun h=>ke2 h10 hz h,fun h=>trivial⟩
   ·have d5:=h5 (Z7 hi (by decide))
    have hz:=hlt 6 (by decide);have ev228:(frame a0 [223,224,225,226,227,228,229,230,231,232,233] x).tmps[228]?.getD undef=.pointer (some ⟨q,J*7,none⟩):=by have h:=(Z4 a0 [223,224,225,226,227,228,229,230,231,232,233] x 228 rfl (hsl 228 (by decide))).trans d5;simpa [Act.eval] using h
    refine Z8 rfl rfl (Zd (v:=.int .i64 TT) ?_ ?_)
    ·obtain ⟨aa,haa⟩:∃ aa,aa=frame a0 [223,224,225,226,227,228,229,230,231,232,233] x:=⟨_,rfl⟩
     rw [<-haa] at ev228 ⊢;clear haa;go_simp
    exact ⟨_,Z9 _ _ _ 229 _ rfl,(by rw [Zp hz (by decide)];exact hS),fun h=>ke2 h0 hz h,fun h=>ke2 h1 hz h,fun h=>ke2 h2 hz h,fun h=>ke2 h3 hz h,fun h=>ke2 h4 hz h,fun h=>ke2 h5 hz h,fun h=>Zb _ _ _,fun h=>ke2 h7 hz h,fun h=>ke2 h8 hz h,fun h=>ke2 h9 hz h,fun h=>ke2 h10 hz h,fun h=>trivial⟩
   ·skip
    have hz:=hlt 7 (by decide);have ev5:(frame a0 [223,224,225,226,227,228,229,230,231,232,233] x).tmps[5]?.getD undef=.pointer (some ⟨b5,0,none⟩):=by have h:=(Zc a0 [223,224,225,226,227,228,229,230,231,232,233] x 5 rfl).trans e5;simpa [Act.eval] using h
    refine Z8 rfl rfl (Zd (v:=.pointer (some ⟨b5,3,none⟩)) ?_ ?_)
    ·obtain ⟨aa,haa⟩:∃ aa,aa=frame a0 [223,224,225,226,227,228,229,230,231,232,233] x:=⟨_,rfl⟩
     rw [<-haa] at ev5 ⊢;clear haa;go_simp
    exact ⟨_,Z9 _ _ _ 230 _ rfl,(by rw [Zp hz (by decide)];exact hS),fun h=>ke2 h0 hz h,fun h=>ke2 h1 hz h,fun h=>ke2 h2 hz h,fun h=>ke2 h3 hz h,fun h=>ke2 h4 hz h,fun h=>ke2 h5 hz h,fun h=>ke2 h6 hz h,fun h=>Zb _ _ _,fun h=>ke2 h8 hz h,fun h=>ke2 h9 hz h,fun h=>ke2 h10 hz h,fun h=>trivial⟩
   ·have d7:=h7 (Z7 hi (by decide))
    have hz:=hlt 8 (by decide);have ev230:(frame a0 [223,224,225,226,227,228,229,230,231,232,233] x).tmps[230]?.getD undef=.pointer (some ⟨b5,3,none⟩):=by have h:=(Z4 a0 [223,224,225,226,227,228,229,230,231,232,233] x 230 rfl (hsl 230 (by decide))).trans d7;simpa [Act.eval] using h
    refine Z8 rfl rfl (Zd (v:=.int .i64 m.tm) ?_ ?_)
    ·obtain ⟨aa,haa⟩:∃ aa,aa=frame a0 [223,224,225,226,227,228,229,230,231,232,233] x:=⟨_,rfl⟩
     rw [<-haa] at ev230 ⊢;clear haa;go_simp
    exact ⟨_,Z9 _ _ _ 231 _ rfl,(by rw [Zp hz (by decide)];exact hS),fun h=>ke2 h0 hz h,fun h=>ke2 h1 hz h,fun h=>ke2 h2 hz h,fun h=>ke2 h3 hz h,fun h=>ke2 h4 hz h,fun h=>ke2 h5 hz h,fun h=>ke2 h6 hz h,fun h=>ke2 h7 hz h,fun h=>Zb _ _ _,fun h=>ke2 h9 hz h,fun h=>ke2 h10 hz h,fun h=>trivial⟩
   ·have d6:=h6 (Z7 hi (by decide))
    have d8:=h8 (Z7 hi (by decide));have hz:=hlt 9 (by decide);have ev229:=(Z4 a0 [223,224,225,226,227,228,229,230,231,232,233] x 229 rfl (hsl 229 (by decide))).trans d6;have ev231:=(Z4 a0 [223,224,225,226,227,228,229,230,231,232,233] x 231 rfl (hsl 231 (by decide))).trans d8;refine Z8 rfl rfl (Y4 (N:=55) rfl (fun _ _=>by go_simp) #[.int .i64 TT,.int .i64 m.tm] (by simp only [List.map_toArray,List.map_cons,List.map_nil,ev229,ev231]) ?_);refine Calls.mono (Xf _ _ _) ?_;rw [<-H1.out];rintro e w2 ⟨rfl,rfl⟩;refine ⟨_,rfl,?_⟩;exact ⟨_,Z9 _ _ _ 232 _ rfl,(by rw [Zp hz (by decide)];exact hS),fun h=>ke2 h0 hz h,fun h=>ke2 h1 hz h,fun h=>ke2 h2 hz h,fun h=>ke2 h3 hz h,fun h=>ke2 h4 hz h,fun h=>ke2 h5 hz h,fun h=>ke2 h6 hz h,fun h=>ke2 h7 hz h,fun h=>ke2 h8 hz h,fun h=>Zb _ _ _,fun h=>ke2 h10 hz h,fun h=>trivial⟩
   ·skip
    have hz:=hlt 10 (by decide);have ev5:(frame a0 [223,224,225,226,227,228,229,230,231,232,233] x).tmps[5]?.getD undef=.pointer (some ⟨b5,0,none⟩):=by have h:=(Zc a0 [223,224,225,226,227,228,229,230,231,232,233] x 5 rfl).trans e5;simpa [Act.eval] using h
    refine Z8 rfl rfl (Zd (v:=.pointer (some ⟨b5,5,none⟩)) ?_ ?_)
    ·obtain ⟨aa,haa⟩:∃ aa,aa=frame a0 [223,224,225,226,227,228,229,230,231,232,233] x:=⟨_,rfl⟩
     rw [<-haa] at ev5 ⊢;clear haa;go_simp
    exact ⟨_,Z9 _ _ _ 233 _ rfl,(by rw [Zp hz (by decide)];exact hS),fun h=>ke2 h0 hz h,fun h=>ke2 h1 hz h,fun h=>ke2 h2 hz h,fun h=>ke2 h3 hz h,fun h=>ke2 h4 hz h,fun h=>ke2 h5 hz h,fun h=>ke2 h6 hz h,fun h=>ke2 h7 hz h,fun h=>ke2 h8 hz h,fun h=>ke2 h9 hz h,fun h=>Zb _ _ _,fun h=>trivial⟩
   ·have d9:=h9 (Z7 hi (by decide))
    have d10:=h10 (Z7 hi (by decide));have hz:=hlt 11 (by decide);have hb11:L.getD 11 false=false:=by have h9:=(Zx hsL hi).2;rw [Array.getD_eq_getD_getElem?,h9];rfl
    have evp:=(Z4 a0 [223,224,225,226,227,228,229,230,231,232,233] x 233 rfl (hsl 233 (by decide))).trans d10;have evs:=(Z4 a0 [223,224,225,226,227,228,229,230,231,232,233] x 232 rfl (hsl 232 (by decide))).trans d9;rw [hb11] at hS;have hS0:FS w0 w' g v l b3 b4 b5 n xr k m ve:=hS;refine Z8 rfl rfl (Z27 (.tmp 233) (.tmp 232) rfl evp evs (hS0.mb.cell 5) (hS0.mb.free 5) rfl ?_);exact ⟨_,rfl,(by rw [Yo hz];exact FS.set hS0 5 (by omega) _ rfl rfl),fun h=>ku2 h0 hz h,fun h=>ku2 h1 hz h,fun h=>ku2 h2 hz h,fun h=>ku2 h3 hz h,fun h=>ku2 h4 hz h,fun h=>ku2 h5 hz h,fun h=>ku2 h6 hz h,fun h=>ku2 h7 hz h,fun h=>ku2 h8 hz h,fun h=>ku2 h9 hz h,fun h=>ku2 h10 hz h,fun h=>trivial⟩
  ·rintro L a w' hsL hr ⟨x,rfl,hS,h0,h1,h2,h3,h4,h5,h6,h7,h8,h9,h10,h11⟩
   have hall:=Yq hsL hr (by decide);replace h0:=h0 (hall 0 (by decide));replace h1:=h1 (hall 1 (by decide));replace h2:=h2 (hall 2 (by decide));replace h3:=h3 (hall 3 (by decide));replace h4:=h4 (hall 4 (by decide));replace h5:=h5 (hall 5 (by decide));replace h6:=h6 (hall 6 (by decide));replace h7:=h7 (hall 7 (by decide));replace h8:=h8 (hall 8 (by decide));replace h9:=h9 (hall 9 (by decide));replace h10:=h10 (hall 10 (by decide));replace h11:=h11 (hall 11 (by decide));rw [hall 11 (by decide)] at hS;exact ⟨rfl,x,rfl,hS⟩
 ·rintro a' w' ⟨x,rfl,hFin⟩
  exact hP _ _ (hF.frame _ _) ((Zc a [223,224,225,226,227,228,229,230,231,232,233] x 0 rfl).trans h0) ((Zc a [223,224,225,226,227,228,229,230,231,232,233] x 3 rfl).trans h3) ((Zc a [223,224,225,226,227,228,229,230,231,232,233] x 4 rfl).trans h4) ((Zc a [223,224,225,226,227,228,229,230,231,232,233] x 5 rfl).trans h5) ((Zc a [223,224,225,226,227,228,229,230,231,232,233] x 9 rfl).trans h9) ((Zc a [223,224,225,226,227,228,229,230,231,232,233] x 10 rfl).trans h10) hFin
theorem df47 {w0:World}{g k b3 b4 b5:Nat}{v:Value}{l:List Int}{n:Nd}{xr:RV}{m:Mg}{ve:Value}(hL:l.length<=1048576)(hk:k<=890000000){t9:Int}{e10:Value}{Q:Exit->Act->World->Prop}{K:Act->World->Prop}{a:Act}{w:World}(hF:SzD a 343)(h0:a.eval (.tmp 0)=.pointer (some ⟨g,0,none⟩))(h3:a.eval (.tmp 3)=.pointer (some ⟨b3,0,none⟩))(h4:a.eval (.tmp 4)=.pointer (some ⟨b4,0,none⟩))(h5:a.eval (.tmp 5)=.pointer (some ⟨b5,0,none⟩))(h9:a.eval (.tmp 9)=.int .i64 t9)(h10:a.eval (.tmp 10)=e10)(hS:FS w0 w g v l b3 b4 b5 n xr k m ve)(hP:∀ a' w',SzD a' 343->a'.eval (.tmp 0)=.pointer (some ⟨g,0,none⟩)->a'.eval (.tmp 3)=.pointer (some ⟨b3,0,none⟩)->a'.eval (.tmp 4)=.pointer (some ⟨b4,0,none⟩)->a'.eval (.tmp 5)=.pointer (some ⟨b5,0,none⟩)->a'.eval (.tmp 9)=.int .i64 t9->a'.eval (.tmp 10)=e10->a'.eval (.tmp 236)=.bool (decide (Z5 l k 6=0))->FS w0 w' g v l b3 b4 b5 n xr (k+1) m ve->K a' w'):(Z1 2 (Zj (Z2 1 (Z1 23 (Z3 Tryz.f54))))).wp Tryz.prog (Exit.then K Q) a w:=by
 obtain ⟨t,rfl⟩:=hF.opened;clear hF;rw [Z3z]
 try dsimp only
 rw [show t 0=_ from h0,show t 3=_ from h3,show t 4=_ from h4,show t 5=_ from h5,show t 9=_ from h9,show t 10=_ from h10];clear h0 h3 h4 h5 h9 h10;have HS:Hid (FS w0 w g v l b3 b4 b5 n xr k m ve):=hS;clear hS;obtain ⟨p,hp⟩:∃ p,p=Z5 l k 6:=⟨_,rfl⟩;have Hp:Hid (p=Z5 l k 6):=hp;rw [<-hp] at hP;have bp:p<6:=by rw [hp];exact Zf _ _ _ (by omega)
 clear hp
 conv=>arg 2;whnf
 go_wp2_with (go_at_call 53;go_loud (refine (HS.out.pick1 6 hL (by omega) (by omega) (by omega)).mono ?_;rw [<-Hp.out];rintro r w9 ⟨rfl,hd⟩;have HS9:Hid (FS w0 w9 g v l b3 b4 b5 n xr (k+1) m ve):=hd;clear hd))
 exact hP _ _ ⟨rfl,rfl⟩ rfl rfl rfl rfl rfl rfl (by simp [Act.eval,beq0]) HS9.out
theorem df48 {w0:World}{g k b3 b4 b5:Nat}{v:Value}{l:List Int}{n:Nd}{xr:RV}{m:Mg}{ve:Value}{t9:Int}{e10:Value}(hlt:0<=m.lt/\m.lt<=1099511627776){Q:Exit->Act->World->Prop}{K:Act->World->Prop}{a:Act}{w:World}(hF:SzD a 343)(h0:a.eval (.tmp 0)=.pointer (some ⟨g,0,none⟩))(h3:a.eval (.tmp 3)=.pointer (some ⟨b3,0,none⟩))(h4:a.eval (.tmp 4)=.pointer (some ⟨b4,0,none⟩))(h5:a.eval (.tmp 5)=.pointer (some ⟨b5,0,none⟩))(h9:a.eval (.tmp 9)=.int .i64 t9)(h10:a.eval (.tmp 10)=e10)(hS:FS w0 w g v l b3 b4 b5 n xr k m ve)(hP:∀ a' w',SzD a' 343->a'.eval (.tmp 0)=.pointer (some ⟨g,0,none⟩)->a'.eval (.tmp 3)=.pointer (some ⟨b3,0,none⟩)->a'.eval (.tmp 4)=.pointer (some ⟨b4,0,none⟩)->a'.eval (.tmp 5)=.pointer (some ⟨b5,0,none⟩)->a'.eval (.tmp 9)=.int .i64 t9->a'.eval (.tmp 10)=e10->FS w0 w' g v l b3 b4 b5 n xr k { m with lt:=max 1 (m.lt-1) } ve->K a' w'):(Zj (Z2 3 (Zj (Z2 1 (Z1 23 (Z3 Tryz.f54)))))).wp Tryz.prog (Exit.then K Q) a w:=by
 obtain ⟨t,rfl⟩:=hF.opened;clear hF;rw [Z3z]
 try dsimp only
 rw [show t 0=_ from h0,show t 3=_ from h3,show t 4=_ from h4,show t 5=_ from h5,show t 9=_ from h9,show t 10=_ from h10];clear h0 h3 h4 h5 h9 h10;have m5:w.cell? ⟨b5,5,none⟩=some (.int .i64 m.lt):=hS.mb.cell 5;have f5:w.frozen? ⟨b5,5,none⟩=false:=hS.mb.free 5;have HS:Hid (FS w0 w g v l b3 b4 b5 n xr k m ve):=hS;clear hS;obtain ⟨M1,hM1⟩:∃ q,q=max 1 (m.lt-1):=⟨_,rfl⟩;have H1:Hid (M1=max 1 (m.lt-1)):=hM1;rw [<-hM1] at hP;clear hM1;have hw1:IntKind.i64.wrap (m.lt-1)=m.lt-1:=by rw [IntKind.wrap_i64];omega
 conv=>arg 2;whnf
 go_wp2_with (go_at_call 94;go_loud (refine (Jm _ _ _).mono ?_;rw [<-H1.out];rintro r w9 ⟨rfl,hw⟩;obtain rfl:=hw.symm;clear hw))
 exact hP _ _ ⟨rfl,rfl⟩ rfl rfl rfl rfl rfl rfl (HS.out.set 5 (by omega) _ rfl rfl)
theorem df49 {w0:World}{g k b3 b4 b5:Nat}{v:Value}{l:List Int}{n:Nd}{xr:RV}{m:Mg}{ve:Value}{t9:Int}{e10:Value}{Q:Exit->Act->World->Prop}{K:Act->World->Prop}{a:Act}{w:World}(hF:SzD a 343)(h0:a.eval (.tmp 0)=.pointer (some ⟨g,0,none⟩))(h3:a.eval (.tmp 3)=.pointer (some ⟨b3,0,none⟩))(h4:a.eval (.tmp 4)=.pointer (some ⟨b4,0,none⟩))(h5:a.eval (.tmp 5)=.pointer (some ⟨b5,0,none⟩))(h9:a.eval (.tmp 9)=.int .i64 t9)(h10:a.eval (.tmp 10)=e10)(hS:FS w0 w g v l b3 b4 b5 n xr k m ve)(hP:∀ a' w',SzD a' 343->a'.eval (.tmp 0)=.pointer (some ⟨g,0,none⟩)->a'.eval (.tmp 3)=.pointer (some ⟨b3,0,none⟩)->a'.eval (.tmp 4)=.pointer (some ⟨b4,0,none⟩)->a'.eval (.tmp 5)=.pointer (some ⟨b5,0,none⟩)->a'.eval (.tmp 9)=.int .i64 t9->a'.eval (.tmp 10)=e10->a'.eval (.tmp 244)=.bool (m.ki != 5)->FS w0 w' g v l b3 b4 b5 n xr k m ve->K a' w'):(Z1 0 (Z1 24 (Z3 Tryz.f54))).wp Tryz.prog (Exit.then K Q) a w:=by
 obtain ⟨t,rfl⟩:=hF.opened;clear hF;rw [Z3z]
 try dsimp only
 rw [show t 0=_ from h0,show t 3=_ from h3,show t 4=_ from h4,show t 5=_ from h5,show t 9=_ from h9,show t 10=_ from h10];clear h0 h3 h4 h5 h9 h10;have m0:w.cell? ⟨b5,0,none⟩=some (.int .i64 m.ki):=hS.mb.cell 0;have HS:Hid (FS w0 w g v l b3 b4 b5 n xr k m ve):=hS;clear hS
 conv=>arg 2;whnf
 go_wp2_with fail
 exact hP _ _ ⟨rfl,rfl⟩ rfl rfl rfl rfl rfl rfl rfl HS.out
theorem df50 {w0:World}{g k b3 b4 b5:Nat}{v:Value}{l:List Int}{n:Nd}{xr:RV}{m:Mg}{ve:Value}{Q:Exit->Act->World->Prop}{K:Act->World->Prop}{a:Act}{w:World}(hF:SzD a 343)(h0:a.eval (.tmp 0)=.pointer (some ⟨g,0,none⟩))(h3:a.eval (.tmp 3)=.pointer (some ⟨b3,0,none⟩))(h4:a.eval (.tmp 4)=.pointer (some ⟨b4,0,none⟩))(h5:a.eval (.tmp 5)=.pointer (some ⟨b5,0,none⟩))(hS:FS w0 w g v l b3 b4 b5 n xr k m ve)(hP:∀ a' w',SzD a' 343->a'.eval (.tmp 0)=.pointer (some ⟨g,0,none⟩)->a'.eval (.tmp 3)=.pointer (some ⟨b3,0,none⟩)->a'.eval (.tmp 4)=.pointer (some ⟨b4,0,none⟩)->a'.eval (.tmp 5)=.pointer (some ⟨b5,0,none⟩)->FS w0 w' g v l b3 b4 b5 n xr k { m with es:=[] } (.slice none 0 0)->K a' w'):(Z1 0 (Zj (Z2 1 (Z1 24 (Z3 Tryz.f54))))).wp Tryz.prog (Exit.then K Q) a w:=by
 obtain ⟨t,rfl⟩:=hF.opened;clear hF;rw [Z3z]
 try dsimp only
 rw [show t 0=_ from h0,show t 3=_ from h3,show t 4=_ from h4,show t 5=_ from h5];clear h0 h3 h4 h5;obtain ⟨ea,ec,hv⟩:=hS.es.shape;have m9:w.cell? ⟨b5,9,none⟩=some (.slice ea m.es.length ec):=by rw [<-hv];exact hS.mb.cell 9
 have f9:w.frozen? ⟨b5,9,none⟩=false:=hS.mb.free 9;have HS:Hid (FS w0 w g v l b3 b4 b5 n xr k m ve):=hS;clear hS;clear hv
 conv=>arg 2;whnf
 go_wp2_with fail
 exact hP _ _ ⟨rfl,rfl⟩ rfl rfl rfl rfl HS.out.bare
theorem df52 {w0:World}{g k b3 b4 b5:Nat}{v:Value}{l:List Int}{n:Nd}{xr:RV}{m:Mg}{ve:Value}(hL:l.length<=1048576)(hk:k<=890000000){t9:Int}{e10:Value}(ht9:0<=t9/\t9<=4096){Q:Exit->Act->World->Prop}{K:Act->World->Prop}{a:Act}{w:World}(hF:SzD a 343)(h0:a.eval (.tmp 0)=.pointer (some ⟨g,0,none⟩))(h3:a.eval (.tmp 3)=.pointer (some ⟨b3,0,none⟩))(h4:a.eval (.tmp 4)=.pointer (some ⟨b4,0,none⟩))(h5:a.eval (.tmp 5)=.pointer (some ⟨b5,0,none⟩))(h9:a.eval (.tmp 9)=.int .i64 t9)(h10:a.eval (.tmp 10)=e10)(hS:FS w0 w g v l b3 b4 b5 n xr k m ve)(hP:∀ a' w',SzD a' 343->a'.eval (.tmp 0)=.pointer (some ⟨g,0,none⟩)->a'.eval (.tmp 3)=.pointer (some ⟨b3,0,none⟩)->a'.eval (.tmp 4)=.pointer (some ⟨b4,0,none⟩)->a'.eval (.tmp 5)=.pointer (some ⟨b5,0,none⟩)->a'.eval (.tmp 9)=.int .i64 t9->a'.eval (.tmp 10)=e10->FS w0 w' g v l b3 b4 b5 n xr (k+1) { m with cm:=min (t9+((Z5 l k 4:Nat):Int)) 4096 } ve->K a' w'):(Z1 25 (Z3 Tryz.f54)).wp Tryz.prog (Exit.then K Q) a w:=by
 obtain ⟨t,rfl⟩:=hF.opened;clear hF;rw [Z3z]
 try dsimp only
 rw [show t 0=_ from h0,show t 3=_ from h3,show t 4=_ from h4,show t 5=_ from h5,show t 9=_ from h9,show t 10=_ from h10];clear h0 h3 h4 h5 h9 h10;have HS:Hid (FS w0 w g v l b3 b4 b5 n xr k m ve):=hS;clear hS;obtain ⟨p,hp⟩:∃ p,p=Z5 l k 4:=⟨_,rfl⟩;have Hp:Hid (p=Z5 l k 4):=hp;rw [<-hp] at hP;have bp:p<4:=by rw [hp];exact Zf _ _ _ (by omega)
 clear hp;obtain ⟨A,hA⟩:∃ q,q=min (t9+(p:Int)) 4096:=⟨_,rfl⟩;have HA:Hid (A=min (t9+(p:Int)) 4096):=hA;rw [<-hA] at hP;clear hA;have hw1:IntKind.i64.wrap (t9+(p:Int))=t9+(p:Int):=by rw [IntKind.wrap_i64];omega
 conv=>arg 2;whnf
 go_wp2_with (first
  |(go_at_call 53;go_loud (refine (HS.out.pick1 4 hL (by omega) (by omega) (by omega)).mono ?_;rw [<-Hp.out];rintro r w9 ⟨rfl,hd⟩;have HS9:Hid (FS w0 w9 g v l b3 b4 b5 n xr (k+1) m ve):=hd;have m6:w9.cell? ⟨b5,6,none⟩=some (.int .i64 m.cm):=HS9.out.mb.cell 6;have f6:w9.frozen? ⟨b5,6,none⟩=false:=HS9.out.mb.free 6;clear hd))
  |(go_at_call 55;go_loud (refine (Xf _ _ _).mono ?_;rw [<-HA.out];rintro r w8 ⟨rfl,hw⟩;obtain rfl:=hw.symm;clear hw)))
 exact hP _ _ ⟨rfl,rfl⟩ rfl rfl rfl rfl rfl rfl (HS9.out.set 6 (by omega) _ rfl rfl)
theorem df53 {w0:World}{g k b3 b4 b5:Nat}{v:Value}{l:List Int}{n:Nd}{xr:RV}{m:Mg}{ve:Value}{t9:Int}{e10:Value}{Q:Exit->Act->World->Prop}{K:Act->World->Prop}{a:Act}{w:World}(hF:SzD a 343)(h0:a.eval (.tmp 0)=.pointer (some ⟨g,0,none⟩))(h3:a.eval (.tmp 3)=.pointer (some ⟨b3,0,none⟩))(h4:a.eval (.tmp 4)=.pointer (some ⟨b4,0,none⟩))(h5:a.eval (.tmp 5)=.pointer (some ⟨b5,0,none⟩))(h9:a.eval (.tmp 9)=.int .i64 t9)(h10:a.eval (.tmp 10)=e10)(hS:FS w0 w g v l b3 b4 b5 n xr k m ve)(hP:∀ a' w',SzD a' 343->a'.eval (.tmp 0)=.pointer (some ⟨g,0,none⟩)->a'.eval (.tmp 3)=.pointer (some ⟨b3,0,none⟩)->a'.eval (.tmp 4)=.pointer (some ⟨b4,0,none⟩)->a'.eval (.tmp 5)=.pointer (some ⟨b5,0,none⟩)->a'.eval (.tmp 9)=.int .i64 t9->a'.eval (.tmp 10)=e10->a'.eval (.tmp 11)=.int .i64 (max m.lt 1)->FS w0 w' g v l b3 b4 b5 n xr k m ve->K a' w'):(Z1 26 (Z3 Tryz.f54)).wp Tryz.prog (Exit.then K Q) a w:=by
 obtain ⟨t,rfl⟩:=hF.opened;clear hF;rw [Z3z]
 try dsimp only
 rw [show t 0=_ from h0,show t 3=_ from h3,show t 4=_ from h4,show t 5=_ from h5,show t 9=_ from h9,show t 10=_ from h10];clear h0 h3 h4 h5 h9 h10;have m5:w.cell? ⟨b5,5,none⟩=some (.int .i64 m.lt):=hS.mb.cell 5;have HS:Hid (FS w0 w g v l b3 b4 b5 n xr k m ve):=hS;clear hS;obtain ⟨M1,hM1⟩:∃ q,q=max m.lt 1:=⟨_,rfl⟩;have H1:Hid (M1=max m.lt 1):=hM1;rw [<-hM1] at hP;clear hM1
 conv=>arg 2;whnf
 go_wp2_with (go_at_call 94;go_loud (refine (Jm _ _ _).mono ?_;rw [<-H1.out];rintro r w9 ⟨rfl,hw⟩;obtain rfl:=hw.symm;clear hw))
 exact hP _ _ ⟨rfl,rfl⟩ rfl rfl rfl rfl rfl rfl rfl HS.out
theorem df54t {w0:World}{g k b3 b4 b5:Nat}{v:Value}{l:List Int}{n:Nd}{xr:RV}{m:Mg}{ve:Value}(hL:l.length<=1048576)(hk:k<=890000000){e9 e11:Value}{Q:Exit->Act->World->Prop}{K:Act->World->Prop}{a:Act}{w:World}(hF:SzD a 343)(h0:a.eval (.tmp 0)=.pointer (some ⟨g,0,none⟩))(h3:a.eval (.tmp 3)=.pointer (some ⟨b3,0,none⟩))(h4:a.eval (.tmp 4)=.pointer (some ⟨b4,0,none⟩))(h5:a.eval (.tmp 5)=.pointer (some ⟨b5,0,none⟩))(h9:a.eval (.tmp 9)=e9)(h10:a.eval (.tmp 10)=.bool true)(h11:a.eval (.tmp 11)=e11)(hS:FS w0 w g v l b3 b4 b5 n xr k m ve)(hP:∀ a' w',SzD a' 343->a'.eval (.tmp 0)=.pointer (some ⟨g,0,none⟩)->a'.eval (.tmp 3)=.pointer (some ⟨b3,0,none⟩)->a'.eval (.tmp 4)=.pointer (some ⟨b4,0,none⟩)->a'.eval (.tmp 5)=.pointer (some ⟨b5,0,none⟩)->a'.eval (.tmp 9)=e9->a'.eval (.tmp 10)=.bool true->a'.eval (.tmp 11)=e11->a'.eval (.tmp 261)=.bool (decide (Z5 l k 2=0))->FS w0 w' g v l b3 b4 b5 n xr (k+1) m ve->K a' w'):(Z1 0 (Z1 27 (Z3 Tryz.f54))).wp Tryz.prog (Exit.then K Q) a w:=by
 obtain ⟨t,rfl⟩:=hF.opened;clear hF;rw [Z3z]
 try dsimp only
 rw [show t 0=_ from h0,show t 3=_ from h3,show t 4=_ from h4,show t 5=_ from h5,show t 9=_ from h9,show t 10=_ from h10,show t 11=_ from h11];clear h0 h3 h4 h5 h9 h10 h11;have HS:Hid (FS w0 w g v l b3 b4 b5 n xr k m ve):=hS;clear hS;obtain ⟨p,hp⟩:∃ p,p=Z5 l k 2:=⟨_,rfl⟩;have Hp:Hid (p=Z5 l k 2):=hp;rw [<-hp] at hP;have bp:p<2:=by rw [hp];exact Zf _ _ _ (by omega)
 clear hp
 conv=>arg 2;whnf
 go_wp2_with (go_at_call 53;go_loud (refine (HS.out.pick1 2 hL (by omega) (by omega) (by omega)).mono ?_;rw [<-Hp.out];rintro r w9 ⟨rfl,hd⟩;have HS9:Hid (FS w0 w9 g v l b3 b4 b5 n xr (k+1) m ve):=hd;clear hd))
 exact hP _ _ ⟨rfl,rfl⟩ rfl rfl rfl rfl rfl rfl rfl (by simp [Act.eval,beq0]) HS9.out
theorem df54f {w0:World}{g k b3 b4 b5:Nat}{v:Value}{l:List Int}{n:Nd}{xr:RV}{m:Mg}{ve:Value}{e9 e11:Value}{Q:Exit->Act->World->Prop}{K:Act->World->Prop}{a:Act}{w:World}(hF:SzD a 343)(h0:a.eval (.tmp 0)=.pointer (some ⟨g,0,none⟩))(h3:a.eval (.tmp 3)=.pointer (some ⟨b3,0,none⟩))(h4:a.eval (.tmp 4)=.pointer (some ⟨b4,0,none⟩))(h5:a.eval (.tmp 5)=.pointer (some ⟨b5,0,none⟩))(h9:a.eval (.tmp 9)=e9)(h10:a.eval (.tmp 10)=.bool false)(h11:a.eval (.tmp 11)=e11)(hS:FS w0 w g v l b3 b4 b5 n xr k m ve)(hP:∀ a' w',SzD a' 343->a'.eval (.tmp 0)=.pointer (some ⟨g,0,none⟩)->a'.eval (.tmp 3)=.pointer (some ⟨b3,0,none⟩)->a'.eval (.tmp 4)=.pointer (some ⟨b4,0,none⟩)->a'.eval (.tmp 5)=.pointer (some ⟨b5,0,none⟩)->a'.eval (.tmp 9)=e9->a'.eval (.tmp 10)=.bool false->a'.eval (.tmp 11)=e11->a'.eval (.tmp 261)=.bool false->FS w0 w' g v l b3 b4 b5 n xr k m ve->K a' w'):(Z1 0 (Z1 27 (Z3 Tryz.f54))).wp Tryz.prog (Exit.then K Q) a w:=by
 obtain ⟨t,rfl⟩:=hF.opened;clear hF;rw [Z3z]
 try dsimp only
 rw [show t 0=_ from h0,show t 3=_ from h3,show t 4=_ from h4,show t 5=_ from h5,show t 9=_ from h9,show t 10=_ from h10,show t 11=_ from h11];clear h0 h3 h4 h5 h9 h10 h11;have HS:Hid (FS w0 w g v l b3 b4 b5 n xr k m ve):=hS;clear hS
 conv=>arg 2;whnf
 go_wp2_with fail
 exact hP _ _ ⟨rfl,rfl⟩ rfl rfl rfl rfl rfl rfl rfl rfl HS.out
theorem df55 {w0:World}{g k b3 b4 b5:Nat}{v:Value}{l:List Int}{n:Nd}{xr:RV}{m:Mg}{ve:Value}{e9 e10 e11:Value}(htm:0<=m.tm/\m.tm<=1099511627776){Q:Exit->Act->World->Prop}{K:Act->World->Prop}{a:Act}{w:World}(hF:SzD a 343)(h0:a.eval (.tmp 0)=.pointer (some ⟨g,0,none⟩))(h3:a.eval (.tmp 3)=.pointer (some ⟨b3,0,none⟩))(h4:a.eval (.tmp 4)=.pointer (some ⟨b4,0,none⟩))(h5:a.eval (.tmp 5)=.pointer (some ⟨b5,0,none⟩))(h9:a.eval (.tmp 9)=e9)(h10:a.eval (.tmp 10)=e10)(h11:a.eval (.tmp 11)=e11)(hS:FS w0 w g v l b3 b4 b5 n xr k m ve)(hP:∀ a' w',SzD a' 343->a'.eval (.tmp 0)=.pointer (some ⟨g,0,none⟩)->a'.eval (.tmp 3)=.pointer (some ⟨b3,0,none⟩)->a'.eval (.tmp 4)=.pointer (some ⟨b4,0,none⟩)->a'.eval (.tmp 5)=.pointer (some ⟨b5,0,none⟩)->a'.eval (.tmp 9)=e9->a'.eval (.tmp 10)=e10->a'.eval (.tmp 11)=e11->FS w0 w' g v l b3 b4 b5 n xr k { m with tm:=min (m.tm+1) 1073741824 } ve->K a' w'):(Zj (Z2 1 (Z1 27 (Z3 Tryz.f54)))).wp Tryz.prog (Exit.then K Q) a w:=by
 obtain ⟨t,rfl⟩:=hF.opened;clear hF;rw [Z3z]
 try dsimp only
 rw [show t 0=_ from h0,show t 3=_ from h3,show t 4=_ from h4,show t 5=_ from h5,show t 9=_ from h9,show t 10=_ from h10,show t 11=_ from h11];clear h0 h3 h4 h5 h9 h10 h11;have m3:w.cell? ⟨b5,3,none⟩=some (.int .i64 m.tm):=hS.mb.cell 3;have f3:w.frozen? ⟨b5,3,none⟩=false:=hS.mb.free 3;have HS:Hid (FS w0 w g v l b3 b4 b5 n xr k m ve):=hS;clear hS;obtain ⟨M1,hM1⟩:∃ q,q=min (m.tm+1) 1073741824:=⟨_,rfl⟩;have H1:Hid (M1=min (m.tm+1) 1073741824):=hM1;rw [<-hM1] at hP;clear hM1;have hw1:IntKind.i64.wrap (m.tm+1)=m.tm+1:=by rw [IntKind.wrap_i64];omega
 conv=>arg 2;whnf
 go_wp2_with (go_at_call 55;go_loud (refine (Xf _ _ _).mono ?_;rw [<-H1.out];rintro r w9 ⟨rfl,hw⟩;obtain rfl:=hw.symm;clear hw))
 exact hP _ _ ⟨rfl,rfl⟩ rfl rfl rfl rfl rfl rfl rfl (HS.out.set 3 (by omega) _ rfl rfl)
theorem df56 {w0:World}{g k b3 b4 b5:Nat}{v:Value}{l:List Int}{n:Nd}{xr:RV}{m:Mg}{ve:Value}(hL:l.length<=1048576)(hk:k<=590000000){t9 lw:Int}{e10:Value}(ht9:0<=t9/\t9<=4096)(hlw:0<=lw/\lw<=1073741824){Q:Exit->Act->World->Prop}{K:Act->World->Prop}{a:Act}{w:World}(hF:SzD a 343)(h0:a.eval (.tmp 0)=.pointer (some ⟨g,0,none⟩))(h3:a.eval (.tmp 3)=.pointer (some ⟨b3,0,none⟩))(h4:a.eval (.tmp 4)=.pointer (some ⟨b4,0,none⟩))(h5:a.eval (.tmp 5)=.pointer (some ⟨b5,0,none⟩))(h9:a.eval (.tmp 9)=.int .i64 t9)(h10:a.eval (.tmp 10)=e10)(h11:a.eval (.tmp 11)=.int .i64 lw)(hS:FS w0 w g v l b3 b4 b5 n xr k m ve)(hP:∀ a' w' (ev:Value),SzD a' 343->a'.eval (.tmp 0)=.pointer (some ⟨g,0,none⟩)->a'.eval (.tmp 3)=.pointer (some ⟨b3,0,none⟩)->a'.eval (.tmp 4)=.pointer (some ⟨b4,0,none⟩)->a'.eval (.tmp 5)=.pointer (some ⟨b5,0,none⟩)->a'.eval (.tmp 9)=.int .i64 t9->a'.eval (.tmp 10)=e10->a'.eval (.tmp 11)=.int .i64 lw->a'.eval (.tmp 12)=ev->GS w0 w' g v l b3 b4 b5 n xr (Y5 l (k+1) lw (min (Z5 l k 5) (4096-t9).toNat)).2.1 m ve ev (Y5 l (k+1) lw (min (Z5 l k 5) (4096-t9).toNat)).1->K a' w'):(Z1 28 (Z3 Tryz.f54)).wp Tryz.prog (Exit.then K Q) a w:=by
 obtain ⟨t,rfl⟩:=hF.opened;clear hF;rw [Z3z]
 try dsimp only
 rw [show t 0=_ from h0,show t 3=_ from h3,show t 4=_ from h4,show t 5=_ from h5,show t 9=_ from h9,show t 10=_ from h10,show t 11=_ from h11];clear h0 h3 h4 h5 h9 h10 h11;have HS:Hid (FS w0 w g v l b3 b4 b5 n xr k m ve):=hS;clear hS;obtain ⟨C,hC⟩:∃ C,C=min (Z5 l k 5) (4096-t9).toNat:=⟨_,rfl⟩;rw [<-hC] at hP;obtain ⟨p,hp⟩:∃ p,p=Z5 l k 5:=⟨_,rfl⟩;have Hp:Hid (p=Z5 l k 5):=hp;rw [<-hp] at hC;have bp:p<5:=by rw [hp];exact Zf _ _ _ (by omega)
 clear hp;have HC:Hid ((C:Int)=min (p:Int) (4096-t9)):=by unfold Hid;omega
 have hC5:C<=5:=by omega
 clear hC;have hw1:IntKind.i64.wrap (4096-t9)=4096-t9:=by rw [IntKind.wrap_i64];omega
 conv=>arg 2;whnf
 go_wp2_with (first
  |(go_at_call 53;go_loud (refine (HS.out.pick1 5 hL (by omega) (by omega) (by omega)).mono ?_;rw [<-Hp.out];rintro r w9 ⟨rfl,hd⟩;have HS9:Hid (FS w0 w9 g v l b3 b4 b5 n xr (k+1) m ve):=hd;clear hd))
  |(go_at_call 55;go_loud (refine (Xf _ _ _).mono ?_;rw [<-HC.out];rintro r w8 ⟨rfl,hw⟩;obtain rfl:=hw.symm;clear hw))
  |(go_at_call 96;go_loud (refine (Jo g _ v l (k+1) C lw hL (by omega) (by omega) hlw HS9.out.dr.src).mono ?_;rintro r w7 ⟨ev,rfl,ho,hs,hg⟩;have HG:Hid (GS w0 w7 g v l b3 b4 b5 n xr (Y5 l (k+1) lw C).2.1 m ve ev (Y5 l (k+1) lw C).1):=⟨HS9.out.dr.call hs hg,ho.le HS9.out.dr.size⟩;clear ho hs hg)))
 exact hP _ _ _ ⟨rfl,rfl⟩ rfl rfl rfl rfl rfl rfl rfl rfl HG.out
theorem GS.setT' {w0 w:World}{g:Nat}{v:Value}{l:List Int}{k b3 b4 b5:Nat}{n:Nd}{x:RV}{m:Mg}{ve:Value}{es:List Ent}{q c N:Nat}(h:GS w0 w g v l b3 b4 b5 n x k m ve (.slice (some ⟨q,0,none⟩) N c) es)(hN:es.length=N)(i:Nat)(hi:i<es.length)(T:Int):GS w0 (w.setCell ⟨q,i*7,none⟩ (.int .i64 T)) g v l b3 b4 b5 n x k m ve (.slice (some ⟨q,0,none⟩) N c) (es.set i (Xm T es[i])):=by
 subst hN;exact h.setT i hi T
theorem GS.setE' {w0 w:World}{g:Nat}{v:Value}{l:List Int}{k b3 b4 b5:Nat}{n:Nd}{x:RV}{m:Mg}{ve:Value}{es:List Ent}{q c N:Nat}(h:GS w0 w g v l b3 b4 b5 n x k m ve (.slice (some ⟨q,0,none⟩) N c) es)(hN:es.length=N)(i:Nat)(hi:i<es.length)(e:Ent)(he:e.fits):GS w0 (w.setCells q (i*7) e.cells) g v l b3 b4 b5 n x k m ve (.slice (some ⟨q,0,none⟩) N c) (es.set i e):=by
 subst hN;exact h.setE i hi e he
theorem sizeEnF:(Tryz.prog.info? 118).map (·.size)=some 7:=by kernel_rfl
theorem Xv.range {w:World}{b o:Nat}{e:Ent}(h:Xv w b o e):w.rangeAt b o e.cells:=by
 obtain ⟨h0,h1,h2,h3,h4,h5,h6⟩:=h;intro j u hu;rcases j with _ | _ | _ | _ | _ | _ | _ | j
 ·simp only [Ent.cells,List.getElem?_cons_zero,Option.some.injEq] at hu;subst hu;exact h0
 ·simp only [Ent.cells,List.getElem?_cons_zero,List.getElem?_cons_succ,Option.some.injEq] at hu;subst hu;exact h1
 ·simp only [Ent.cells,List.getElem?_cons_zero,List.getElem?_cons_succ,Option.some.injEq] at hu;subst hu;exact h2
 ·simp only [Ent.cells,List.getElem?_cons_zero,List.getElem?_cons_succ,Option.some.injEq] at hu;subst hu;exact h3
 ·simp only [Ent.cells,List.getElem?_cons_zero,List.getElem?_cons_succ,Option.some.injEq] at hu;subst hu;exact h4
 ·simp only [Ent.cells,List.getElem?_cons_zero,List.getElem?_cons_succ,Option.some.injEq] at hu;subst hu;exact h5
 ·simp only [Ent.cells,List.getElem?_cons_zero,List.getElem?_cons_succ,Option.some.injEq] at hu;subst hu;exact h6
 ·simp [Ent.cells] at hu
theorem Xv.thereE {w:World}{b o:Nat}{e:Ent}(h:Xv w b o e)(hf:∀ j,w.frozen? ⟨b,j,none⟩=false):w.there b o 7:=by
 obtain ⟨h0,h1,h2,h3,h4,h5,h6⟩:=h;intro j hj;refine ⟨?_,hf _⟩;rcases (show j=0∨j=1∨j=2∨j=3∨j=4∨j=5∨j=6 by omega) with rfl | rfl | rfl | rfl | rfl | rfl | rfl
 ·rw [Nat.add_zero,h0];rfl
 ·rw [h1];rfl
 ·rw [h2];rfl
 ·rw [h3];rfl
 ·rw [h4];rfl
 ·rw [h5];rfl
 ·rw [h6];rfl
theorem df57 {w0:World}{g k b3 b4 b5:Nat}{v:Value}{l:List Int}{n:Nd}{xr:RV}{m:Mg}{ve ev:Value}{es:List Ent}{e9 e10 e11 e12:Value}{Q:Exit->Act->World->Prop}{K:Act->World->Prop}{a:Act}{w:World}(hF:SzD a 343)(h0:a.eval (.tmp 0)=.pointer (some ⟨g,0,none⟩))(h3:a.eval (.tmp 3)=.pointer (some ⟨b3,0,none⟩))(h4:a.eval (.tmp 4)=.pointer (some ⟨b4,0,none⟩))(h5:a.eval (.tmp 5)=.pointer (some ⟨b5,0,none⟩))(h9:a.eval (.tmp 9)=e9)(h10:a.eval (.tmp 10)=e10)(h11:a.eval (.tmp 11)=e11)(h12:a.eval (.tmp 12)=e12)(hS:GS w0 w g v l b3 b4 b5 n xr k m ve ev es)(hP:∀ a' w',SzD a' 343->a'.eval (.tmp 0)=.pointer (some ⟨g,0,none⟩)->a'.eval (.tmp 3)=.pointer (some ⟨b3,0,none⟩)->a'.eval (.tmp 4)=.pointer (some ⟨b4,0,none⟩)->a'.eval (.tmp 5)=.pointer (some ⟨b5,0,none⟩)->a'.eval (.tmp 9)=e9->a'.eval (.tmp 10)=e10->a'.eval (.tmp 11)=e11->a'.eval (.tmp 12)=e12->a'.eval (.tmp 13)=.int .i64 0->GS w0 w' g v l b3 b4 b5 n xr k m ve ev es->K a' w'):(Z1 0 (Z1 29 (Z3 Tryz.f54))).wp Tryz.prog (Exit.then K Q) a w:=by
 obtain ⟨t,rfl⟩:=hF.opened;clear hF;rw [Z3z]
 try dsimp only
 rw [show t 0=_ from h0,show t 3=_ from h3,show t 4=_ from h4,show t 5=_ from h5,show t 9=_ from h9,show t 10=_ from h10,show t 11=_ from h11,show t 12=_ from h12];clear h0 h3 h4 h5 h9 h10 h11 h12;have HS:Hid (GS w0 w g v l b3 b4 b5 n xr k m ve ev es):=hS;clear hS
 conv=>arg 2;whnf
 go_wp2_with fail
 exact hP _ _ ⟨rfl,rfl⟩ rfl rfl rfl rfl rfl rfl rfl rfl rfl HS.out
theorem df58 {w0:World}{g k b3 b4 b5:Nat}{v:Value}{l:List Int}{n:Nd}{xr:RV}{m:Mg}{ve ev:Value}{es:List Ent}{e9 e10 e11:Value}{ea:Option Addr}{N ec i:Nat}(hNb:N<=100)(hib:i<=100){Q:Exit->Act->World->Prop}{K:Act->World->Prop}{a:Act}{w:World}(hF:SzD a 343)(h0:a.eval (.tmp 0)=.pointer (some ⟨g,0,none⟩))(h3:a.eval (.tmp 3)=.pointer (some ⟨b3,0,none⟩))(h4:a.eval (.tmp 4)=.pointer (some ⟨b4,0,none⟩))(h5:a.eval (.tmp 5)=.pointer (some ⟨b5,0,none⟩))(h9:a.eval (.tmp 9)=e9)(h10:a.eval (.tmp 10)=e10)(h11:a.eval (.tmp 11)=e11)(h12:a.eval (.tmp 12)=.slice ea N ec)(h13:a.eval (.tmp 13)=.int .i64 (i:Int))(hS:GS w0 w g v l b3 b4 b5 n xr k m ve ev es)(hP:∀ a' w',SzD a' 343->a'.eval (.tmp 0)=.pointer (some ⟨g,0,none⟩)->a'.eval (.tmp 3)=.pointer (some ⟨b3,0,none⟩)->a'.eval (.tmp 4)=.pointer (some ⟨b4,0,none⟩)->a'.eval (.tmp 5)=.pointer (some ⟨b5,0,none⟩)->a'.eval (.tmp 9)=e9->a'.eval (.tmp 10)=e10->a'.eval (.tmp 11)=e11->a'.eval (.tmp 12)=.slice ea N ec->a'.eval (.tmp 13)=.int .i64 (i:Int)->a'.eval (.tmp 278)=.bool (decide (i<N))->GS w0 w' g v l b3 b4 b5 n xr k m ve ev es->K a' w'):(Z1 0 (Z1 0 (Y6 (Zn (Z2 1 (Z1 29 (Z3 Tryz.f54))))))).wp Tryz.prog (Exit.then K Q) a w:=by
 obtain ⟨t,rfl⟩:=hF.opened;clear hF;rw [Z3z]
 try dsimp only
 rw [show t 0=_ from h0,show t 3=_ from h3,show t 4=_ from h4,show t 5=_ from h5,show t 9=_ from h9,show t 10=_ from h10,show t 11=_ from h11,show t 12=_ from h12,show t 13=_ from h13];clear h0 h3 h4 h5 h9 h10 h11 h12 h13;have HS:Hid (GS w0 w g v l b3 b4 b5 n xr k m ve ev es):=hS;clear hS
 conv=>arg 2;whnf
 go_wp2_with fail
 exact hP _ _ ⟨rfl,rfl⟩ rfl rfl rfl rfl rfl rfl rfl rfl rfl (by simp [Act.eval]) HS.out
theorem df60 {w0:World}{g k b3 b4 b5:Nat}{v:Value}{l:List Int}{n:Nd}{xr:RV}{m:Mg}{ve:Value}{es:List Ent}{q N ec i P:Nat}{ot:Bool}{lw:Int}(hN:es.length=N)(hi:i<N)(hNb:N<=100)(hPb:P<=4096){Q:Exit->Act->World->Prop}{K:Act->World->Prop}{a:Act}{w:World}(hF:SzD a 343)(h0:a.eval (.tmp 0)=.pointer (some ⟨g,0,none⟩))(h3:a.eval (.tmp 3)=.pointer (some ⟨b3,0,none⟩))(h4:a.eval (.tmp 4)=.pointer (some ⟨b4,0,none⟩))(h5:a.eval (.tmp 5)=.pointer (some ⟨b5,0,none⟩))(h9:a.eval (.tmp 9)=.int .i64 (P:Int))(h10:a.eval (.tmp 10)=.bool ot)(h11:a.eval (.tmp 11)=.int .i64 lw)(h12:a.eval (.tmp 12)=.slice (some ⟨q,0,none⟩) N ec)(h13:a.eval (.tmp 13)=.int .i64 (i:Int))(hS:GS w0 w g v l b3 b4 b5 n xr k m ve (.slice (some ⟨q,0,none⟩) N ec) es)(hP:∀ a' w',SzD a' 343->a'.eval (.tmp 0)=.pointer (some ⟨g,0,none⟩)->a'.eval (.tmp 3)=.pointer (some ⟨b3,0,none⟩)->a'.eval (.tmp 4)=.pointer (some ⟨b4,0,none⟩)->a'.eval (.tmp 5)=.pointer (some ⟨b5,0,none⟩)->a'.eval (.tmp 9)=.int .i64 (P:Int)->a'.eval (.tmp 10)=.bool ot->a'.eval (.tmp 11)=.int .i64 lw->a'.eval (.tmp 12)=.slice (some ⟨q,0,none⟩) N ec->a'.eval (.tmp 13)=.int .i64 (i:Int)->a'.eval (.tmp 14)=.int .i64 ((P:Int)+(i:Int))->GS w0 w' g v l b3 b4 b5 n xr k m ve (.slice (some ⟨q,0,none⟩) N ec) es->K a' w'):(Z1 0 (Zn (Z1 1 (Y6 (Zn (Z2 1 (Z1 29 (Z3 Tryz.f54)))))))).wp Tryz.prog (Exit.then K Q) a w:=by
 obtain ⟨t,rfl⟩:=hF.opened;clear hF;rw [Z3z]
 try dsimp only
 rw [show t 0=_ from h0,show t 3=_ from h3,show t 4=_ from h4,show t 5=_ from h5,show t 9=_ from h9,show t 10=_ from h10,show t 11=_ from h11,show t 12=_ from h12,show t 13=_ from h13];clear h0 h3 h4 h5 h9 h10 h11 h12 h13;have HS:Hid (GS w0 w g v l b3 b4 b5 n xr k m ve (.slice (some ⟨q,0,none⟩) N ec) es):=hS;clear hS;have hw1:IntKind.i64.wrap ((P:Int)+(i:Int))=(P:Int)+(i:Int):=by rw [IntKind.wrap_i64];omega
 conv=>arg 2;whnf
 go_wp2_with fail
 exact hP _ _ ⟨rfl,rfl⟩ rfl rfl rfl rfl rfl rfl rfl rfl rfl rfl HS.out
theorem df61 {w0:World}{g k b3 b4 b5:Nat}{v:Value}{l:List Int}{n:Nd}{xr:RV}{m:Mg}{ve:Value}{es:List Ent}{q N ec i P:Nat}{ot:Bool}{lw:Int}(hN:es.length=N)(hi:i<N)(hNb:N<=100)(hPb:P<=4096){Q:Exit->Act->World->Prop}{K:Act->World->Prop}{a:Act}{w:World}(hF:SzD a 343)(h0:a.eval (.tmp 0)=.pointer (some ⟨g,0,none⟩))(h3:a.eval (.tmp 3)=.pointer (some ⟨b3,0,none⟩))(h4:a.eval (.tmp 4)=.pointer (some ⟨b4,0,none⟩))(h5:a.eval (.tmp 5)=.pointer (some ⟨b5,0,none⟩))(h9:a.eval (.tmp 9)=.int .i64 (P:Int))(h10:a.eval (.tmp 10)=.bool ot)(h11:a.eval (.tmp 11)=.int .i64 lw)(h12:a.eval (.tmp 12)=.slice (some ⟨q,0,none⟩) N ec)(h13:a.eval (.tmp 13)=.int .i64 (i:Int))(h14:a.eval (.tmp 14)=.int .i64 ((P:Int)+(i:Int)))(hS:GS w0 w g v l b3 b4 b5 n xr k m ve (.slice (some ⟨q,0,none⟩) N ec) es)(hP:∀ a' w',SzD a' 343->a'.eval (.tmp 0)=.pointer (some ⟨g,0,none⟩)->a'.eval (.tmp 3)=.pointer (some ⟨b3,0,none⟩)->a'.eval (.tmp 4)=.pointer (some ⟨b4,0,none⟩)->a'.eval (.tmp 5)=.pointer (some ⟨b5,0,none⟩)->a'.eval (.tmp 9)=.int .i64 (P:Int)->a'.eval (.tmp 10)=.bool ot->a'.eval (.tmp 11)=.int .i64 lw->a'.eval (.tmp 12)=.slice (some ⟨q,0,none⟩) N ec->a'.eval (.tmp 13)=.int .i64 (i:Int)->a'.eval (.tmp 14)=.int .i64 ((P:Int)+(i:Int))->a'.eval (.tmp 284)=.bool ot->GS w0 w' g v l b3 b4 b5 n xr k m ve (.slice (some ⟨q,0,none⟩) N ec) es->K a' w'):(Z1 0 (Z1 1 (Zn (Z1 1 (Y6 (Zn (Z2 1 (Z1 29 (Z3 Tryz.f54))))))))).wp Tryz.prog (Exit.then K Q) a w:=by
 obtain ⟨t,rfl⟩:=hF.opened;clear hF;rw [Z3z]
 try dsimp only
 rw [show t 0=_ from h0,show t 3=_ from h3,show t 4=_ from h4,show t 5=_ from h5,show t 9=_ from h9,show t 10=_ from h10,show t 11=_ from h11,show t 12=_ from h12,show t 13=_ from h13,show t 14=_ from h14];clear h0 h3 h4 h5 h9 h10 h11 h12 h13 h14;have HS:Hid (GS w0 w g v l b3 b4 b5 n xr k m ve (.slice (some ⟨q,0,none⟩) N ec) es):=hS;clear hS
 conv=>arg 2;whnf
 go_wp2_with fail
 exact hP _ _ ⟨rfl,rfl⟩ rfl rfl rfl rfl rfl rfl rfl rfl rfl rfl rfl HS.out
theorem df62 {w0:World}{g k b3 b4 b5:Nat}{v:Value}{l:List Int}{n:Nd}{xr:RV}{m:Mg}{ve:Value}{es:List Ent}{q N ec i P:Nat}{ot:Bool}{lw:Int}(hN:es.length=N)(hi:i<N)(hNb:N<=100)(hPb:P<=4096){Q:Exit->Act->World->Prop}{K:Act->World->Prop}{a:Act}{w:World}(hF:SzD a 343)(h0:a.eval (.tmp 0)=.pointer (some ⟨g,0,none⟩))(h3:a.eval (.tmp 3)=.pointer (some ⟨b3,0,none⟩))(h4:a.eval (.tmp 4)=.pointer (some ⟨b4,0,none⟩))(h5:a.eval (.tmp 5)=.pointer (some ⟨b5,0,none⟩))(h9:a.eval (.tmp 9)=.int .i64 (P:Int))(h10:a.eval (.tmp 10)=.bool ot)(h11:a.eval (.tmp 11)=.int .i64 lw)(h12:a.eval (.tmp 12)=.slice (some ⟨q,0,none⟩) N ec)(h13:a.eval (.tmp 13)=.int .i64 (i:Int))(h14:a.eval (.tmp 14)=.int .i64 ((P:Int)+(i:Int)))(hS:GS w0 w g v l b3 b4 b5 n xr k m ve (.slice (some ⟨q,0,none⟩) N ec) es)(hP:∀ a' w',SzD a' 343->a'.eval (.tmp 0)=.pointer (some ⟨g,0,none⟩)->a'.eval (.tmp 3)=.pointer (some ⟨b3,0,none⟩)->a'.eval (.tmp 4)=.pointer (some ⟨b4,0,none⟩)->a'.eval (.tmp 5)=.pointer (some ⟨b5,0,none⟩)->a'.eval (.tmp 9)=.int .i64 (P:Int)->a'.eval (.tmp 10)=.bool ot->a'.eval (.tmp 11)=.int .i64 lw->a'.eval (.tmp 12)=.slice (some ⟨q,0,none⟩) N ec->a'.eval (.tmp 13)=.int .i64 (i:Int)->a'.eval (.tmp 14)=.int .i64 ((P:Int)+(i:Int))->GS w0 w' g v l b3 b4 b5 n xr k m ve (.slice (some ⟨q,0,none⟩) N ec) (es.set i (Xm m.tm (es[i]'(by omega))))->K a' w'):(Zj (Z2 1 (Z1 1 (Zn (Z1 1 (Y6 (Zn (Z2 1 (Z1 29 (Z3 Tryz.f54)))))))))).wp Tryz.prog (Exit.then K Q) a w:=by
 obtain ⟨t,rfl⟩:=hF.opened;clear hF;rw [Z3z]
 try dsimp only
 rw [show t 0=_ from h0,show t 3=_ from h3,show t 4=_ from h4,show t 5=_ from h5,show t 9=_ from h9,show t 10=_ from h10,show t 11=_ from h11,show t 12=_ from h12,show t 13=_ from h13,show t 14=_ from h14];clear h0 h3 h4 h5 h9 h10 h11 h12 h13 h14;obtain ⟨T,hT⟩:∃ T,T=m.tm:=⟨_,rfl⟩;have m3:w.cell? ⟨b5,3,none⟩=some (.int .i64 T):=by rw [hT];exact hS.mb.cell 3
 rw [<-hT] at hP;clear hT;have hil:i<es.length:=by omega
 obtain ⟨q9,hq9,hE,hfz⟩:=Z0u (k:=i) hS.es hN.symm hil (by unfold maxLen;omega);injection hq9 with hq9;injection hq9 with hq9;subst hq9;have e0:w.cell? ⟨q,i*7,none⟩=some (.int .i64 es[i].t):=hE.1;have f0:=hfz (i*7);have hiI:(i:Int)<(N:Int):=by omega
 have hwi:IntKind.i64.wrap (i:Int)=(i:Int):=by rw [IntKind.wrap_i64];omega
 have Hil:Hid (i<es.length):=hil;have HNl:Hid (es.length=N):=hN;clear hE hfz;have HS:Hid (GS w0 w g v l b3 b4 b5 n xr k m ve (.slice (some ⟨q,0,none⟩) N ec) es):=hS;clear hS;have HP:=hP
 conv=>arg 2;whnf
 go_wp2_with fail
 exact hP _ _ ⟨rfl,rfl⟩ rfl rfl rfl rfl rfl rfl rfl rfl rfl rfl (HS.out.setT' HNl.out i Hil.out T)
theorem df68 {w0:World}{g k b3 b4 b5:Nat}{v:Value}{l:List Int}{n:Nd}{xr:RV}{m:Mg}{ve:Value}{es:List Ent}{q N ec i P:Nat}{ot:Bool}{lw:Int}(hN:es.length=N)(hi:i<N)(hNb:N<=100)(hPb:P<=4096){Q:Exit->Act->World->Prop}{K:Act->World->Prop}{a:Act}{w:World}(hF:SzD a 343)(h0:a.eval (.tmp 0)=.pointer (some ⟨g,0,none⟩))(h3:a.eval (.tmp 3)=.pointer (some ⟨b3,0,none⟩))(h4:a.eval (.tmp 4)=.pointer (some ⟨b4,0,none⟩))(h5:a.eval (.tmp 5)=.pointer (some ⟨b5,0,none⟩))(h9:a.eval (.tmp 9)=.int .i64 (P:Int))(h10:a.eval (.tmp 10)=.bool ot)(h11:a.eval (.tmp 11)=.int .i64 lw)(h12:a.eval (.tmp 12)=.slice (some ⟨q,0,none⟩) N ec)(h13:a.eval (.tmp 13)=.int .i64 (i:Int))(h14:a.eval (.tmp 14)=.int .i64 ((P:Int)+(i:Int)))(hS:GS w0 w g v l b3 b4 b5 n xr k m ve (.slice (some ⟨q,0,none⟩) N ec) es)(hP:∀ a' w',SzD a' 343->a'.eval (.tmp 0)=.pointer (some ⟨g,0,none⟩)->a'.eval (.tmp 3)=.pointer (some ⟨b3,0,none⟩)->a'.eval (.tmp 4)=.pointer (some ⟨b4,0,none⟩)->a'.eval (.tmp 5)=.pointer (some ⟨b5,0,none⟩)->a'.eval (.tmp 9)=.int .i64 (P:Int)->a'.eval (.tmp 10)=.bool ot->a'.eval (.tmp 11)=.int .i64 lw->a'.eval (.tmp 12)=.slice (some ⟨q,0,none⟩) N ec->a'.eval (.tmp 13)=.int .i64 (i:Int)->a'.eval (.tmp 14)=.int .i64 ((P:Int)+(i:Int))->GS w0 w' g v l b3 b4 b5 n xr k m ve (.slice (some ⟨q,0,none⟩) N ec) (es.set i (Xm m.tm (es[i]'(by omega))))->K a' w'):(Zj (Z2 1 (Z1 3 (Zn (Z1 1 (Y6 (Zn (Z2 1 (Z1 29 (Z3 Tryz.f54)))))))))).wp Tryz.prog (Exit.then K Q) a w:=by
 obtain ⟨t,rfl⟩:=hF.opened;clear hF;rw [Z3z]
 try dsimp only
 rw [show t 0=_ from h0,show t 3=_ from h3,show t 4=_ from h4,show t 5=_ from h5,show t 9=_ from h9,show t 10=_ from h10,show t 11=_ from h11,show t 12=_ from h12,show t 13=_ from h13,show t 14=_ from h14];clear h0 h3 h4 h5 h9 h10 h11 h12 h13 h14;obtain ⟨T,hT⟩:∃ T,T=m.tm:=⟨_,rfl⟩;have m3:w.cell? ⟨b5,3,none⟩=some (.int .i64 T):=by rw [hT];exact hS.mb.cell 3
 rw [<-hT] at hP;clear hT;have hil:i<es.length:=by omega
 obtain ⟨q9,hq9,hE,hfz⟩:=Z0u (k:=i) hS.es hN.symm hil (by unfold maxLen;omega);injection hq9 with hq9;injection hq9 with hq9;subst hq9;have e0:w.cell? ⟨q,i*7,none⟩=some (.int .i64 es[i].t):=hE.1;have f0:=hfz (i*7);have hiI:(i:Int)<(N:Int):=by omega
 have hwi:IntKind.i64.wrap (i:Int)=(i:Int):=by rw [IntKind.wrap_i64];omega
 have Hil:Hid (i<es.length):=hil;have HNl:Hid (es.length=N):=hN;clear hE hfz;have HS:Hid (GS w0 w g v l b3 b4 b5 n xr k m ve (.slice (some ⟨q,0,none⟩) N ec) es):=hS;clear hS;have HP:=hP
 conv=>arg 2;whnf
 go_wp2_with fail
 exact hP _ _ ⟨rfl,rfl⟩ rfl rfl rfl rfl rfl rfl rfl rfl rfl rfl (HS.out.setT' HNl.out i Hil.out T)
theorem df66 {w0:World}{g k b3 b4 b5:Nat}{v:Value}{l:List Int}{n:Nd}{xr:RV}{m:Mg}{ve:Value}{es:List Ent}{q N ec i P:Nat}{ot:Bool}{lw:Int}(hN:es.length=N)(hi:i<N)(hNb:N<=100)(hPb:P<=4096){Q:Exit->Act->World->Prop}{K:Act->World->Prop}{a:Act}{w:World}(hF:SzD a 343)(h0:a.eval (.tmp 0)=.pointer (some ⟨g,0,none⟩))(h3:a.eval (.tmp 3)=.pointer (some ⟨b3,0,none⟩))(h4:a.eval (.tmp 4)=.pointer (some ⟨b4,0,none⟩))(h5:a.eval (.tmp 5)=.pointer (some ⟨b5,0,none⟩))(h9:a.eval (.tmp 9)=.int .i64 (P:Int))(h10:a.eval (.tmp 10)=.bool ot)(h11:a.eval (.tmp 11)=.int .i64 lw)(h12:a.eval (.tmp 12)=.slice (some ⟨q,0,none⟩) N ec)(h13:a.eval (.tmp 13)=.int .i64 (i:Int))(h14:a.eval (.tmp 14)=.int .i64 ((P:Int)+(i:Int)))(hS:GS w0 w g v l b3 b4 b5 n xr k m ve (.slice (some ⟨q,0,none⟩) N ec) es)(hP:∀ a' w',SzD a' 343->a'.eval (.tmp 0)=.pointer (some ⟨g,0,none⟩)->a'.eval (.tmp 3)=.pointer (some ⟨b3,0,none⟩)->a'.eval (.tmp 4)=.pointer (some ⟨b4,0,none⟩)->a'.eval (.tmp 5)=.pointer (some ⟨b5,0,none⟩)->a'.eval (.tmp 9)=.int .i64 (P:Int)->a'.eval (.tmp 10)=.bool ot->a'.eval (.tmp 11)=.int .i64 lw->a'.eval (.tmp 12)=.slice (some ⟨q,0,none⟩) N ec->a'.eval (.tmp 13)=.int .i64 (i:Int)->a'.eval (.tmp 14)=.int .i64 ((P:Int)+(i:Int))->GS w0 w' g v l b3 b4 b5 n xr k m ve (.slice (some ⟨q,0,none⟩) N ec) (es.set i (Xm lw (es[i]'(by omega))))->K a' w'):(Zj (Z2 1 (Z1 2 (Zn (Z1 1 (Y6 (Zn (Z2 1 (Z1 29 (Z3 Tryz.f54)))))))))).wp Tryz.prog (Exit.then K Q) a w:=by
 obtain ⟨t,rfl⟩:=hF.opened;clear hF;rw [Z3z]
 try dsimp only
 rw [show t 0=_ from h0,show t 3=_ from h3,show t 4=_ from h4,show t 5=_ from h5,show t 9=_ from h9,show t 10=_ from h10,show t 11=_ from h11,show t 12=_ from h12,show t 13=_ from h13,show t 14=_ from h14];clear h0 h3 h4 h5 h9 h10 h11 h12 h13 h14;have hil:i<es.length:=by omega
 obtain ⟨q9,hq9,hE,hfz⟩:=Z0u (k:=i) hS.es hN.symm hil (by unfold maxLen;omega);injection hq9 with hq9;injection hq9 with hq9;subst hq9;have e0:w.cell? ⟨q,i*7,none⟩=some (.int .i64 es[i].t):=hE.1;have f0:=hfz (i*7);have hiI:(i:Int)<(N:Int):=by omega
 have hwi:IntKind.i64.wrap (i:Int)=(i:Int):=by rw [IntKind.wrap_i64];omega
 have Hil:Hid (i<es.length):=hil;have HNl:Hid (es.length=N):=hN;clear hE hfz;have HS:Hid (GS w0 w g v l b3 b4 b5 n xr k m ve (.slice (some ⟨q,0,none⟩) N ec) es):=hS;clear hS
 conv=>arg 2;whnf
 go_wp2_with fail
 exact hP _ _ ⟨rfl,rfl⟩ rfl rfl rfl rfl rfl rfl rfl rfl rfl rfl (HS.out.setT' HNl.out i Hil.out lw)
theorem df63t {w0:World}{g k b3 b4 b5:Nat}{v:Value}{l:List Int}{n:Nd}{xr:RV}{m:Mg}{ve:Value}{es:List Ent}{q N ec i P:Nat}{ot:Bool}{lw:Int}(hN:es.length=N)(hi:i<N)(hNb:N<=100)(hPb:P<=4096)(hL:l.length<=1048576)(hk:k<=890000000)(hvl0:∃ a c,xr.vl=.slice a n.log.length c)(hlg:n.log.length<=4096)(hA:P+i<n.log.length){Q:Exit->Act->World->Prop}{K:Act->World->Prop}{a:Act}{w:World}(hF:SzD a 343)(h0:a.eval (.tmp 0)=.pointer (some ⟨g,0,none⟩))(h3:a.eval (.tmp 3)=.pointer (some ⟨b3,0,none⟩))(h4:a.eval (.tmp 4)=.pointer (some ⟨b4,0,none⟩))(h5:a.eval (.tmp 5)=.pointer (some ⟨b5,0,none⟩))(h9:a.eval (.tmp 9)=.int .i64 (P:Int))(h10:a.eval (.tmp 10)=.bool ot)(h11:a.eval (.tmp 11)=.int .i64 lw)(h12:a.eval (.tmp 12)=.slice (some ⟨q,0,none⟩) N ec)(h13:a.eval (.tmp 13)=.int .i64 (i:Int))(h14:a.eval (.tmp 14)=.int .i64 ((P:Int)+(i:Int)))(hS:GS w0 w g v l b3 b4 b5 n xr k m ve (.slice (some ⟨q,0,none⟩) N ec) es)(hP:∀ a' w',SzD a' 343->a'.eval (.tmp 0)=.pointer (some ⟨g,0,none⟩)->a'.eval (.tmp 3)=.pointer (some ⟨b3,0,none⟩)->a'.eval (.tmp 4)=.pointer (some ⟨b4,0,none⟩)->a'.eval (.tmp 5)=.pointer (some ⟨b5,0,none⟩)->a'.eval (.tmp 9)=.int .i64 (P:Int)->a'.eval (.tmp 10)=.bool ot->a'.eval (.tmp 11)=.int .i64 lw->a'.eval (.tmp 12)=.slice (some ⟨q,0,none⟩) N ec->a'.eval (.tmp 13)=.int .i64 (i:Int)->a'.eval (.tmp 14)=.int .i64 ((P:Int)+(i:Int))->a'.eval (.tmp 300)=.bool (decide (¬ Z5 l k 3=0))->GS w0 w' g v l b3 b4 b5 n xr (k+1) m ve (.slice (some ⟨q,0,none⟩) N ec) es->K a' w'):(Z1 0 (Xx (Z2 1 (Z1 1 (Zn (Z1 1 (Y6 (Zn (Z2 1 (Z1 29 (Z3 Tryz.f54))))))))))).wp Tryz.prog (Exit.then K Q) a w:=by
 obtain ⟨t,rfl⟩:=hF.opened;clear hF;rw [Z3z]
 try dsimp only
 rw [show t 0=_ from h0,show t 3=_ from h3,show t 4=_ from h4,show t 5=_ from h5,show t 9=_ from h9,show t 10=_ from h10,show t 11=_ from h11,show t 12=_ from h12,show t 13=_ from h13,show t 14=_ from h14];clear h0 h3 h4 h5 h9 h10 h11 h12 h13 h14;obtain ⟨ra,rc,hvl⟩:=hvl0;have n12:w.cell? ⟨b3,12,none⟩=some (.slice ra n.log.length rc):=by rw [<-hvl];exact hS.nb.cell 12
 clear hvl;obtain ⟨LN,hLN⟩:∃ LN,LN=n.log.length:=⟨_,rfl⟩;rw [<-hLN] at n12 hlg hA;clear hLN;have hb:decide ((P:Int)+(i:Int)<(LN:Int))=true:=by simp;omega
 have HS:Hid (GS w0 w g v l b3 b4 b5 n xr k m ve (.slice (some ⟨q,0,none⟩) N ec) es):=hS;clear hS;obtain ⟨p,hp⟩:∃ p,p=Z5 l k 3:=⟨_,rfl⟩;have Hp:Hid (p=Z5 l k 3):=hp;rw [<-hp] at hP;have bp:p<3:=by rw [hp];exact Zf _ _ _ (by omega)
 clear hp
 conv=>arg 2;whnf
 go_wp2_with (go_at_call 53;go_loud (refine (HS.out.pick1 3 hL (by omega) (by omega) (by omega)).mono ?_;rw [<-Hp.out];rintro r w9 ⟨rfl,hd⟩;have HS9:Hid (GS w0 w9 g v l b3 b4 b5 n xr (k+1) m ve (.slice (some ⟨q,0,none⟩) N ec) es):=hd;clear hd))
 exact hP _ _ ⟨rfl,rfl⟩ rfl rfl rfl rfl rfl rfl rfl rfl rfl rfl (by simp [Act.eval,bne,beq0]) HS9.out
theorem df63f {w0:World}{g k b3 b4 b5:Nat}{v:Value}{l:List Int}{n:Nd}{xr:RV}{m:Mg}{ve:Value}{es:List Ent}{q N ec i P:Nat}{ot:Bool}{lw:Int}(hN:es.length=N)(hi:i<N)(hNb:N<=100)(hPb:P<=4096)(hvl0:∃ a c,xr.vl=.slice a n.log.length c)(hlg:n.log.length<=4096)(hA:¬ P+i<n.log.length){Q:Exit->Act->World->Prop}{K:Act->World->Prop}{a:Act}{w:World}(hF:SzD a 343)(h0:a.eval (.tmp 0)=.pointer (some ⟨g,0,none⟩))(h3:a.eval (.tmp 3)=.pointer (some ⟨b3,0,none⟩))(h4:a.eval (.tmp 4)=.pointer (some ⟨b4,0,none⟩))(h5:a.eval (.tmp 5)=.pointer (some ⟨b5,0,none⟩))(h9:a.eval (.tmp 9)=.int .i64 (P:Int))(h10:a.eval (.tmp 10)=.bool ot)(h11:a.eval (.tmp 11)=.int .i64 lw)(h12:a.eval (.tmp 12)=.slice (some ⟨q,0,none⟩) N ec)(h13:a.eval (.tmp 13)=.int .i64 (i:Int))(h14:a.eval (.tmp 14)=.int .i64 ((P:Int)+(i:Int)))(hS:GS w0 w g v l b3 b4 b5 n xr k m ve (.slice (some ⟨q,0,none⟩) N ec) es)(hP:∀ a' w',SzD a' 343->a'.eval (.tmp 0)=.pointer (some ⟨g,0,none⟩)->a'.eval (.tmp 3)=.pointer (some ⟨b3,0,none⟩)->a'.eval (.tmp 4)=.pointer (some ⟨b4,0,none⟩)->a'.eval (.tmp 5)=.pointer (some ⟨b5,0,none⟩)->a'.eval (.tmp 9)=.int .i64 (P:Int)->a'.eval (.tmp 10)=.bool ot->a'.eval (.tmp 11)=.int .i64 lw->a'.eval (.tmp 12)=.slice (some ⟨q,0,none⟩) N ec->a'.eval (.tmp 13)=.int .i64 (i:Int)->a'.eval (.tmp 14)=.int .i64 ((P:Int)+(i:Int))->a'.eval (.tmp 300)=.bool false->GS w0 w' g v l b3 b4 b5 n xr k m ve (.slice (some ⟨q,0,none⟩) N ec) es->K a' w'):(Z1 0 (Xx (Z2 1 (Z1 1 (Zn (Z1 1 (Y6 (Zn (Z2 1 (Z1 29 (Z3 Tryz.f54))))))))))).wp Tryz.prog (Exit.then K Q) a w:=by
 obtain ⟨t,rfl⟩:=hF.opened;clear hF;rw [Z3z]
 try dsimp only
 rw [show t 0=_ from h0,show t 3=_ from h3,show t 4=_ from h4,show t 5=_ from h5,show t 9=_ from h9,show t 10=_ from h10,show t 11=_ from h11,show t 12=_ from h12,show t 13=_ from h13,show t 14=_ from h14];clear h0 h3 h4 h5 h9 h10 h11 h12 h13 h14;obtain ⟨ra,rc,hvl⟩:=hvl0;have n12:w.cell? ⟨b3,12,none⟩=some (.slice ra n.log.length rc):=by rw [<-hvl];exact hS.nb.cell 12
 clear hvl;obtain ⟨LN,hLN⟩:∃ LN,LN=n.log.length:=⟨_,rfl⟩;rw [<-hLN] at n12 hlg hA;clear hLN;have hb:decide ((P:Int)+(i:Int)<(LN:Int))=false:=by simp;omega
 have HS:Hid (GS w0 w g v l b3 b4 b5 n xr k m ve (.slice (some ⟨q,0,none⟩) N ec) es):=hS;clear hS
 conv=>arg 2;whnf
 go_wp2_with fail
 exact hP _ _ ⟨rfl,rfl⟩ rfl rfl rfl rfl rfl rfl rfl rfl rfl rfl rfl HS.out
theorem df64 {w0:World}{g k b3 b4 b5:Nat}{v:Value}{l:List Int}{n:Nd}{xr:RV}{m:Mg}{ve:Value}{es:List Ent}{q N ec i P:Nat}{ot:Bool}{lw:Int}(hN:es.length=N)(hi:i<N)(hNb:N<=100)(hPb:P<=4096){q2 c2:Nat}(hQ:LgQ w0 g xr n q2 c2)(hlg:n.log.length<=4096)(hA:P+i<n.log.length){Q:Exit->Act->World->Prop}{K:Act->World->Prop}{a:Act}{w:World}(hF:SzD a 343)(h0:a.eval (.tmp 0)=.pointer (some ⟨g,0,none⟩))(h3:a.eval (.tmp 3)=.pointer (some ⟨b3,0,none⟩))(h4:a.eval (.tmp 4)=.pointer (some ⟨b4,0,none⟩))(h5:a.eval (.tmp 5)=.pointer (some ⟨b5,0,none⟩))(h9:a.eval (.tmp 9)=.int .i64 (P:Int))(h10:a.eval (.tmp 10)=.bool ot)(h11:a.eval (.tmp 11)=.int .i64 lw)(h12:a.eval (.tmp 12)=.slice (some ⟨q,0,none⟩) N ec)(h13:a.eval (.tmp 13)=.int .i64 (i:Int))(h14:a.eval (.tmp 14)=.int .i64 ((P:Int)+(i:Int)))(hS:GS w0 w g v l b3 b4 b5 n xr k m ve (.slice (some ⟨q,0,none⟩) N ec) es)(hP:∀ a' w',SzD a' 343->a'.eval (.tmp 0)=.pointer (some ⟨g,0,none⟩)->a'.eval (.tmp 3)=.pointer (some ⟨b3,0,none⟩)->a'.eval (.tmp 4)=.pointer (some ⟨b4,0,none⟩)->a'.eval (.tmp 5)=.pointer (some ⟨b5,0,none⟩)->a'.eval (.tmp 9)=.int .i64 (P:Int)->a'.eval (.tmp 10)=.bool ot->a'.eval (.tmp 11)=.int .i64 lw->a'.eval (.tmp 12)=.slice (some ⟨q,0,none⟩) N ec->a'.eval (.tmp 13)=.int .i64 (i:Int)->a'.eval (.tmp 14)=.int .i64 ((P:Int)+(i:Int))->GS w0 w' g v l b3 b4 b5 n xr k m ve (.slice (some ⟨q,0,none⟩) N ec) (es.set i (n.log[P+i]'hA))->K a' w'):(Zj (Z2 1 (Xx (Z2 1 (Z1 1 (Zn (Z1 1 (Y6 (Zn (Z2 1 (Z1 29 (Z3 Tryz.f54)))))))))))).wp Tryz.prog (Exit.then K Q) a w:=by
 obtain ⟨t,rfl⟩:=hF.opened;clear hF;rw [Z3z]
 try dsimp only
 rw [show t 0=_ from h0,show t 3=_ from h3,show t 4=_ from h4,show t 5=_ from h5,show t 9=_ from h9,show t 10=_ from h10,show t 11=_ from h11,show t 12=_ from h12,show t 13=_ from h13,show t 14=_ from h14];clear h0 h3 h4 h5 h9 h10 h11 h12 h13 h14;have hv0:=hQ.vl;have hfit:(n.log[P+i]'hA).fits:=hQ.fit _ (List.getElem_mem _);have hE0:=(hQ.ent (P+i) hA).keep (hS.old hQ.lt hQ.ne);obtain ⟨e,he⟩:∃ e,e=n.log[P+i]'hA:=⟨_,rfl⟩;rw [<-he] at hE0 hfit hP;have n12:w.cell? ⟨b3,12,none⟩=some (.slice (some ⟨q2,0,none⟩) n.log.length c2):=by rw [<-hv0];exact hS.nb.cell 12
 obtain ⟨LN,hLN⟩:∃ LN,LN=n.log.length:=⟨_,rfl⟩;have hPi:((P:Int)+(i:Int))<(LN:Int):=by omega
 have hPn:P+i<LN:=by omega
 have hLN9:LN<=4096:=by omega
 rw [<-hLN] at n12;clear hLN hv0 he hA hlg;have hil:i<es.length:=by omega
 obtain ⟨q9,hq9,hE,hfz⟩:=Z0u (k:=i) hS.es hN.symm hil (by unfold maxLen;omega);injection hq9 with hq9;injection hq9 with hq9;subst hq9;have hth:=hE.thereE hfz;have hra:=hE0.range;have hiI:(i:Int)<(N:Int):=by omega
 have hwi:IntKind.i64.wrap (i:Int)=(i:Int):=by rw [IntKind.wrap_i64];omega
 obtain ⟨A,hAe⟩:∃ A,A=P+i:=⟨_,rfl⟩;have hcA:(P:Int)+(i:Int)=(A:Int):=by omega
 rw [hcA] at hP hPi ⊢;rw [<-hAe] at hra hPn;have hwA:IntKind.i64.wrap (A:Int)=(A:Int):=by rw [IntKind.wrap_i64];omega
 have Hil:Hid (i<es.length):=hil;have HNl:Hid (es.length=N):=hN;have Hfit:Hid e.fits:=hfit;clear hE hfz hE0 hfit hAe hcA hQ;have G1:True:=trivial;have G2:True:=trivial;have HS:Hid (GS w0 w g v l b3 b4 b5 n xr k m ve (.slice (some ⟨q,0,none⟩) N ec) es):=hS;clear hS
 conv=>arg 2;whnf
 go_wp2_with (first
  |(refine Zw 118 (.tmp 306) rfl ?_;clear G1;refine wpList_load_mid rfl 118 (.tmp 306) rfl q2 (A*7) rfl e.cells _ hra Tryz.underlying118 rfl sizeEnF ?_)
  |(refine Y2 118 (.tmp 308) (.tmp 307) rfl ?_;clear G2;refine wpList_store_mid rfl 118 (.tmp 308) (.tmp 307) rfl q (i*7) e.cells.toArray rfl rfl hth sizeEnF (by simp [Ent.cells,Value.oneCell']) ?_))
 exact hP _ _ ⟨rfl,rfl⟩ rfl rfl rfl rfl rfl rfl rfl rfl rfl rfl (HS.out.setE' HNl.out i Hil.out e Hfit.out)
theorem df65 {w0:World}{g k b3 b4 b5:Nat}{v:Value}{l:List Int}{n:Nd}{xr:RV}{m:Mg}{ve:Value}{es:List Ent}{q N ec i P:Nat}{ot:Bool}{lw:Int}(hN:es.length=N)(hi:i<N)(hNb:N<=100)(hPb:P<=4096){Q:Exit->Act->World->Prop}{K:Act->World->Prop}{a:Act}{w:World}(hF:SzD a 343)(h0:a.eval (.tmp 0)=.pointer (some ⟨g,0,none⟩))(h3:a.eval (.tmp 3)=.pointer (some ⟨b3,0,none⟩))(h4:a.eval (.tmp 4)=.pointer (some ⟨b4,0,none⟩))(h5:a.eval (.tmp 5)=.pointer (some ⟨b5,0,none⟩))(h9:a.eval (.tmp 9)=.int .i64 (P:Int))(h10:a.eval (.tmp 10)=.bool ot)(h11:a.eval (.tmp 11)=.int .i64 lw)(h12:a.eval (.tmp 12)=.slice (some ⟨q,0,none⟩) N ec)(h13:a.eval (.tmp 13)=.int .i64 (i:Int))(h14:a.eval (.tmp 14)=.int .i64 ((P:Int)+(i:Int)))(hS:GS w0 w g v l b3 b4 b5 n xr k m ve (.slice (some ⟨q,0,none⟩) N ec) es)(hP:∀ a' w',SzD a' 343->a'.eval (.tmp 0)=.pointer (some ⟨g,0,none⟩)->a'.eval (.tmp 3)=.pointer (some ⟨b3,0,none⟩)->a'.eval (.tmp 4)=.pointer (some ⟨b4,0,none⟩)->a'.eval (.tmp 5)=.pointer (some ⟨b5,0,none⟩)->a'.eval (.tmp 9)=.int .i64 (P:Int)->a'.eval (.tmp 10)=.bool ot->a'.eval (.tmp 11)=.int .i64 lw->a'.eval (.tmp 12)=.slice (some ⟨q,0,none⟩) N ec->a'.eval (.tmp 13)=.int .i64 (i:Int)->a'.eval (.tmp 14)=.int .i64 ((P:Int)+(i:Int))->a'.eval (.tmp 315)=.bool (decide ((es[i]'(by omega)).t<lw))->GS w0 w' g v l b3 b4 b5 n xr k m ve (.slice (some ⟨q,0,none⟩) N ec) es->K a' w'):(Z1 0 (Z1 2 (Zn (Z1 1 (Y6 (Zn (Z2 1 (Z1 29 (Z3 Tryz.f54))))))))).wp Tryz.prog (Exit.then K Q) a w:=by
 obtain ⟨t,rfl⟩:=hF.opened;clear hF;rw [Z3z]
 try dsimp only
 rw [show t 0=_ from h0,show t 3=_ from h3,show t 4=_ from h4,show t 5=_ from h5,show t 9=_ from h9,show t 10=_ from h10,show t 11=_ from h11,show t 12=_ from h12,show t 13=_ from h13,show t 14=_ from h14];clear h0 h3 h4 h5 h9 h10 h11 h12 h13 h14;obtain ⟨TT,hTT⟩:∃ t,t=(es[i]'(by omega)).t:=⟨_,rfl⟩;rw [<-hTT] at hP;have hil:i<es.length:=by omega
 obtain ⟨q9,hq9,hE,hfz⟩:=Z0u (k:=i) hS.es hN.symm hil (by unfold maxLen;omega);injection hq9 with hq9;injection hq9 with hq9;subst hq9;have e0:w.cell? ⟨q,i*7,none⟩=some (.int .i64 es[i].t):=hE.1;have f0:=hfz (i*7);have hiI:(i:Int)<(N:Int):=by omega
 have hwi:IntKind.i64.wrap (i:Int)=(i:Int):=by rw [IntKind.wrap_i64];omega
 have Hil:Hid (i<es.length):=hil;have HNl:Hid (es.length=N):=hN;clear hE hfz;rw [<-hTT] at e0;clear hTT;have HS:Hid (GS w0 w g v l b3 b4 b5 n xr k m ve (.slice (some ⟨q,0,none⟩) N ec) es):=hS;clear hS
 conv=>arg 2;whnf
 go_wp2_with fail
 exact hP _ _ ⟨rfl,rfl⟩ rfl rfl rfl rfl rfl rfl rfl rfl rfl rfl rfl HS.out
theorem df67 {w0:World}{g k b3 b4 b5:Nat}{v:Value}{l:List Int}{n:Nd}{xr:RV}{m:Mg}{ve:Value}{es:List Ent}{q N ec i P:Nat}{ot:Bool}{lw:Int}(hN:es.length=N)(hi:i<N)(hNb:N<=100)(hPb:P<=4096){Q:Exit->Act->World->Prop}{K:Act->World->Prop}{a:Act}{w:World}(hF:SzD a 343)(h0:a.eval (.tmp 0)=.pointer (some ⟨g,0,none⟩))(h3:a.eval (.tmp 3)=.pointer (some ⟨b3,0,none⟩))(h4:a.eval (.tmp 4)=.pointer (some ⟨b4,0,none⟩))(h5:a.eval (.tmp 5)=.pointer (some ⟨b5,0,none⟩))(h9:a.eval (.tmp 9)=.int .i64 (P:Int))(h10:a.eval (.tmp 10)=.bool ot)(h11:a.eval (.tmp 11)=.int .i64 lw)(h12:a.eval (.tmp 12)=.slice (some ⟨q,0,none⟩) N ec)(h13:a.eval (.tmp 13)=.int .i64 (i:Int))(h14:a.eval (.tmp 14)=.int .i64 ((P:Int)+(i:Int)))(hS:GS w0 w g v l b3 b4 b5 n xr k m ve (.slice (some ⟨q,0,none⟩) N ec) es)(hP:∀ a' w',SzD a' 343->a'.eval (.tmp 0)=.pointer (some ⟨g,0,none⟩)->a'.eval (.tmp 3)=.pointer (some ⟨b3,0,none⟩)->a'.eval (.tmp 4)=.pointer (some ⟨b4,0,none⟩)->a'.eval (.tmp 5)=.pointer (some ⟨b5,0,none⟩)->a'.eval (.tmp 9)=.int .i64 (P:Int)->a'.eval (.tmp 10)=.bool ot->a'.eval (.tmp 11)=.int .i64 lw->a'.eval (.tmp 12)=.slice (some ⟨q,0,none⟩) N ec->a'.eval (.tmp 13)=.int .i64 (i:Int)->a'.eval (.tmp 14)=.int .i64 ((P:Int)+(i:Int))->a'.eval (.tmp 328)=.bool (decide (m.tm<(es[i]'(by omega)).t))->GS w0 w' g v l b3 b4 b5 n xr k m ve (.slice (some ⟨q,0,none⟩) N ec) es->K a' w'):(Z1 0 (Z1 3 (Zn (Z1 1 (Y6 (Zn (Z2 1 (Z1 29 (Z3 Tryz.f54))))))))).wp Tryz.prog (Exit.then K Q) a w:=by
 obtain ⟨t,rfl⟩:=hF.opened;clear hF;rw [Z3z]
 try dsimp only
 rw [show t 0=_ from h0,show t 3=_ from h3,show t 4=_ from h4,show t 5=_ from h5,show t 9=_ from h9,show t 10=_ from h10,show t 11=_ from h11,show t 12=_ from h12,show t 13=_ from h13,show t 14=_ from h14];clear h0 h3 h4 h5 h9 h10 h11 h12 h13 h14;obtain ⟨TT,hTT⟩:∃ t,t=(es[i]'(by omega)).t:=⟨_,rfl⟩;rw [<-hTT] at hP;have hil:i<es.length:=by omega
 obtain ⟨q9,hq9,hE,hfz⟩:=Z0u (k:=i) hS.es hN.symm hil (by unfold maxLen;omega);injection hq9 with hq9;injection hq9 with hq9;subst hq9;have e0:w.cell? ⟨q,i*7,none⟩=some (.int .i64 es[i].t):=hE.1;have f0:=hfz (i*7);have hiI:(i:Int)<(N:Int):=by omega
 have hwi:IntKind.i64.wrap (i:Int)=(i:Int):=by rw [IntKind.wrap_i64];omega
 have Hil:Hid (i<es.length):=hil;have HNl:Hid (es.length=N):=hN;clear hE hfz;rw [<-hTT] at e0;clear hTT;obtain ⟨T,hT⟩:∃ T,T=m.tm:=⟨_,rfl⟩;have m3:w.cell? ⟨b5,3,none⟩=some (.int .i64 T):=by rw [hT];exact hS.mb.cell 3
 rw [<-hT] at hP;clear hT;have HS:Hid (GS w0 w g v l b3 b4 b5 n xr k m ve (.slice (some ⟨q,0,none⟩) N ec) es):=hS;clear hS
 conv=>arg 2;whnf
 go_quiet (fail)
 exact hP _ _ ⟨rfl,rfl⟩ rfl rfl rfl rfl rfl rfl rfl rfl rfl rfl (by simp [Act.eval]) (HS.out.below ⟨rfl,rfl,rfl,Nat.le_refl _,fun _ _=>rfl⟩)
theorem df69 {w0:World}{g k b3 b4 b5:Nat}{v:Value}{l:List Int}{n:Nd}{xr:RV}{m:Mg}{ve:Value}{es:List Ent}{q N ec i P:Nat}{ot:Bool}{lw:Int}(hN:es.length=N)(hi:i<N)(hNb:N<=100)(hPb:P<=4096){Q:Exit->Act->World->Prop}{K:Act->World->Prop}{a:Act}{w:World}(hF:SzD a 343)(h0:a.eval (.tmp 0)=.pointer (some ⟨g,0,none⟩))(h3:a.eval (.tmp 3)=.pointer (some ⟨b3,0,none⟩))(h4:a.eval (.tmp 4)=.pointer (some ⟨b4,0,none⟩))(h5:a.eval (.tmp 5)=.pointer (some ⟨b5,0,none⟩))(h9:a.eval (.tmp 9)=.int .i64 (P:Int))(h10:a.eval (.tmp 10)=.bool ot)(h11:a.eval (.tmp 11)=.int .i64 lw)(h12:a.eval (.tmp 12)=.slice (some ⟨q,0,none⟩) N ec)(h13:a.eval (.tmp 13)=.int .i64 (i:Int))(h14:a.eval (.tmp 14)=.int .i64 ((P:Int)+(i:Int)))(hS:GS w0 w g v l b3 b4 b5 n xr k m ve (.slice (some ⟨q,0,none⟩) N ec) es)(hP:∀ a' w',SzD a' 343->a'.eval (.tmp 0)=.pointer (some ⟨g,0,none⟩)->a'.eval (.tmp 3)=.pointer (some ⟨b3,0,none⟩)->a'.eval (.tmp 4)=.pointer (some ⟨b4,0,none⟩)->a'.eval (.tmp 5)=.pointer (some ⟨b5,0,none⟩)->a'.eval (.tmp 9)=.int .i64 (P:Int)->a'.eval (.tmp 10)=.bool ot->a'.eval (.tmp 11)=.int .i64 (es[i]'(by omega)).t->a'.eval (.tmp 12)=.slice (some ⟨q,0,none⟩) N ec->a'.eval (.tmp 13)=.int .i64 (i:Int)->GS w0 w' g v l b3 b4 b5 n xr k m ve (.slice (some ⟨q,0,none⟩) N ec) es->K a' w'):(Z2 4 (Zn (Z1 1 (Y6 (Zn (Z2 1 (Z1 29 (Z3 Tryz.f54)))))))).wp Tryz.prog (Exit.then K Q) a w:=by
 obtain ⟨t,rfl⟩:=hF.opened;clear hF;rw [Z3z]
 try dsimp only
 rw [show t 0=_ from h0,show t 3=_ from h3,show t 4=_ from h4,show t 5=_ from h5,show t 9=_ from h9,show t 10=_ from h10,show t 11=_ from h11,show t 12=_ from h12,show t 13=_ from h13,show t 14=_ from h14];clear h0 h3 h4 h5 h9 h10 h11 h12 h13 h14;obtain ⟨TT,hTT⟩:∃ t,t=(es[i]'(by omega)).t:=⟨_,rfl⟩;rw [<-hTT] at hP;have hil:i<es.length:=by omega
 obtain ⟨q9,hq9,hE,hfz⟩:=Z0u (k:=i) hS.es hN.symm hil (by unfold maxLen;omega);injection hq9 with hq9;injection hq9 with hq9;subst hq9;have e0:w.cell? ⟨q,i*7,none⟩=some (.int .i64 es[i].t):=hE.1;have f0:=hfz (i*7);have hiI:(i:Int)<(N:Int):=by omega
 have hwi:IntKind.i64.wrap (i:Int)=(i:Int):=by rw [IntKind.wrap_i64];omega
 have Hil:Hid (i<es.length):=hil;have HNl:Hid (es.length=N):=hN;clear hE hfz;rw [<-hTT] at e0;clear hTT;have HS:Hid (GS w0 w g v l b3 b4 b5 n xr k m ve (.slice (some ⟨q,0,none⟩) N ec) es):=hS;clear hS
 conv=>arg 2;whnf
 go_wp2_with fail
 exact hP _ _ ⟨rfl,rfl⟩ rfl rfl rfl rfl rfl rfl rfl rfl rfl HS.out
theorem df59 {w0:World}{g k b3 b4 b5:Nat}{v:Value}{l:List Int}{n:Nd}{xr:RV}{m:Mg}{ve:Value}{es:List Ent}{q N ec i P:Nat}{ot:Bool}{lw:Int}(hN:es.length=N)(hi:i<N)(hNb:N<=100)(hPb:P<=4096){Q:Exit->Act->World->Prop}{K:Act->World->Prop}{a:Act}{w:World}(hF:SzD a 343)(h0:a.eval (.tmp 0)=.pointer (some ⟨g,0,none⟩))(h3:a.eval (.tmp 3)=.pointer (some ⟨b3,0,none⟩))(h4:a.eval (.tmp 4)=.pointer (some ⟨b4,0,none⟩))(h5:a.eval (.tmp 5)=.pointer (some ⟨b5,0,none⟩))(h9:a.eval (.tmp 9)=.int .i64 (P:Int))(h10:a.eval (.tmp 10)=.bool ot)(h11:a.eval (.tmp 11)=.int .i64 lw)(h12:a.eval (.tmp 12)=.slice (some ⟨q,0,none⟩) N ec)(h13:a.eval (.tmp 13)=.int .i64 (i:Int))(hS:GS w0 w g v l b3 b4 b5 n xr k m ve (.slice (some ⟨q,0,none⟩) N ec) es)(hP:∀ a' w',SzD a' 343->a'.eval (.tmp 0)=.pointer (some ⟨g,0,none⟩)->a'.eval (.tmp 3)=.pointer (some ⟨b3,0,none⟩)->a'.eval (.tmp 4)=.pointer (some ⟨b4,0,none⟩)->a'.eval (.tmp 5)=.pointer (some ⟨b5,0,none⟩)->a'.eval (.tmp 9)=.int .i64 (P:Int)->a'.eval (.tmp 10)=.bool ot->a'.eval (.tmp 11)=.int .i64 lw->a'.eval (.tmp 12)=.slice (some ⟨q,0,none⟩) N ec->a'.eval (.tmp 13)=.int .i64 ((i:Int)+1)->GS w0 w' g v l b3 b4 b5 n xr k m ve (.slice (some ⟨q,0,none⟩) N ec) es->K a' w'):(Z2 2 (Y6 (Zn (Z2 1 (Z1 29 (Z3 Tryz.f54)))))).wp Tryz.prog (Exit.then K Q) a w:=by
 obtain ⟨t,rfl⟩:=hF.opened;clear hF;rw [Z3z]
 try dsimp only
 rw [show t 0=_ from h0,show t 3=_ from h3,show t 4=_ from h4,show t 5=_ from h5,show t 9=_ from h9,show t 10=_ from h10,show t 11=_ from h11,show t 12=_ from h12,show t 13=_ from h13];clear h0 h3 h4 h5 h9 h10 h11 h12 h13;have HS:Hid (GS w0 w g v l b3 b4 b5 n xr k m ve (.slice (some ⟨q,0,none⟩) N ec) es):=hS;clear hS;have hw1:IntKind.i64.wrap ((i:Int)+1)=(i:Int)+1:=by rw [IntKind.wrap_i64];omega
 conv=>arg 2;whnf
 go_wp2_with fail
 exact hP _ _ ⟨rfl,rfl⟩ rfl rfl rfl rfl rfl rfl rfl rfl rfl HS.out
theorem df70 {w0:World}{g k b3 b4 b5:Nat}{v:Value}{l:List Int}{n:Nd}{xr:RV}{m:Mg}{ve ev:Value}{es:List Ent}{Q:Exit->Act->World->Prop}{K:Act->World->Prop}{a:Act}{w:World}(hF:SzD a 343)(h0:a.eval (.tmp 0)=.pointer (some ⟨g,0,none⟩))(h3:a.eval (.tmp 3)=.pointer (some ⟨b3,0,none⟩))(h4:a.eval (.tmp 4)=.pointer (some ⟨b4,0,none⟩))(h5:a.eval (.tmp 5)=.pointer (some ⟨b5,0,none⟩))(h12:a.eval (.tmp 12)=ev)(hS:GS w0 w g v l b3 b4 b5 n xr k m ve ev es)(hP:∀ a' w',SzD a' 343->a'.eval (.tmp 0)=.pointer (some ⟨g,0,none⟩)->a'.eval (.tmp 3)=.pointer (some ⟨b3,0,none⟩)->a'.eval (.tmp 4)=.pointer (some ⟨b4,0,none⟩)->a'.eval (.tmp 5)=.pointer (some ⟨b5,0,none⟩)->FS w0 w' g v l b3 b4 b5 n xr k { m with es:=es } ev->K a' w'):(Z1 30 (Z3 Tryz.f54)).wp Tryz.prog (Exit.then K Q) a w:=by
 obtain ⟨t,rfl⟩:=hF.opened;clear hF;rw [Z3z]
 try dsimp only
 rw [show t 0=_ from h0,show t 3=_ from h3,show t 4=_ from h4,show t 5=_ from h5,show t 12=_ from h12];clear h0 h3 h4 h5 h12;have hsh:=hS.es.shape;obtain ⟨ea,ec,hv⟩:=hsh;have Hm9:Hid (w.cell? ⟨b5,9,none⟩=some ve):=hS.mb.cell 9;have m9:=Hm9.out;have f9:w.frozen? ⟨b5,9,none⟩=false:=hS.mb.free 9;have HD:Hid (FS w0 (w.setCell ⟨b5,9,none⟩ ev) g v l b3 b4 b5 n xr k { m with es:=es } ev):=hS.done;obtain ⟨EN,hEN⟩:∃ EN,EN=es.length:=⟨_,rfl⟩;rw [<-hEN] at hv;clear hEN hS Hm9;subst hv
 conv=>arg 2;whnf
 go_wp2_with fail
 exact hP _ _ ⟨rfl,rfl⟩ rfl rfl rfl rfl HD.out
end Go.Proofs.YtmmpoppgabadmaaGreat
