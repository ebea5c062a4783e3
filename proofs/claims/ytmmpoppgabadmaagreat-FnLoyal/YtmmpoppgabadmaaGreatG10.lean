import Derived.Test.YtmmpoppgabadmaaGreatG09
import Derived.Deep.DeepCutAuto
set_option linter.unusedVariables false
set_option linter.unusedSimpArgs false
set_option maxRecDepth 100000
set_option maxHeartbeats 16000000
namespace Go.Proofs.YtmmpoppgabadmaaGreat
open Go.RowKit
section
variable {Q:Exit->Act->World->Prop} {K:Act->World->Prop} {c:DC} {d:DnS} {X:RV} {a:Act} {w:World}
theorem neJ (j i:Nat):(((j:Int)+1) != (i:Int))=decide (j+1≠i):=by
 by_cases h:j+1=i
 ·have h2:(j:Int)+1=i:=by omega
  simp [h,h2]
 ·have h2:¬(j:Int)+1=i:=by omega
  simp [h,h2]
theorem dnL53 (hc:c.Ok){m:Nat}(hm0:m<=899000000)(hb:DB d m){j:Nat}(hj:j<c.SZ)(h15:a.eval (.tmp 15)=.int .i64 ((j:Int)+1))(hF:c.Fr a)(hS:c.N w d X)(hP:∀ a' w',c.Fr a'->a'.eval (.tmp 15)=.int .i64 ((j:Int)+1)->c.N w' d X->K a' w'):(Z1 0 (Y6 (Zn (Z2 4 (Zj (Z2 1 (Z1 18 (Z3 Tryz.f51)))))))).wp Tryz.prog (Exit.then K Q) a w:=by
 obtain ⟨t,rfl⟩:=hF.opened;have hsz:=hc.sz;have hel:=hc.el;have hid:=hc.id;have hnw:=hb.nw;have hkb:=hb.k;have hlg:=hb.lg;clear hF;have HS:Hid (c.N w d X):=hS;clear hS;rw [show t 15=.int .i64 ((j:Int)+1) from h15];clear h15
 conv=>arg 2;whnf
 go_wp2_with fail
 exact hP _ _ ⟨rfl,rfl,rfl,rfl,rfl,rfl,rfl,rfl,rfl⟩ rfl HS.out
theorem dnL0 {R:Exit->Act->World->Prop}(hc:c.Ok){m:Nat}(hm0:m<=899000000)(hb:DB d m)(hF:c.Fr a)(h15:a.eval (.tmp 15)=.int .i64 ((c.SZ:Int)+1))(hP:∀ a',c.Fr a'->R (.exit 4) a' w):(Y6 (Zn (Z2 4 (Zj (Z2 1 (Z1 18 (Z3 Tryz.f51))))))).wp Tryz.prog (Exit.then K R) a w:=by
 obtain ⟨t,rfl⟩:=hF.opened;have hsz:=hc.sz;have hel:=hc.el;have hid:=hc.id;have hnw:=hb.nw;have hkb:=hb.k;have hlg:=hb.lg;clear hF;rw [show t 15=.int .i64 ((c.SZ:Int)+1) from h15];clear h15;have HP:Hid (∀ a',c.Fr a'->R (.exit 4) a' w):=hP;clear hP
 conv=>arg 2;whnf
 go_wp2_with fail
 exact HP.out _ ⟨rfl,rfl,rfl,rfl,rfl,rfl,rfl,rfl,rfl⟩
theorem dnL55 (hc:c.Ok){m:Nat}(hm0:m<=899000000)(hb:DB d m){e15:Value}(h15:a.eval (.tmp 15)=e15)(hF:c.Fr a)(hS:c.N w d X)(hP:∀ a' w',c.Fr a'->a'.eval (.tmp 15)=e15->a'.eval (.tmp 16)=.int .i64 0->a'.eval (.tmp 17)=.int .i64 0->a'.eval (.tmp 18)=.int .i64 0->a'.eval (.tmp 19)=.int .i64 0->c.N w' d X->K a' w'):(Z1 0 (Zn (Z1 1 (Y6 (Zn (Z2 4 (Zj (Z2 1 (Z1 18 (Z3 Tryz.f51)))))))))).wp Tryz.prog (Exit.then K Q) a w:=by
 obtain ⟨t,rfl⟩:=hF.opened;have hsz:=hc.sz;have hel:=hc.el;have hid:=hc.id;have hnw:=hb.nw;have hkb:=hb.k;have hlg:=hb.lg;clear hF;have HS:Hid (c.N w d X):=hS;clear hS;rw [show t 15=e15 from h15];clear h15
 conv=>arg 2;whnf
 go_wp2_with fail
 exact hP _ _ ⟨rfl,rfl,rfl,rfl,rfl,rfl,rfl,rfl,rfl⟩ rfl rfl rfl rfl rfl HS.out
theorem dnL56 (hc:c.Ok){m:Nat}(hm0:m<=899000000)(hb:DB d m){j:Nat}{e16:Value}(h16:a.eval (.tmp 16)=e16){e17:Value}(h17:a.eval (.tmp 17)=e17){e18:Value}(h18:a.eval (.tmp 18)=e18){e19:Value}(h19:a.eval (.tmp 19)=e19)(h15:a.eval (.tmp 15)=.int .i64 ((j:Int)+1))(hF:c.Fr a)(hS:c.N w d X)(hP:∀ a' w',c.Fr a'->a'.eval (.tmp 16)=e16->a'.eval (.tmp 17)=e17->a'.eval (.tmp 18)=e18->a'.eval (.tmp 19)=e19->a'.eval (.tmp 15)=.int .i64 ((j:Int)+1)->a'.eval (.tmp 232)=.bool (decide (j+1≠c.ID))->c.N w' d X->K a' w'):(Z1 0 (Z1 1 (Zn (Z1 1 (Y6 (Zn (Z2 4 (Zj (Z2 1 (Z1 18 (Z3 Tryz.f51))))))))))).wp Tryz.prog (Exit.then K Q) a w:=by
 obtain ⟨t,rfl⟩:=hF.opened;have hsz:=hc.sz;have hel:=hc.el;have hid:=hc.id;have hnw:=hb.nw;have hkb:=hb.k;have hlg:=hb.lg;clear hF;have HS:Hid (c.N w d X):=hS;clear hS;rw [show t 15=.int .i64 ((j:Int)+1) from h15];rw [show t 16=e16 from h16];rw [show t 17=e17 from h17];rw [show t 18=e18 from h18];rw [show t 19=e19 from h19];clear h15 h16 h17 h18 h19
 conv=>arg 2;whnf
 go_wp2_with fail
 exact hP _ _ ⟨rfl,rfl,rfl,rfl,rfl,rfl,rfl,rfl,rfl⟩ rfl rfl rfl rfl rfl (by simp only [Act.eval];exact congrArg _ (neJ j c.ID)) HS.out
theorem dnL57 (hc:c.Ok){m:Nat}(hm0:m<=899000000)(hb:DB d m){e15:Value}(h15:a.eval (.tmp 15)=e15)(hF:c.Fr a)(hS:c.N w d X)(hP:∀ a' w',c.Fr a'->a'.eval (.tmp 15)=e15->a'.eval (.tmp 16)=.int .i64 ((d.n.log.length+1-Z5 c.l d.k (min d.n.log.length 6+1):Nat):Int)->c.N w' ⟨d.n,d.k+1⟩ X->K a' w'):(Z1 0 (Zj (Z2 1 (Z1 1 (Zn (Z1 1 (Y6 (Zn (Z2 4 (Zj (Z2 1 (Z1 18 (Z3 Tryz.f51))))))))))))).wp Tryz.prog (Exit.then K Q) a w:=by
 obtain ⟨ra,rc,hvl⟩:=hS.vl;have Hvl:Hid (X.vl=.slice ra d.n.log.length rc):=hvl;clear hvl;obtain ⟨N,hN⟩:∃ N,N=d.n.log.length:=⟨_,rfl⟩;rw [<-hN] at hP Hvl;have HN:Hid (N=d.n.log.length):=hN;have hN2:N<=200:=by rw [hN];exact hb.lg
 clear hN;obtain ⟨mi,hm⟩:∃ q,q=min (N:Int) 6:=⟨_,rfl⟩;have HMi:Hid (mi=min (N:Int) 6):=hm;obtain ⟨M,HM⟩:∃ q,q=min N 6+1:=⟨_,rfl⟩;rw [<-HM] at hP;have hM1:(M:Int)=mi+1:=by omega
 have hM2:M<=7:=by omega
 have hM3:M<=N+1:=by omega
 obtain ⟨pD,hpD⟩:∃ p,p=Z5 c.l d.k M:=⟨_,rfl⟩;rw [<-hpD] at hP;have HPD:Hid (pD=Z5 c.l d.k M):=hpD;have bD:pD<M:=by rw [hpD];exact Zf _ _ _ (by omega)
 clear hpD hm HM;obtain ⟨NX,hNX⟩:∃ q,q=N+1-pD:=⟨_,rfl⟩;rw [<-hNX] at hP;have hNX1:(NX:Int)=(N:Int)+1-pD:=by omega
 clear hNX;have hsz:=hc.sz;have hel:=hc.el;have hid:=hc.id;have hnw:=hb.nw;have hkb:=hb.k;have hlg:=hb.lg
 conv=>arg 2;whnf
 refine Xg (fun a0=>a0.tmps.size=297/\a0.eval (.tmp 0)=.pointer (some ⟨c.g,0,none⟩)/\a0.eval (.tmp 9)=.pointer (some ⟨c.b9,0,none⟩)) (fun a0 aF w'=>∃ x:Nat->Value,aF=frame a0 [233,234,235,236,237,238,239,240,241,242,243,244,16] x/\(c.N w' ⟨d.n,d.k+1⟩ X/\x 16=.int .i64 (NX:Int))) ?_ ⟨hF.sz,hF.e0,hF.e9⟩ ?_
 ·rintro a0 ⟨hsz0,e0,e9⟩
  refine Y7 (by kernel_rfl) (fun L aF w'=>∃ x:Nat->Value,aF=frame a0 [233,234,235,236,237,238,239,240,241,242,243,244,16] x/\(St3 (fun W=>c.N W d X) (fun W=>c.N W d X) (fun W=>c.N W ⟨d.n,d.k+1⟩ X)) (L.getD 10 false) (L.getD 10 false) w'/\(L.getD 0 false=true->x 233=.pointer (some ⟨c.b9,12,none⟩))/\(L.getD 1 false=true->x 234=.slice ra N rc)/\(L.getD 2 false=true->x 235=.int .i64 (N:Int))/\(L.getD 3 false=true->x 236=.int .i64 ((N:Int)+1))/\(L.getD 4 false=true->x 237=.pointer (some ⟨c.g,0,none⟩))/\(L.getD 5 false=true->x 238=.pointer (some ⟨c.b9,12,none⟩))/\(L.getD 6 false=true->x 239=.slice ra N rc)/\(L.getD 7 false=true->x 240=.int .i64 (N:Int))/\(L.getD 8 false=true->x 241=.int .i64 mi)/\(L.getD 9 false=true->x 242=.int .i64 (M:Int))/\(L.getD 10 false=true->x 243=.int .i64 (pD:Int))/\(L.getD 11 false=true->x 244=.int .i64 (NX:Int))/\(L.getD 12 false=true->x 16=.int .i64 (NX:Int))) ?_ ?_ ?_
  ·refine ⟨_,Yk a0 [233,234,235,236,237,238,239,240,241,242,243,244,16],?_,fun h=>(Zl h).elim,fun h=>(Zl h).elim,fun h=>(Zl h).elim,fun h=>(Zl h).elim,fun h=>(Zl h).elim,fun h=>(Zl h).elim,fun h=>(Zl h).elim,fun h=>(Zl h).elim,fun h=>(Zl h).elim,fun h=>(Zl h).elim,fun h=>(Zl h).elim,fun h=>(Zl h).elim,fun h=>(Zl h).elim⟩
   rw [Z05];exact hS.drew
  ·rintro L a w' i hsL hi ⟨x,rfl,hS,h0,h1,h2,h3,h4,h5,h6,h7,h8,h9,h10,h11,h12⟩
   have hlt:∀ j,j<13->j<L.size:=fun j hj=>by rw [hsL];exact hj
   have hsl:∀ j,j<297->j<a0.tmps.size:=fun j hj=>by rw [hsz0];exact hj
   have hiL:i<13:=(Zx hsL hi).1;have hLz:L.size=13:=hsL;have hcell12:w'.cell? ⟨c.b9,12,none⟩=some (.slice ra N rc):=by refine St3.any (P:=fun W=>W.cell? ⟨c.b9,12,none⟩=some (.slice ra N rc)) ?_ ?_ ?_ hS <;> intro W h <;> (rw [<-Hvl.out];exact (DC.N.blk h).cell 12)
   rcases (show i=0∨i=1∨i=2∨i=3∨i=4∨i=5∨i=6∨i=7∨i=8∨i=9∨i=10∨i=11∨i=12 by omega) with rfl | rfl | rfl | rfl | rfl | rfl | rfl | rfl | rfl | rfl | rfl | rfl | rfl
   ·skip
    have hz:=hlt 0 (by decide);have ev9:(frame a0 [233,234,235,236,237,238,239,240,241,242,243,244,16] x).tmps[9]?.getD undef=.pointer (some ⟨c.b9,0,none⟩):=by have h:=(Zc a0 [233,234,235,236,237,238,239,240,241,242,243,244,16] x 9 rfl).trans e9;simpa [Act.eval] using h
    refine Z8 rfl rfl (Zd (v:=.pointer (some ⟨c.b9,12,none⟩)) ?_ ?_)
    ·obtain ⟨aa,haa⟩:∃ aa,aa=frame a0 [233,234,235,236,237,238,239,240,241,242,243,244,16] x:=⟨_,rfl⟩
     rw [<-haa] at ev9 ⊢;clear haa;go_simp
    exact ⟨_,Z9 _ _ _ 233 _ rfl,(by rw [Zp hz (by decide)];exact hS),fun h=>Zb _ _ _,fun h=>ke2 h1 hz h,fun h=>ke2 h2 hz h,fun h=>ke2 h3 hz h,fun h=>ke2 h4 hz h,fun h=>ke2 h5 hz h,fun h=>ke2 h6 hz h,fun h=>ke2 h7 hz h,fun h=>ke2 h8 hz h,fun h=>ke2 h9 hz h,fun h=>ke2 h10 hz h,fun h=>ke2 h11 hz h,fun h=>ke2 h12 hz h⟩
   ·have d0:=h0 (Z7 hi (by decide))
    have hz:=hlt 1 (by decide);have ev233:(frame a0 [233,234,235,236,237,238,239,240,241,242,243,244,16] x).tmps[233]?.getD undef=.pointer (some ⟨c.b9,12,none⟩):=by have h:=(Z4 a0 [233,234,235,236,237,238,239,240,241,242,243,244,16] x 233 rfl (hsl 233 (by decide))).trans d0;simpa [Act.eval] using h
    refine Z8 rfl rfl (Zd (v:=.slice ra N rc) ?_ ?_)
    ·obtain ⟨aa,haa⟩:∃ aa,aa=frame a0 [233,234,235,236,237,238,239,240,241,242,243,244,16] x:=⟨_,rfl⟩
     rw [<-haa] at ev233 ⊢;clear haa;go_simp
    exact ⟨_,Z9 _ _ _ 234 _ rfl,(by rw [Zp hz (by decide)];exact hS),fun h=>ke2 h0 hz h,fun h=>Zb _ _ _,fun h=>ke2 h2 hz h,fun h=>ke2 h3 hz h,fun h=>ke2 h4 hz h,fun h=>ke2 h5 hz h,fun h=>ke2 h6 hz h,fun h=>ke2 h7 hz h,fun h=>ke2 h8 hz h,fun h=>ke2 h9 hz h,fun h=>ke2 h10 hz h,fun h=>ke2 h11 hz h,fun h=>ke2 h12 hz h⟩
   ·have d1:=h1 (Z7 hi (by decide))
    have hz:=hlt 2 (by decide);have ev234:(frame a0 [233,234,235,236,237,238,239,240,241,242,243,244,16] x).tmps[234]?.getD undef=.slice ra N rc:=by have h:=(Z4 a0 [233,234,235,236,237,238,239,240,241,242,243,244,16] x 234 rfl (hsl 234 (by decide))).trans d1;simpa [Act.eval] using h
    refine Z8 rfl rfl (Zd (v:=.int .i64 (N:Int)) ?_ ?_)
    ·obtain ⟨aa,haa⟩:∃ aa,aa=frame a0 [233,234,235,236,237,238,239,240,241,242,243,244,16] x:=⟨_,rfl⟩
     rw [<-haa] at ev234 ⊢;clear haa;go_simp
    exact ⟨_,Z9 _ _ _ 235 _ rfl,(by rw [Zp hz (by decide)];exact hS),fun h=>ke2 h0 hz h,fun h=>ke2 h1 hz h,fun h=>Zb _ _ _,fun h=>ke2 h3 hz h,fun h=>ke2 h4 hz h,fun h=>ke2 h5 hz h,fun h=>ke2 h6 hz h,fun h=>ke2 h7 hz h,fun h=>ke2 h8 hz h,fun h=>ke2 h9 hz h,fun h=>ke2 h10 hz h,fun h=>ke2 h11 hz h,fun h=>ke2 h12 hz h⟩
   ·have d2:=h2 (Z7 hi (by decide))
    have hz:=hlt 3 (by decide);have ev235:(frame a0 [233,234,235,236,237,238,239,240,241,242,243,244,16] x).tmps[235]?.getD undef=.int .i64 (N:Int):=by have h:=(Z4 a0 [233,234,235,236,237,238,239,240,241,242,243,244,16] x 235 rfl (hsl 235 (by decide))).trans d2;simpa [Act.eval] using h
    refine Z8 rfl rfl (Zd (v:=.int .i64 ((N:Int)+1)) ?_ ?_)
    ·obtain ⟨aa,haa⟩:∃ aa,aa=frame a0 [233,234,235,236,237,238,239,240,241,242,243,244,16] x:=⟨_,rfl⟩
     rw [<-haa] at ev235 ⊢;clear haa;go_simp;rw [IntKind.wrap_i64];omega
    exact ⟨_,Z9 _ _ _ 236 _ rfl,(by rw [Zp hz (by decide)];exact hS),fun h=>ke2 h0 hz h,fun h=>ke2 h1 hz h,fun h=>ke2 h2 hz h,fun h=>Zb _ _ _,fun h=>ke2 h4 hz h,fun h=>ke2 h5 hz h,fun h=>ke2 h6 hz h,fun h=>ke2 h7 hz h,fun h=>ke2 h8 hz h,fun h=>ke2 h9 hz h,fun h=>ke2 h10 hz h,fun h=>ke2 h11 hz h,fun h=>ke2 h12 hz h⟩
   ·skip
    have hz:=hlt 4 (by decide);refine Z8 rfl rfl (Y0 (.tmp 0) (Or.inl rfl) ?_);rw [Zc _ _ _ 0 rfl,e0];exact ⟨_,Z9 _ _ _ 237 _ rfl,(by rw [Zp hz (by decide)];exact hS),fun h=>ke2 h0 hz h,fun h=>ke2 h1 hz h,fun h=>ke2 h2 hz h,fun h=>ke2 h3 hz h,fun h=>Zb _ _ _,fun h=>ke2 h5 hz h,fun h=>ke2 h6 hz h,fun h=>ke2 h7 hz h,fun h=>ke2 h8 hz h,fun h=>ke2 h9 hz h,fun h=>ke2 h10 hz h,fun h=>ke2 h11 hz h,fun h=>ke2 h12 hz h⟩
   ·skip
    have hz:=hlt 5 (by decide);have ev9:(frame a0 [233,234,235,236,237,238,239,240,241,242,243,244,16] x).tmps[9]?.getD undef=.pointer (some ⟨c.b9,0,none⟩):=by have h:=(Zc a0 [233,234,235,236,237,238,239,240,241,242,243,244,16] x 9 rfl).trans e9;simpa [Act.eval] using h
    refine Z8 rfl rfl (Zd (v:=.pointer (some ⟨c.b9,12,none⟩)) ?_ ?_)
    ·obtain ⟨aa,haa⟩:∃ aa,aa=frame a0 [233,234,235,236,237,238,239,240,241,242,243,244,16] x:=⟨_,rfl⟩
     rw [<-haa] at ev9 ⊢;clear haa;go_simp
    exact ⟨_,Z9 _ _ _ 238 _ rfl,(by rw [Zp hz (by decide)];exact hS),fun h=>ke2 h0 hz h,fun h=>ke2 h1 hz h,fun h=>ke2 h2 hz h,fun h=>ke2 h3 hz h,fun h=>ke2 h4 hz h,fun h=>Zb _ _ _,fun h=>ke2 h6 hz h,fun h=>ke2 h7 hz h,fun h=>ke2 h8 hz h,fun h=>ke2 h9 hz h,fun h=>ke2 h10 hz h,fun h=>ke2 h11 hz h,fun h=>ke2 h12 hz h⟩
   ·have d5:=h5 (Z7 hi (by decide))
    have hz:=hlt 6 (by decide);have ev238:(frame a0 [233,234,235,236,237,238,239,240,241,242,243,244,16] x).tmps[238]?.getD undef=.pointer (some ⟨c.b9,12,none⟩):=by have h:=(Z4 a0 [233,234,235,236,237,238,239,240,241,242,243,244,16] x 238 rfl (hsl 238 (by decide))).trans d5;simpa [Act.eval] using h
    refine Z8 rfl rfl (Zd (v:=.slice ra N rc) ?_ ?_)
    ·obtain ⟨aa,haa⟩:∃ aa,aa=frame a0 [233,234,235,236,237,238,239,240,241,242,243,244,16] x:=⟨_,rfl⟩
     rw [<-haa] at ev238 ⊢;clear haa;go_simp
    exact ⟨_,Z9 _ _ _ 239 _ rfl,(by rw [Zp hz (by decide)];exact hS),fun h=>ke2 h0 hz h,fun h=>ke2 h1 hz h,fun h=>ke2 h2 hz h,fun h=>ke2 h3 hz h,fun h=>ke2 h4 hz h,fun h=>ke2 h5 hz h,fun h=>Zb _ _ _,fun h=>ke2 h7 hz h,fun h=>ke2 h8 hz h,fun h=>ke2 h9 hz h,fun h=>ke2 h10 hz h,fun h=>ke2 h11 hz h,fun h=>ke2 h12 hz h⟩
   ·have d6:=h6 (Z7 hi (by decide))
    have hz:=hlt 7 (by decide);have ev239:(frame a0 [233,234,235,236,237,238,239,240,241,242,243,244,16] x).tmps[239]?.getD undef=.slice ra N rc:=by have h:=(Z4 a0 [233,234,235,236,237,238,239,240,241,242,243,244,16] x 239 rfl (hsl 239 (by decide))).trans d6;simpa [Act.eval] using h
    refine Z8 rfl rfl (Zd (v:=.int .i64 (N:Int)) ?_ ?_)
    ·obtain ⟨aa,haa⟩:∃ aa,aa=frame a0 [233,234,235,236,237,238,239,240,241,242,243,244,16] x:=⟨_,rfl⟩
     rw [<-haa] at ev239 ⊢;clear haa;go_simp
    exact ⟨_,Z9 _ _ _ 240 _ rfl,(by rw [Zp hz (by decide)];exact hS),fun h=>ke2 h0 hz h,fun h=>ke2 h1 hz h,fun h=>ke2 h2 hz h,fun h=>ke2 h3 hz h,fun h=>ke2 h4 hz h,fun h=>ke2 h5 hz h,fun h=>ke2 h6 hz h,fun h=>Zb _ _ _,fun h=>ke2 h8 hz h,fun h=>ke2 h9 hz h,fun h=>ke2 h10 hz h,fun h=>ke2 h11 hz h,fun h=>ke2 h12 hz h⟩
   ·have d7:=h7 (Z7 hi (by decide))
    have hz:=hlt 8 (by decide);have ev240:=(Z4 a0 [233,234,235,236,237,238,239,240,241,242,243,244,16] x 240 rfl (hsl 240 (by decide))).trans d7;refine Z8 rfl rfl (Y4 (N:=55) rfl (fun _ _=>by go_simp) #[.int .i64 (N:Int),.int .i64 6] (by simp only [List.map_toArray,List.map_cons,List.map_nil,ev240,Z0w]) ?_);refine Calls.mono (Xf _ _ _) ?_;rw [<-HMi.out];rintro e w2 ⟨rfl,rfl⟩;refine ⟨_,rfl,?_⟩;exact ⟨_,Z9 _ _ _ 241 _ rfl,(by rw [Zp hz (by decide)];exact hS),fun h=>ke2 h0 hz h,fun h=>ke2 h1 hz h,fun h=>ke2 h2 hz h,fun h=>ke2 h3 hz h,fun h=>ke2 h4 hz h,fun h=>ke2 h5 hz h,fun h=>ke2 h6 hz h,fun h=>ke2 h7 hz h,fun h=>Zb _ _ _,fun h=>ke2 h9 hz h,fun h=>ke2 h10 hz h,fun h=>ke2 h11 hz h,fun h=>ke2 h12 hz h⟩
   ·have d8:=h8 (Z7 hi (by decide))
    have hz:=hlt 9 (by decide);have ev241:(frame a0 [233,234,235,236,237,238,239,240,241,242,243,244,16] x).tmps[241]?.getD undef=.int .i64 mi:=by have h:=(Z4 a0 [233,234,235,236,237,238,239,240,241,242,243,244,16] x 241 rfl (hsl 241 (by decide))).trans d8;simpa [Act.eval] using h
    refine Z8 rfl rfl (Zd (v:=.int .i64 (M:Int)) ?_ ?_)
    ·obtain ⟨aa,haa⟩:∃ aa,aa=frame a0 [233,234,235,236,237,238,239,240,241,242,243,244,16] x:=⟨_,rfl⟩
     rw [<-haa] at ev241 ⊢;clear haa;go_simp;rw [IntKind.wrap_i64];omega
    exact ⟨_,Z9 _ _ _ 242 _ rfl,(by rw [Zp hz (by decide)];exact hS),fun h=>ke2 h0 hz h,fun h=>ke2 h1 hz h,fun h=>ke2 h2 hz h,fun h=>ke2 h3 hz h,fun h=>ke2 h4 hz h,fun h=>ke2 h5 hz h,fun h=>ke2 h6 hz h,fun h=>ke2 h7 hz h,fun h=>ke2 h8 hz h,fun h=>Zb _ _ _,fun h=>ke2 h10 hz h,fun h=>ke2 h11 hz h,fun h=>ke2 h12 hz h⟩
   ·have d4:=h4 (Z7 hi (by decide))
    have d9:=h9 (Z7 hi (by decide));have hz:=hlt 10 (by decide);have ev237:=(Z4 a0 [233,234,235,236,237,238,239,240,241,242,243,244,16] x 237 rfl (hsl 237 (by decide))).trans d4;have ev242:=(Z4 a0 [233,234,235,236,237,238,239,240,241,242,243,244,16] x 242 rfl (hsl 242 (by decide))).trans d9;refine Z8 rfl rfl (Y4 (N:=53) rfl (fun _ _=>by go_simp) #[.pointer (some ⟨c.g,0,none⟩),.int .i64 (M:Int)] (by simp only [List.map_toArray,List.map_cons,List.map_nil,ev237,ev242]) ?_);have hb10:L.getD 10 false=false:=by have h9:=(Zx hsL hi).2;rw [Array.getD_eq_getD_getElem?,h9];rfl
    rw [hb10] at hS;have hS0:c.N w' d X:=hS;refine Calls.mono (DC.N.pick1 hS0 hc M (by omega) (by omega) (by omega)) ?_;rw [<-HPD.out];rintro e w2 ⟨rfl,hd⟩;refine ⟨_,rfl,?_⟩;exact ⟨_,Z9 _ _ _ 243 _ rfl,(by rw [Yo hz];exact hd),fun h=>ke2 h0 hz h,fun h=>ke2 h1 hz h,fun h=>ke2 h2 hz h,fun h=>ke2 h3 hz h,fun h=>ke2 h4 hz h,fun h=>ke2 h5 hz h,fun h=>ke2 h6 hz h,fun h=>ke2 h7 hz h,fun h=>ke2 h8 hz h,fun h=>ke2 h9 hz h,fun h=>Zb _ _ _,fun h=>ke2 h11 hz h,fun h=>ke2 h12 hz h⟩
   ·have d3:=h3 (Z7 hi (by decide))
    have d10:=h10 (Z7 hi (by decide));have hz:=hlt 11 (by decide);have ev236:(frame a0 [233,234,235,236,237,238,239,240,241,242,243,244,16] x).tmps[236]?.getD undef=.int .i64 ((N:Int)+1):=by have h:=(Z4 a0 [233,234,235,236,237,238,239,240,241,242,243,244,16] x 236 rfl (hsl 236 (by decide))).trans d3;simpa [Act.eval] using h
    have ev243:(frame a0 [233,234,235,236,237,238,239,240,241,242,243,244,16] x).tmps[243]?.getD undef=.int .i64 (pD:Int):=by have h:=(Z4 a0 [233,234,235,236,237,238,239,240,241,242,243,244,16] x 243 rfl (hsl 243 (by decide))).trans d10;simpa [Act.eval] using h
    refine Z8 rfl rfl (Zd (v:=.int .i64 (NX:Int)) ?_ ?_)
    ·obtain ⟨aa,haa⟩:∃ aa,aa=frame a0 [233,234,235,236,237,238,239,240,241,242,243,244,16] x:=⟨_,rfl⟩
     rw [<-haa] at ev236 ev243 ⊢;clear haa;go_simp;rw [IntKind.wrap_i64];omega
    exact ⟨_,Z9 _ _ _ 244 _ rfl,(by rw [Zp hz (by decide)];exact hS),fun h=>ke2 h0 hz h,fun h=>ke2 h1 hz h,fun h=>ke2 h2 hz h,fun h=>ke2 h3 hz h,fun h=>ke2 h4 hz h,fun h=>ke2 h5 hz h,fun h=>ke2 h6 hz h,fun h=>ke2 h7 hz h,fun h=>ke2 h8 hz h,fun h=>ke2 h9 hz h,fun h=>ke2 h10 hz h,fun h=>Zb _ _ _,fun h=>ke2 h12 hz h⟩
   ·have d11:=h11 (Z7 hi (by decide))
    have hz:=hlt 12 (by decide);have ev244:(frame a0 [233,234,235,236,237,238,239,240,241,242,243,244,16] x).tmps[244]?.getD undef=.int .i64 (NX:Int):=by have h:=(Z4 a0 [233,234,235,236,237,238,239,240,241,242,243,244,16] x 244 rfl (hsl 244 (by decide))).trans d11;simpa [Act.eval] using h
    refine Z8 rfl rfl (Zd (v:=.int .i64 (NX:Int)) ?_ ?_)
    ·obtain ⟨aa,haa⟩:∃ aa,aa=frame a0 [233,234,235,236,237,238,239,240,241,242,243,244,16] x:=⟨_,rfl⟩
     rw [<-haa] at ev244 ⊢;clear haa;go_simp
    exact ⟨_,Z9 _ _ _ 16 _ rfl,(by rw [Zp hz (by decide)];exact hS),fun h=>ke2 h0 hz h,fun h=>ke2 h1 hz h,fun h=>ke2 h2 hz h,fun h=>ke2 h3 hz h,fun h=>ke2 h4 hz h,fun h=>ke2 h5 hz h,fun h=>ke2 h6 hz h,fun h=>ke2 h7 hz h,fun h=>ke2 h8 hz h,fun h=>ke2 h9 hz h,fun h=>ke2 h10 hz h,fun h=>ke2 h11 hz h,fun h=>Zb _ _ _⟩
  ·rintro L a w' hsL hr ⟨x,rfl,hS,h0,h1,h2,h3,h4,h5,h6,h7,h8,h9,h10,h11,h12⟩
   have hall:=Yq hsL hr (by decide);replace h0:=h0 (hall 0 (by decide));replace h1:=h1 (hall 1 (by decide));replace h2:=h2 (hall 2 (by decide));replace h3:=h3 (hall 3 (by decide));replace h4:=h4 (hall 4 (by decide));replace h5:=h5 (hall 5 (by decide));replace h6:=h6 (hall 6 (by decide));replace h7:=h7 (hall 7 (by decide));replace h8:=h8 (hall 8 (by decide));replace h9:=h9 (hall 9 (by decide));replace h10:=h10 (hall 10 (by decide));replace h11:=h11 (hall 11 (by decide));replace h12:=h12 (hall 12 (by decide));rw [hall 10 (by decide)] at hS;exact ⟨rfl,x,rfl,⟨hS,h12⟩⟩
 ·rintro a' w' ⟨x,rfl,hFin⟩
  exact hP _ _ (hF.frame _ _ (by decide)) ((Zc a [233,234,235,236,237,238,239,240,241,242,243,244,16] x 15 rfl).trans h15) ((Z4 a [233,234,235,236,237,238,239,240,241,242,243,244,16] x 16 rfl (by rw [hF.sz];decide)).trans hFin.2) hFin.1
theorem dnL58 (hc:c.Ok){m:Nat}(hm0:m<=899000000)(hb:DB d m){NX:Nat}(hx:0<NX)(hx2:NX<=1000){e15:Value}(h15:a.eval (.tmp 15)=e15)(h16:a.eval (.tmp 16)=.int .i64 ((NX:Nat):Int))(hF:c.Fr a)(hS:c.N w d X)(hP:∀ a' w',c.Fr a'->a'.eval (.tmp 15)=e15->a'.eval (.tmp 16)=.int .i64 ((NX:Nat):Int)->a'.eval (.tmp 17)=.int .i64 ((Z5 c.l d.k NX:Nat):Int)->c.N w' ⟨d.n,d.k+Zm NX⟩ X->K a' w'):(Z1 1 (Zj (Z2 1 (Z1 1 (Zn (Z1 1 (Y6 (Zn (Z2 4 (Zj (Z2 1 (Z1 18 (Z3 Tryz.f51))))))))))))).wp Tryz.prog (Exit.then K Q) a w:=by
 obtain ⟨t,rfl⟩:=hF.opened;have hsz:=hc.sz;have hel:=hc.el;have hid:=hc.id;have hnw:=hb.nw;have hkb:=hb.k;have hlg:=hb.lg;clear hF;have HS:Hid (c.N w d X):=hS;clear hS;rw [show t 16=.int .i64 ((NX:Nat):Int) from h16];rw [show t 15=e15 from h15];clear h16 h15;obtain ⟨p,hp⟩:∃ p,p=Z5 c.l d.k NX:=⟨_,rfl⟩;have Hp:Hid (p=Z5 c.l d.k NX):=hp;rw [<-hp] at hP;have bp:p<NX:=by rw [hp];exact Zf _ _ _ (by omega)
 clear hp
 conv=>arg 2;whnf
 go_wp2_with (go_at_call 53;go_loud (refine (HS.out.pick hc NX (by omega) (by omega) (by omega)).mono ?_;rw [<-Hp.out];rintro r w9 ⟨rfl,hd⟩;have HS9:Hid (c.N w9 ⟨d.n,d.k+Zm NX⟩ X):=hd;clear hd))
 exact hP _ _ ⟨rfl,rfl,rfl,rfl,rfl,rfl,rfl,rfl,rfl⟩ rfl rfl rfl HS9.out
theorem dnL59 (hc:c.Ok){m:Nat}(hm0:m<=899000000)(hb:DB d m){e15:Value}(h15:a.eval (.tmp 15)=e15){e16:Value}(h16:a.eval (.tmp 16)=e16){e17:Value}(h17:a.eval (.tmp 17)=e17)(hF:c.Fr a)(hS:c.N w d X)(hP:∀ a' w',c.Fr a'->a'.eval (.tmp 15)=e15->a'.eval (.tmp 16)=e16->a'.eval (.tmp 17)=e17->a'.eval (.tmp 250)=.bool (decide (Z5 c.l d.k 2=0))->c.N w' ⟨d.n,d.k+1⟩ X->K a' w'):(Z1 0 (Z1 2 (Zj (Z2 1 (Z1 1 (Zn (Z1 1 (Y6 (Zn (Z2 4 (Zj (Z2 1 (Z1 18 (Z3 Tryz.f51)))))))))))))).wp Tryz.prog (Exit.then K Q) a w:=by
 obtain ⟨t,rfl⟩:=hF.opened;have hsz:=hc.sz;have hel:=hc.el;have hid:=hc.id;have hnw:=hb.nw;have hkb:=hb.k;have hlg:=hb.lg;clear hF;have HS:Hid (c.N w d X):=hS;clear hS;rw [show t 15=e15 from h15];rw [show t 16=e16 from h16];rw [show t 17=e17 from h17];clear h15 h16 h17;obtain ⟨p,hp⟩:∃ p,p=Z5 c.l d.k 2:=⟨_,rfl⟩;have Hp:Hid (p=Z5 c.l d.k 2):=hp;rw [<-hp] at hP;have bp:p<2:=by rw [hp];exact Zf _ _ _ (by omega)
 clear hp
 conv=>arg 2;whnf
 go_wp2_with (go_at_call 53;go_loud (refine (HS.out.pick1 hc 2 (by omega) (by omega) (by omega)).mono ?_;rw [<-Hp.out];rintro r w9 ⟨rfl,hd⟩;have HS9:Hid (c.N w9 ⟨d.n,d.k+1⟩ X):=hd;clear hd))
 exact hP _ _ ⟨rfl,rfl,rfl,rfl,rfl,rfl,rfl,rfl,rfl⟩ rfl rfl rfl (by simp [Act.eval,beq0]) HS9.out
theorem dnL60 (hc:c.Ok){m:Nat}(hm0:m<=899000000)(hb:DB d m){NX:Nat}(hx:0<NX)(hx2:NX<=1000){e15:Value}(h15:a.eval (.tmp 15)=e15)(h16:a.eval (.tmp 16)=.int .i64 ((NX:Nat):Int))(hF:c.Fr a)(hS:c.N w d X)(hP:∀ a' w',c.Fr a'->a'.eval (.tmp 15)=e15->a'.eval (.tmp 16)=.int .i64 ((NX:Nat):Int)->a'.eval (.tmp 17)=.int .i64 ((NX:Int)-1)->c.N w' d X->K a' w'):(Zj (Z2 1 (Z1 2 (Zj (Z2 1 (Z1 1 (Zn (Z1 1 (Y6 (Zn (Z2 4 (Zj (Z2 1 (Z1 18 (Z3 Tryz.f51))))))))))))))).wp Tryz.prog (Exit.then K Q) a w:=by
 obtain ⟨t,rfl⟩:=hF.opened;have hsz:=hc.sz;have hel:=hc.el;have hid:=hc.id;have hnw:=hb.nw;have hkb:=hb.k;have hlg:=hb.lg;clear hF;have HS:Hid (c.N w d X):=hS;clear hS;rw [show t 16=.int .i64 ((NX:Nat):Int) from h16];rw [show t 15=e15 from h15];clear h16 h15
 conv=>arg 2;whnf
 go_wp2_with fail
 exact hP _ _ ⟨rfl,rfl,rfl,rfl,rfl,rfl,rfl,rfl,rfl⟩ rfl rfl rfl HS.out
theorem dnL61 (hc:c.Ok){m:Nat}(hm0:m<=899000000)(hb:DB d m){e15:Value}(h15:a.eval (.tmp 15)=e15){e16:Value}(h16:a.eval (.tmp 16)=e16){e17:Value}(h17:a.eval (.tmp 17)=e17)(hF:c.Fr a)(hS:c.N w d X)(hP:∀ a' w',c.Fr a'->a'.eval (.tmp 15)=e15->a'.eval (.tmp 16)=e16->a'.eval (.tmp 17)=e17->a'.eval (.tmp 20)=.int .i64 ((min d.n.nw.toNat (c.EL+2):Nat):Int)->c.N w' d X->K a' w'):(Z1 3 (Zj (Z2 1 (Z1 1 (Zn (Z1 1 (Y6 (Zn (Z2 4 (Zj (Z2 1 (Z1 18 (Z3 Tryz.f51))))))))))))).wp Tryz.prog (Exit.then K Q) a w:=by
 obtain ⟨t,rfl⟩:=hF.opened;have hsz:=hc.sz;have hel:=hc.el;have hid:=hc.id;have hnw:=hb.nw;have hkb:=hb.k;have hlg:=hb.lg;clear hF;have HS:Hid (c.N w d X):=hS;clear hS;rw [show t 15=e15 from h15];rw [show t 16=e16 from h16];rw [show t 17=e17 from h17];clear h15 h16 h17;have c9:w.cell? ⟨c.b9,9,none⟩=some (.int .i64 d.n.nw):=HS.out.blk.cell 9;obtain ⟨M,hM⟩:∃ M,M=min d.n.nw ((c.EL:Int)+2):=⟨_,rfl⟩;have HM:Hid (M=min d.n.nw ((c.EL:Int)+2)):=hM;have hM2:((min d.n.nw.toNat (c.EL+2):Nat):Int)=M:=by omega
 rw [hM2] at hP;clear hM hM2
 conv=>arg 2;whnf
 go_wp2_with (go_at_call 55;go_loud (refine (Xf _ _ _).mono ?_;rw [<-HM.out];rintro r w9 ⟨rfl,hw⟩;obtain rfl:=hw.symm;clear hw))
 exact hP _ _ ⟨rfl,rfl,rfl,rfl,rfl,rfl,rfl,rfl,rfl⟩ rfl rfl rfl rfl HS.out
theorem dnL62 (hc:c.Ok){m:Nat}(hm0:m<=899000000)(hb:DB d m){bk:Nat}(hbk:bk<=2000){e15:Value}(h15:a.eval (.tmp 15)=e15){e16:Value}(h16:a.eval (.tmp 16)=e16){e17:Value}(h17:a.eval (.tmp 17)=e17)(h20:a.eval (.tmp 20)=.int .i64 ((bk:Nat):Int))(hF:c.Fr a)(hS:c.N w d X)(hP:∀ a' w',c.Fr a'->a'.eval (.tmp 15)=e15->a'.eval (.tmp 16)=e16->a'.eval (.tmp 17)=e17->a'.eval (.tmp 20)=.int .i64 ((bk:Nat):Int)->a'.eval (.tmp 18)=.int .i64 (d.n.nw-((Z5 c.l d.k (bk+1):Nat):Int))->c.N w' ⟨d.n,d.k+Zm (bk+1)⟩ X->K a' w'):(Z1 4 (Zj (Z2 1 (Z1 1 (Zn (Z1 1 (Y6 (Zn (Z2 4 (Zj (Z2 1 (Z1 18 (Z3 Tryz.f51))))))))))))).wp Tryz.prog (Exit.then K Q) a w:=by
 obtain ⟨M,HM⟩:∃ q,q=bk+1:=⟨_,rfl⟩;rw [<-HM] at hP;obtain ⟨pD,hpD⟩:∃ p,p=Z5 c.l d.k M:=⟨_,rfl⟩;rw [<-hpD] at hP;have HPD:Hid (pD=Z5 c.l d.k M):=hpD;have bD:pD<M:=by rw [hpD];exact Zf _ _ _ (by omega)
 clear hpD;have hsz:=hc.sz;have hel:=hc.el;have hid:=hc.id;have hnw:=hb.nw;have hkb:=hb.k;have hlg:=hb.lg
 conv=>arg 2;whnf
 refine Xg (fun a0=>a0.tmps.size=297/\a0.eval (.tmp 0)=.pointer (some ⟨c.g,0,none⟩)/\a0.eval (.tmp 9)=.pointer (some ⟨c.b9,0,none⟩)/\a0.eval (.tmp 20)=.int .i64 ((bk:Nat):Int)) (fun a0 aF w'=>∃ x:Nat->Value,aF=frame a0 [258,259,260,261,262,263,264,18] x/\(c.N w' ⟨d.n,d.k+Zm M⟩ X/\x 18=.int .i64 (d.n.nw-(pD:Int)))) ?_ ⟨hF.sz,hF.e0,hF.e9,h20⟩ ?_
 ·rintro a0 ⟨hsz0,e0,e9,e20⟩
  refine Y7 (by kernel_rfl) (fun L aF w'=>∃ x:Nat->Value,aF=frame a0 [258,259,260,261,262,263,264,18] x/\(St3 (fun W=>c.N W d X) (fun W=>c.N W d X) (fun W=>c.N W ⟨d.n,d.k+Zm M⟩ X)) (L.getD 5 false) (L.getD 5 false) w'/\(L.getD 0 false=true->x 258=.pointer (some ⟨c.b9,9,none⟩))/\(L.getD 1 false=true->x 259=.int .i64 d.n.nw)/\(L.getD 2 false=true->x 260=.pointer (some ⟨c.g,0,none⟩))/\(L.getD 3 false=true->x 261=.int .i64 ((bk:Nat):Int))/\(L.getD 4 false=true->x 262=.int .i64 (M:Int))/\(L.getD 5 false=true->x 263=.int .i64 (pD:Int))/\(L.getD 6 false=true->x 264=.int .i64 (d.n.nw-(pD:Int)))/\(L.getD 7 false=true->x 18=.int .i64 (d.n.nw-(pD:Int)))) ?_ ?_ ?_
  ·refine ⟨_,Yk a0 [258,259,260,261,262,263,264,18],?_,fun h=>(Zl h).elim,fun h=>(Zl h).elim,fun h=>(Zl h).elim,fun h=>(Zl h).elim,fun h=>(Zl h).elim,fun h=>(Zl h).elim,fun h=>(Zl h).elim,fun h=>(Zl h).elim⟩
   rw [Z05];exact hS.drew
  ·rintro L a w' i hsL hi ⟨x,rfl,hS,h0,h1,h2,h3,h4,h5,h6,h7⟩
   have hlt:∀ j,j<8->j<L.size:=fun j hj=>by rw [hsL];exact hj
   have hsl:∀ j,j<297->j<a0.tmps.size:=fun j hj=>by rw [hsz0];exact hj
   have hiL:i<8:=(Zx hsL hi).1;have hLz:L.size=8:=hsL;have hcell9:w'.cell? ⟨c.b9,9,none⟩=some (.int .i64 d.n.nw):=by refine St3.any (P:=fun W=>W.cell? ⟨c.b9,9,none⟩=some (.int .i64 d.n.nw)) ?_ ?_ ?_ hS <;> intro W h <;> exact (DC.N.blk h).cell 9
   rcases (show i=0∨i=1∨i=2∨i=3∨i=4∨i=5∨i=6∨i=7 by omega) with rfl | rfl | rfl | rfl | rfl | rfl | rfl | rfl
   ·skip
    have hz:=hlt 0 (by decide);have ev9:(frame a0 [258,259,260,261,262,263,264,18] x).tmps[9]?.getD undef=.pointer (some ⟨c.b9,0,none⟩):=by have h:=(Zc a0 [258,259,260,261,262,263,264,18] x 9 rfl).trans e9;simpa [Act.eval] using h
    refine Z8 rfl rfl (Zd (v:=.pointer (some ⟨c.b9,9,none⟩)) ?_ ?_)
    ·obtain ⟨aa,haa⟩:∃ aa,aa=frame a0 [258,259,260,261,262,263,264,18] x:=⟨_,rfl⟩
     rw [<-haa] at ev9 ⊢;clear haa;go_simp
    exact ⟨_,Z9 _ _ _ 258 _ rfl,(by rw [Zp hz (by decide)];exact hS),fun h=>Zb _ _ _,fun h=>ke2 h1 hz h,fun h=>ke2 h2 hz h,fun h=>ke2 h3 hz h,fun h=>ke2 h4 hz h,fun h=>ke2 h5 hz h,fun h=>ke2 h6 hz h,fun h=>ke2 h7 hz h⟩
   ·have d0:=h0 (Z7 hi (by decide))
    have hz:=hlt 1 (by decide);have ev258:(frame a0 [258,259,260,261,262,263,264,18] x).tmps[258]?.getD undef=.pointer (some ⟨c.b9,9,none⟩):=by have h:=(Z4 a0 [258,259,260,261,262,263,264,18] x 258 rfl (hsl 258 (by decide))).trans d0;simpa [Act.eval] using h
    refine Z8 rfl rfl (Zd (v:=.int .i64 d.n.nw) ?_ ?_)
    ·obtain ⟨aa,haa⟩:∃ aa,aa=frame a0 [258,259,260,261,262,263,264,18] x:=⟨_,rfl⟩
     rw [<-haa] at ev258 ⊢;clear haa;go_simp
    exact ⟨_,Z9 _ _ _ 259 _ rfl,(by rw [Zp hz (by decide)];exact hS),fun h=>ke2 h0 hz h,fun h=>Zb _ _ _,fun h=>ke2 h2 hz h,fun h=>ke2 h3 hz h,fun h=>ke2 h4 hz h,fun h=>ke2 h5 hz h,fun h=>ke2 h6 hz h,fun h=>ke2 h7 hz h⟩
   ·skip
    have hz:=hlt 2 (by decide);refine Z8 rfl rfl (Y0 (.tmp 0) (Or.inl rfl) ?_);rw [Zc _ _ _ 0 rfl,e0];exact ⟨_,Z9 _ _ _ 260 _ rfl,(by rw [Zp hz (by decide)];exact hS),fun h=>ke2 h0 hz h,fun h=>ke2 h1 hz h,fun h=>Zb _ _ _,fun h=>ke2 h3 hz h,fun h=>ke2 h4 hz h,fun h=>ke2 h5 hz h,fun h=>ke2 h6 hz h,fun h=>ke2 h7 hz h⟩
   ·skip
    have hz:=hlt 3 (by decide);refine Z8 rfl rfl (Y0 (.tmp 20) (Or.inl rfl) ?_);rw [Zc _ _ _ 20 rfl,e20];exact ⟨_,Z9 _ _ _ 261 _ rfl,(by rw [Zp hz (by decide)];exact hS),fun h=>ke2 h0 hz h,fun h=>ke2 h1 hz h,fun h=>ke2 h2 hz h,fun h=>Zb _ _ _,fun h=>ke2 h4 hz h,fun h=>ke2 h5 hz h,fun h=>ke2 h6 hz h,fun h=>ke2 h7 hz h⟩
   ·have d3:=h3 (Z7 hi (by decide))
    have hz:=hlt 4 (by decide);have ev261:(frame a0 [258,259,260,261,262,263,264,18] x).tmps[261]?.getD undef=.int .i64 ((bk:Nat):Int):=by have h:=(Z4 a0 [258,259,260,261,262,263,264,18] x 261 rfl (hsl 261 (by decide))).trans d3;simpa [Act.eval] using h
    refine Z8 rfl rfl (Zd (v:=.int .i64 (M:Int)) ?_ ?_)
    ·obtain ⟨aa,haa⟩:∃ aa,aa=frame a0 [258,259,260,261,262,263,264,18] x:=⟨_,rfl⟩
     rw [<-haa] at ev261 ⊢;clear haa;go_simp;rw [IntKind.wrap_i64];omega
    exact ⟨_,Z9 _ _ _ 262 _ rfl,(by rw [Zp hz (by decide)];exact hS),fun h=>ke2 h0 hz h,fun h=>ke2 h1 hz h,fun h=>ke2 h2 hz h,fun h=>ke2 h3 hz h,fun h=>Zb _ _ _,fun h=>ke2 h5 hz h,fun h=>ke2 h6 hz h,fun h=>ke2 h7 hz h⟩
   ·have d2:=h2 (Z7 hi (by decide))
    have d4:=h4 (Z7 hi (by decide));have hz:=hlt 5 (by decide);have ev260:=(Z4 a0 [258,259,260,261,262,263,264,18] x 260 rfl (hsl 260 (by decide))).trans d2;have ev262:=(Z4 a0 [258,259,260,261,262,263,264,18] x 262 rfl (hsl 262 (by decide))).trans d4;refine Z8 rfl rfl (Y4 (N:=53) rfl (fun _ _=>by go_simp) #[.pointer (some ⟨c.g,0,none⟩),.int .i64 (M:Int)] (by simp only [List.map_toArray,List.map_cons,List.map_nil,ev260,ev262]) ?_);have hb5:L.getD 5 false=false:=by have h9:=(Zx hsL hi).2;rw [Array.getD_eq_getD_getElem?,h9];rfl
    rw [hb5] at hS;have hS0:c.N w' d X:=hS;refine Calls.mono (DC.N.pick hS0 hc M (by omega) (by omega) (by omega)) ?_;rw [<-HPD.out];rintro e w2 ⟨rfl,hd⟩;refine ⟨_,rfl,?_⟩;exact ⟨_,Z9 _ _ _ 263 _ rfl,(by rw [Yo hz];exact hd),fun h=>ke2 h0 hz h,fun h=>ke2 h1 hz h,fun h=>ke2 h2 hz h,fun h=>ke2 h3 hz h,fun h=>ke2 h4 hz h,fun h=>Zb _ _ _,fun h=>ke2 h6 hz h,fun h=>ke2 h7 hz h⟩
   ·have d1:=h1 (Z7 hi (by decide))
    have d5:=h5 (Z7 hi (by decide));have hz:=hlt 6 (by decide);have ev259:(frame a0 [258,259,260,261,262,263,264,18] x).tmps[259]?.getD undef=.int .i64 d.n.nw:=by have h:=(Z4 a0 [258,259,260,261,262,263,264,18] x 259 rfl (hsl 259 (by decide))).trans d1;simpa [Act.eval] using h
    have ev263:(frame a0 [258,259,260,261,262,263,264,18] x).tmps[263]?.getD undef=.int .i64 (pD:Int):=by have h:=(Z4 a0 [258,259,260,261,262,263,264,18] x 263 rfl (hsl 263 (by decide))).trans d5;simpa [Act.eval] using h
    refine Z8 rfl rfl (Zd (v:=.int .i64 (d.n.nw-(pD:Int))) ?_ ?_)
    ·obtain ⟨aa,haa⟩:∃ aa,aa=frame a0 [258,259,260,261,262,263,264,18] x:=⟨_,rfl⟩
     rw [<-haa] at ev259 ev263 ⊢;clear haa;go_simp;rw [IntKind.wrap_i64];omega
    exact ⟨_,Z9 _ _ _ 264 _ rfl,(by rw [Zp hz (by decide)];exact hS),fun h=>ke2 h0 hz h,fun h=>ke2 h1 hz h,fun h=>ke2 h2 hz h,fun h=>ke2 h3 hz h,fun h=>ke2 h4 hz h,fun h=>ke2 h5 hz h,fun h=>Zb _ _ _,fun h=>ke2 h7 hz h⟩
   ·have d6:=h6 (Z7 hi (by decide))
    have hz:=hlt 7 (by decide);have ev264:(frame a0 [258,259,260,261,262,263,264,18] x).tmps[264]?.getD undef=.int .i64 (d.n.nw-(pD:Int)):=by have h:=(Z4 a0 [258,259,260,261,262,263,264,18] x 264 rfl (hsl 264 (by decide))).trans d6;simpa [Act.eval] using h
    refine Z8 rfl rfl (Zd (v:=.int .i64 (d.n.nw-(pD:Int))) ?_ ?_)
    ·obtain ⟨aa,haa⟩:∃ aa,aa=frame a0 [258,259,260,261,262,263,264,18] x:=⟨_,rfl⟩
     rw [<-haa] at ev264 ⊢;clear haa;go_simp
    exact ⟨_,Z9 _ _ _ 18 _ rfl,(by rw [Zp hz (by decide)];exact hS),fun h=>ke2 h0 hz h,fun h=>ke2 h1 hz h,fun h=>ke2 h2 hz h,fun h=>ke2 h3 hz h,fun h=>ke2 h4 hz h,fun h=>ke2 h5 hz h,fun h=>ke2 h6 hz h,fun h=>Zb _ _ _⟩
  ·rintro L a w' hsL hr ⟨x,rfl,hS,h0,h1,h2,h3,h4,h5,h6,h7⟩
   have hall:=Yq hsL hr (by decide);replace h0:=h0 (hall 0 (by decide));replace h1:=h1 (hall 1 (by decide));replace h2:=h2 (hall 2 (by decide));replace h3:=h3 (hall 3 (by decide));replace h4:=h4 (hall 4 (by decide));replace h5:=h5 (hall 5 (by decide));replace h6:=h6 (hall 6 (by decide));replace h7:=h7 (hall 7 (by decide));rw [hall 5 (by decide)] at hS;exact ⟨rfl,x,rfl,⟨hS,h7⟩⟩
 ·rintro a' w' ⟨x,rfl,hFin⟩
  exact hP _ _ (hF.frame _ _ (by decide)) ((Zc a [258,259,260,261,262,263,264,18] x 15 rfl).trans h15) ((Zc a [258,259,260,261,262,263,264,18] x 16 rfl).trans h16) ((Zc a [258,259,260,261,262,263,264,18] x 17 rfl).trans h17) ((Zc a [258,259,260,261,262,263,264,18] x 20 rfl).trans h20) ((Z4 a [258,259,260,261,262,263,264,18] x 18 rfl (by rw [hF.sz];decide)).trans hFin.2) hFin.1
theorem dnL63 (hc:c.Ok){m:Nat}(hm0:m<=899000000)(hb:DB d m){bk:Nat}(hbk:bk<=2000){e15:Value}(h15:a.eval (.tmp 15)=e15){e16:Value}(h16:a.eval (.tmp 16)=e16){e17:Value}(h17:a.eval (.tmp 17)=e17){e18:Value}(h18:a.eval (.tmp 18)=e18)(h20:a.eval (.tmp 20)=.int .i64 ((bk:Nat):Int))(hF:c.Fr a)(hS:c.N w d X)(hP:∀ a' w',c.Fr a'->a'.eval (.tmp 15)=e15->a'.eval (.tmp 16)=e16->a'.eval (.tmp 17)=e17->a'.eval (.tmp 18)=e18->a'.eval (.tmp 19)=.int .i64 (d.n.nw-((Z5 c.l d.k (bk+1):Nat):Int))->c.N w' ⟨d.n,d.k+Zm (bk+1)⟩ X->K a' w'):(Z2 5 (Zj (Z2 1 (Z1 1 (Zn (Z1 1 (Y6 (Zn (Z2 4 (Zj (Z2 1 (Z1 18 (Z3 Tryz.f51))))))))))))).wp Tryz.prog (Exit.then K Q) a w:=by
 obtain ⟨M,HM⟩:∃ q,q=bk+1:=⟨_,rfl⟩;rw [<-HM] at hP;obtain ⟨pD,hpD⟩:∃ p,p=Z5 c.l d.k M:=⟨_,rfl⟩;rw [<-hpD] at hP;have HPD:Hid (pD=Z5 c.l d.k M):=hpD;have bD:pD<M:=by rw [hpD];exact Zf _ _ _ (by omega)
 clear hpD;have hsz:=hc.sz;have hel:=hc.el;have hid:=hc.id;have hnw:=hb.nw;have hkb:=hb.k;have hlg:=hb.lg
 conv=>arg 2;whnf
 refine Xg (fun a0=>a0.tmps.size=297/\a0.eval (.tmp 0)=.pointer (some ⟨c.g,0,none⟩)/\a0.eval (.tmp 9)=.pointer (some ⟨c.b9,0,none⟩)/\a0.eval (.tmp 20)=.int .i64 ((bk:Nat):Int)) (fun a0 aF w'=>∃ x:Nat->Value,aF=frame a0 [265,266,267,268,269,270,271,19] x/\(c.N w' ⟨d.n,d.k+Zm M⟩ X/\x 19=.int .i64 (d.n.nw-(pD:Int)))) ?_ ⟨hF.sz,hF.e0,hF.e9,h20⟩ ?_
 ·rintro a0 ⟨hsz0,e0,e9,e20⟩
  refine Y7 (by kernel_rfl) (fun L aF w'=>∃ x:Nat->Value,aF=frame a0 [265,266,267,268,269,270,271,19] x/\(St3 (fun W=>c.N W d X) (fun W=>c.N W d X) (fun W=>c.N W ⟨d.n,d.k+Zm M⟩ X)) (L.getD 5 false) (L.getD 5 false) w'/\(L.getD 0 false=true->x 265=.pointer (some ⟨c.b9,9,none⟩))/\(L.getD 1 false=true->x 266=.int .i64 d.n.nw)/\(L.getD 2 false=true->x 267=.pointer (some ⟨c.g,0,none⟩))/\(L.getD 3 false=true->x 268=.int .i64 ((bk:Nat):Int))/\(L.getD 4 false=true->x 269=.int .i64 (M:Int))/\(L.getD 5 false=true->x 270=.int .i64 (pD:Int))/\(L.getD 6 false=true->x 271=.int .i64 (d.n.nw-(pD:Int)))/\(L.getD 7 false=true->x 19=.int .i64 (d.n.nw-(pD:Int)))) ?_ ?_ ?_
  ·refine ⟨_,Yk a0 [265,266,267,268,269,270,271,19],?_,fun h=>(Zl h).elim,fun h=>(Zl h).elim,fun h=>(Zl h).elim,fun h=>(Zl h).elim,fun h=>(Zl h).elim,fun h=>(Zl h).elim,fun h=>(Zl h).elim,fun h=>(Zl h).elim⟩
   rw [Z05];exact hS.drew
  ·rintro L a w' i hsL hi ⟨x,rfl,hS,h0,h1,h2,h3,h4,h5,h6,h7⟩
   have hlt:∀ j,j<8->j<L.size:=fun j hj=>by rw [hsL];exact hj
   have hsl:∀ j,j<297->j<a0.tmps.size:=fun j hj=>by rw [hsz0];exact hj
   have hiL:i<8:=(Zx hsL hi).1;have hLz:L.size=8:=hsL;have hcell9:w'.cell? ⟨c.b9,9,none⟩=some (.int .i64 d.n.nw):=by refine St3.any (P:=fun W=>W.cell? ⟨c.b9,9,none⟩=some (.int .i64 d.n.nw)) ?_ ?_ ?_ hS <;> intro W h <;> exact (DC.N.blk h).cell 9
   rcases (show i=0∨i=1∨i=2∨i=3∨i=4∨i=5∨i=6∨i=7 by omega) with rfl | rfl | rfl | rfl | rfl | rfl | rfl | rfl
   ·skip
    have hz:=hlt 0 (by decide);have ev9:(frame a0 [265,266,267,268,269,270,271,19] x).tmps[9]?.getD undef=.pointer (some ⟨c.b9,0,none⟩):=by have h:=(Zc a0 [265,266,267,268,269,270,271,19] x 9 rfl).trans e9;simpa [Act.eval] using h
    refine Z8 rfl rfl (Zd (v:=.pointer (some ⟨c.b9,9,none⟩)) ?_ ?_)
    ·obtain ⟨aa,haa⟩:∃ aa,aa=frame a0 [265,266,267,268,269,270,271,19] x:=⟨_,rfl⟩
     rw [<-haa] at ev9 ⊢;clear haa;go_simp
    exact ⟨_,Z9 _ _ _ 265 _ rfl,(by rw [Zp hz (by decide)];exact hS),fun h=>Zb _ _ _,fun h=>ke2 h1 hz h,fun h=>ke2 h2 hz h,fun h=>ke2 h3 hz h,fun h=>ke2 h4 hz h,fun h=>ke2 h5 hz h,fun h=>ke2 h6 hz h,fun h=>ke2 h7 hz h⟩
   ·have d0:=h0 (Z7 hi (by decide))
    have hz:=hlt 1 (by decide);have ev265:(frame a0 [265,266,267,268,269,270,271,19] x).tmps[265]?.getD undef=.pointer (some ⟨c.b9,9,none⟩):=by have h:=(Z4 a0 [265,266,267,268,269,270,271,19] x 265 rfl (hsl 265 (by decide))).trans d0;simpa [Act.eval] using h
    refine Z8 rfl rfl (Zd (v:=.int .i64 d.n.nw) ?_ ?_)
    ·obtain ⟨aa,haa⟩:∃ aa,aa=frame a0 [265,266,267,268,269,270,271,19] x:=⟨_,rfl⟩
     rw [<-haa] at ev265 ⊢;clear haa;go_simp
    exact ⟨_,Z9 _ _ _ 266 _ rfl,(by rw [Zp hz (by decide)];exact hS),fun h=>ke2 h0 hz h,fun h=>Zb _ _ _,fun h=>ke2 h2 hz h,fun h=>ke2 h3 hz h,fun h=>ke2 h4 hz h,fun h=>ke2 h5 hz h,fun h=>ke2 h6 hz h,fun h=>ke2 h7 hz h⟩
   ·skip
    have hz:=hlt 2 (by decide);refine Z8 rfl rfl (Y0 (.tmp 0) (Or.inl rfl) ?_);rw [Zc _ _ _ 0 rfl,e0];exact ⟨_,Z9 _ _ _ 267 _ rfl,(by rw [Zp hz (by decide)];exact hS),fun h=>ke2 h0 hz h,fun h=>ke2 h1 hz h,fun h=>Zb _ _ _,fun h=>ke2 h3 hz h,fun h=>ke2 h4 hz h,fun h=>ke2 h5 hz h,fun h=>ke2 h6 hz h,fun h=>ke2 h7 hz h⟩
   ·skip
    have hz:=hlt 3 (by decide);refine Z8 rfl rfl (Y0 (.tmp 20) (Or.inl rfl) ?_);rw [Zc _ _ _ 20 rfl,e20];exact ⟨_,Z9 _ _ _ 268 _ rfl,(by rw [Zp hz (by decide)];exact hS),fun h=>ke2 h0 hz h,fun h=>ke2 h1 hz h,fun h=>ke2 h2 hz h,fun h=>Zb _ _ _,fun h=>ke2 h4 hz h,fun h=>ke2 h5 hz h,fun h=>ke2 h6 hz h,fun h=>ke2 h7 hz h⟩
   ·have d3:=h3 (Z7 hi (by decide))
    have hz:=hlt 4 (by decide);have ev268:(frame a0 [265,266,267,268,269,270,271,19] x).tmps[268]?.getD undef=.int .i64 ((bk:Nat):Int):=by have h:=(Z4 a0 [265,266,267,268,269,270,271,19] x 268 rfl (hsl 268 (by decide))).trans d3;simpa [Act.eval] using h
    refine Z8 rfl rfl (Zd (v:=.int .i64 (M:Int)) ?_ ?_)
    ·obtain ⟨aa,haa⟩:∃ aa,aa=frame a0 [265,266,267,268,269,270,271,19] x:=⟨_,rfl⟩
     rw [<-haa] at ev268 ⊢;clear haa;go_simp;rw [IntKind.wrap_i64];omega
    exact ⟨_,Z9 _ _ _ 269 _ rfl,(by rw [Zp hz (by decide)];exact hS),fun h=>ke2 h0 hz h,fun h=>ke2 h1 hz h,fun h=>ke2 h2 hz h,fun h=>ke2 h3 hz h,fun h=>Zb _ _ _,fun h=>ke2 h5 hz h,fun h=>ke2 h6 hz h,fun h=>ke2 h7 hz h⟩
   ·have d2:=h2 (Z7 hi (by decide))
    have d4:=h4 (Z7 hi (by decide));have hz:=hlt 5 (by decide);have ev267:=(Z4 a0 [265,266,267,268,269,270,271,19] x 267 rfl (hsl 267 (by decide))).trans d2;have ev269:=(Z4 a0 [265,266,267,268,269,270,271,19] x 269 rfl (hsl 269 (by decide))).trans d4;refine Z8 rfl rfl (Y4 (N:=53) rfl (fun _ _=>by go_simp) #[.pointer (some ⟨c.g,0,none⟩),.int .i64 (M:Int)] (by simp only [List.map_toArray,List.map_cons,List.map_nil,ev267,ev269]) ?_);have hb5:L.getD 5 false=false:=by have h9:=(Zx hsL hi).2;rw [Array.getD_eq_getD_getElem?,h9];rfl
    rw [hb5] at hS;have hS0:c.N w' d X:=hS;refine Calls.mono (DC.N.pick hS0 hc M (by omega) (by omega) (by omega)) ?_;rw [<-HPD.out];rintro e w2 ⟨rfl,hd⟩;refine ⟨_,rfl,?_⟩;exact ⟨_,Z9 _ _ _ 270 _ rfl,(by rw [Yo hz];exact hd),fun h=>ke2 h0 hz h,fun h=>ke2 h1 hz h,fun h=>ke2 h2 hz h,fun h=>ke2 h3 hz h,fun h=>ke2 h4 hz h,fun h=>Zb _ _ _,fun h=>ke2 h6 hz h,fun h=>ke2 h7 hz h⟩
   ·have d1:=h1 (Z7 hi (by decide))
    have d5:=h5 (Z7 hi (by decide));have hz:=hlt 6 (by decide);have ev266:(frame a0 [265,266,267,268,269,270,271,19] x).tmps[266]?.getD undef=.int .i64 d.n.nw:=by have h:=(Z4 a0 [265,266,267,268,269,270,271,19] x 266 rfl (hsl 266 (by decide))).trans d1;simpa [Act.eval] using h
    have ev270:(frame a0 [265,266,267,268,269,270,271,19] x).tmps[270]?.getD undef=.int .i64 (pD:Int):=by have h:=(Z4 a0 [265,266,267,268,269,270,271,19] x 270 rfl (hsl 270 (by decide))).trans d5;simpa [Act.eval] using h
    refine Z8 rfl rfl (Zd (v:=.int .i64 (d.n.nw-(pD:Int))) ?_ ?_)
    ·obtain ⟨aa,haa⟩:∃ aa,aa=frame a0 [265,266,267,268,269,270,271,19] x:=⟨_,rfl⟩
     rw [<-haa] at ev266 ev270 ⊢;clear haa;go_simp;rw [IntKind.wrap_i64];omega
    exact ⟨_,Z9 _ _ _ 271 _ rfl,(by rw [Zp hz (by decide)];exact hS),fun h=>ke2 h0 hz h,fun h=>ke2 h1 hz h,fun h=>ke2 h2 hz h,fun h=>ke2 h3 hz h,fun h=>ke2 h4 hz h,fun h=>ke2 h5 hz h,fun h=>Zb _ _ _,fun h=>ke2 h7 hz h⟩
   ·have d6:=h6 (Z7 hi (by decide))
    have hz:=hlt 7 (by decide);have ev271:(frame a0 [265,266,267,268,269,270,271,19] x).tmps[271]?.getD undef=.int .i64 (d.n.nw-(pD:Int)):=by have h:=(Z4 a0 [265,266,267,268,269,270,271,19] x 271 rfl (hsl 271 (by decide))).trans d6;simpa [Act.eval] using h
    refine Z8 rfl rfl (Zd (v:=.int .i64 (d.n.nw-(pD:Int))) ?_ ?_)
    ·obtain ⟨aa,haa⟩:∃ aa,aa=frame a0 [265,266,267,268,269,270,271,19] x:=⟨_,rfl⟩
     rw [<-haa] at ev271 ⊢;clear haa;go_simp
    exact ⟨_,Z9 _ _ _ 19 _ rfl,(by rw [Zp hz (by decide)];exact hS),fun h=>ke2 h0 hz h,fun h=>ke2 h1 hz h,fun h=>ke2 h2 hz h,fun h=>ke2 h3 hz h,fun h=>ke2 h4 hz h,fun h=>ke2 h5 hz h,fun h=>ke2 h6 hz h,fun h=>Zb _ _ _⟩
  ·rintro L a w' hsL hr ⟨x,rfl,hS,h0,h1,h2,h3,h4,h5,h6,h7⟩
   have hall:=Yq hsL hr (by decide);replace h0:=h0 (hall 0 (by decide));replace h1:=h1 (hall 1 (by decide));replace h2:=h2 (hall 2 (by decide));replace h3:=h3 (hall 3 (by decide));replace h4:=h4 (hall 4 (by decide));replace h5:=h5 (hall 5 (by decide));replace h6:=h6 (hall 6 (by decide));replace h7:=h7 (hall 7 (by decide));rw [hall 5 (by decide)] at hS;exact ⟨rfl,x,rfl,⟨hS,h7⟩⟩
 ·rintro a' w' ⟨x,rfl,hFin⟩
  exact hP _ _ (hF.frame _ _ (by decide)) ((Zc a [265,266,267,268,269,270,271,19] x 15 rfl).trans h15) ((Zc a [265,266,267,268,269,270,271,19] x 16 rfl).trans h16) ((Zc a [265,266,267,268,269,270,271,19] x 17 rfl).trans h17) ((Zc a [265,266,267,268,269,270,271,19] x 18 rfl).trans h18) ((Z4 a [265,266,267,268,269,270,271,19] x 19 rfl (by rw [hF.sz];decide)).trans hFin.2) hFin.1
theorem dnL64 (hc:c.Ok){m:Nat}(hm0:m<=899000000)(hb:DB d m){e:Int}(hle:d.n.nx.length<=1000){e15:Value}(h15:a.eval (.tmp 15)=e15){e17:Value}(h17:a.eval (.tmp 17)=e17){e18:Value}(h18:a.eval (.tmp 18)=e18){e19:Value}(h19:a.eval (.tmp 19)=e19)(h16:a.eval (.tmp 16)=.int .i64 e)(hF:c.Fr a)(hS:c.N w d X)(hP:∀ a' w' x',c.Fr a'->a'.eval (.tmp 15)=e15->a'.eval (.tmp 17)=e17->a'.eval (.tmp 18)=e18->a'.eval (.tmp 19)=e19->c.N w' ⟨{ d.n with nx:=d.n.nx ++ [e] },d.k⟩ x'->K a' w'):(Z1 2 (Zn (Z1 1 (Y6 (Zn (Z2 4 (Zj (Z2 1 (Z1 18 (Z3 Tryz.f51)))))))))).wp Tryz.prog (Exit.then K Q) a w:=by
 obtain ⟨t,rfl⟩:=hF.opened;have hsz:=hc.sz;have hel:=hc.el;have hid:=hc.id;have hnw:=hb.nw;have hkb:=hb.k;have hlg:=hb.lg;clear hF;have HS:Hid (c.N w d X):=hS;clear hS;rw [show t 16=.int .i64 e from h16];rw [show t 15=e15 from h15];rw [show t 17=e17 from h17];rw [show t 18=e18 from h18];rw [show t 19=e19 from h19];clear h16 h15 h17 h18 h19;obtain ⟨ga,gc,hvg⟩:=HS.out.nxOwn.shape;have Hv:Hid (X.vn=.slice ga d.n.nx.length gc):=hvg;have c13:w.cell? ⟨c.b9,14,none⟩=some (.slice ga d.n.nx.length gc):=by rw [<-Hv.out];exact HS.out.blk.cell 14
 have HO:Hid (Zs inC 1 3 w c.w0.heap.size (.slice ga d.n.nx.length gc) d.n.nx):=by unfold Hid;rw [<-Hv.out];exact HS.out.nxOwn
 have hw0:=HS.out.wsize;clear hvg
 conv=>arg 2;whnf
 go_wp2_with (at_builtin;refine J8 Jh rfl (.tmp 273) (.tmp 275) rfl e (HO.out.below ((Below.refl _ _).alloc (Nat.le_refl _) _)) rfl (w.heap.size) 1 (Blk.new _ _ _).range rfl (by omega) (by simp;omega) ?_;intro v2 w2 ho2 hg2;obtain ⟨a2,n2,c2,hv2⟩:∃ a n c,v2=.slice a n c:=(by obtain ⟨a,c,e⟩:=ho2.shape;exact ⟨a,_,c,e⟩);subst hv2;have HO2:Hid (Zs inC 1 3 w2 c.w0.heap.size (.slice a2 n2 c2) (d.n.nx ++ [e])):=ho2;have HG2:Hid (Xe (w.alloc (.cells #[.int .i64 e] 3)) X.vn w2 (.slice a2 n2 c2)):=(by unfold Hid;rw [Hv.out];exact hg2);have hB:=HS.out.nxBlk ((Below.refl _ _).alloc (Nat.le_refl _) _) ho2 HG2.out;have cb2:w2.cell? ⟨c.b9,14,none⟩=some (.slice ga d.n.nx.length gc):=(by rw [<-Hv.out];exact hB.cell 14);have fb2:w2.frozen? ⟨c.b9,14,none⟩=false:=hB.free 14;clear ho2 hg2 hB)
 exact hP _ _ _ ⟨rfl,rfl,rfl,rfl,rfl,rfl,rfl,rfl,rfl⟩ rfl rfl rfl rfl (HS.out.nxNew ((Below.refl _ _).alloc (Nat.le_refl _) _) HO2.out HG2.out)
theorem dnL65 (hc:c.Ok){m:Nat}(hm0:m<=899000000)(hb:DB d m){e:Int}(hle:d.n.mt.length<=1000){e15:Value}(h15:a.eval (.tmp 15)=e15){e18:Value}(h18:a.eval (.tmp 18)=e18){e19:Value}(h19:a.eval (.tmp 19)=e19)(h17:a.eval (.tmp 17)=.int .i64 e)(hF:c.Fr a)(hS:c.N w d X)(hP:∀ a' w' x',c.Fr a'->a'.eval (.tmp 15)=e15->a'.eval (.tmp 18)=e18->a'.eval (.tmp 19)=e19->c.N w' ⟨{ d.n with mt:=d.n.mt ++ [e] },d.k⟩ x'->K a' w'):(Z1 3 (Zn (Z1 1 (Y6 (Zn (Z2 4 (Zj (Z2 1 (Z1 18 (Z3 Tryz.f51)))))))))).wp Tryz.prog (Exit.then K Q) a w:=by
 obtain ⟨t,rfl⟩:=hF.opened;have hsz:=hc.sz;have hel:=hc.el;have hid:=hc.id;have hnw:=hb.nw;have hkb:=hb.k;have hlg:=hb.lg;clear hF;have HS:Hid (c.N w d X):=hS;clear hS;rw [show t 17=.int .i64 e from h17];rw [show t 15=e15 from h15];rw [show t 18=e18 from h18];rw [show t 19=e19 from h19];clear h17 h15 h18 h19;obtain ⟨ga,gc,hvg⟩:=HS.out.mtOwn.shape;have Hv:Hid (X.vm=.slice ga d.n.mt.length gc):=hvg;have c13:w.cell? ⟨c.b9,15,none⟩=some (.slice ga d.n.mt.length gc):=by rw [<-Hv.out];exact HS.out.blk.cell 15
 have HO:Hid (Zs inC 1 3 w c.w0.heap.size (.slice ga d.n.mt.length gc) d.n.mt):=by unfold Hid;rw [<-Hv.out];exact HS.out.mtOwn
 have hw0:=HS.out.wsize;clear hvg
 conv=>arg 2;whnf
 go_wp2_with (at_builtin;refine J8 Jh rfl (.tmp 279) (.tmp 281) rfl e (HO.out.below ((Below.refl _ _).alloc (Nat.le_refl _) _)) rfl (w.heap.size) 1 (Blk.new _ _ _).range rfl (by omega) (by simp;omega) ?_;intro v2 w2 ho2 hg2;obtain ⟨a2,n2,c2,hv2⟩:∃ a n c,v2=.slice a n c:=(by obtain ⟨a,c,e⟩:=ho2.shape;exact ⟨a,_,c,e⟩);subst hv2;have HO2:Hid (Zs inC 1 3 w2 c.w0.heap.size (.slice a2 n2 c2) (d.n.mt ++ [e])):=ho2;have HG2:Hid (Xe (w.alloc (.cells #[.int .i64 e] 3)) X.vm w2 (.slice a2 n2 c2)):=(by unfold Hid;rw [Hv.out];exact hg2);have hB:=HS.out.mtBlk ((Below.refl _ _).alloc (Nat.le_refl _) _) ho2 HG2.out;have cb2:w2.cell? ⟨c.b9,15,none⟩=some (.slice ga d.n.mt.length gc):=(by rw [<-Hv.out];exact hB.cell 15);have fb2:w2.frozen? ⟨c.b9,15,none⟩=false:=hB.free 15;clear ho2 hg2 hB)
 exact hP _ _ _ ⟨rfl,rfl,rfl,rfl,rfl,rfl,rfl,rfl,rfl⟩ rfl rfl rfl (HS.out.mtNew ((Below.refl _ _).alloc (Nat.le_refl _) _) HO2.out HG2.out)
theorem dnL66 (hc:c.Ok){m:Nat}(hm0:m<=899000000)(hb:DB d m){e:Int}(hle:d.n.se.length<=1000){e15:Value}(h15:a.eval (.tmp 15)=e15){e19:Value}(h19:a.eval (.tmp 19)=e19)(h18:a.eval (.tmp 18)=.int .i64 e)(hF:c.Fr a)(hS:c.N w d X)(hP:∀ a' w' x',c.Fr a'->a'.eval (.tmp 15)=e15->a'.eval (.tmp 19)=e19->c.N w' ⟨{ d.n with se:=d.n.se ++ [e] },d.k⟩ x'->K a' w'):(Z1 4 (Zn (Z1 1 (Y6 (Zn (Z2 4 (Zj (Z2 1 (Z1 18 (Z3 Tryz.f51)))))))))).wp Tryz.prog (Exit.then K Q) a w:=by
 obtain ⟨t,rfl⟩:=hF.opened;have hsz:=hc.sz;have hel:=hc.el;have hid:=hc.id;have hnw:=hb.nw;have hkb:=hb.k;have hlg:=hb.lg;clear hF;have HS:Hid (c.N w d X):=hS;clear hS;rw [show t 18=.int .i64 e from h18];rw [show t 15=e15 from h15];rw [show t 19=e19 from h19];clear h18 h15 h19;obtain ⟨ga,gc,hvg⟩:=HS.out.seOwn.shape;have Hv:Hid (X.vs=.slice ga d.n.se.length gc):=hvg;have c13:w.cell? ⟨c.b9,16,none⟩=some (.slice ga d.n.se.length gc):=by rw [<-Hv.out];exact HS.out.blk.cell 16
 have HO:Hid (Zs inC 1 3 w c.w0.heap.size (.slice ga d.n.se.length gc) d.n.se):=by unfold Hid;rw [<-Hv.out];exact HS.out.seOwn
 have hw0:=HS.out.wsize;clear hvg
 conv=>arg 2;whnf
 go_wp2_with (at_builtin;refine J8 Jh rfl (.tmp 285) (.tmp 287) rfl e (HO.out.below ((Below.refl _ _).alloc (Nat.le_refl _) _)) rfl (w.heap.size) 1 (Blk.new _ _ _).range rfl (by omega) (by simp;omega) ?_;intro v2 w2 ho2 hg2;obtain ⟨a2,n2,c2,hv2⟩:∃ a n c,v2=.slice a n c:=(by obtain ⟨a,c,e⟩:=ho2.shape;exact ⟨a,_,c,e⟩);subst hv2;have HO2:Hid (Zs inC 1 3 w2 c.w0.heap.size (.slice a2 n2 c2) (d.n.se ++ [e])):=ho2;have HG2:Hid (Xe (w.alloc (.cells #[.int .i64 e] 3)) X.vs w2 (.slice a2 n2 c2)):=(by unfold Hid;rw [Hv.out];exact hg2);have hB:=HS.out.seBlk ((Below.refl _ _).alloc (Nat.le_refl _) _) ho2 HG2.out;have cb2:w2.cell? ⟨c.b9,16,none⟩=some (.slice ga d.n.se.length gc):=(by rw [<-Hv.out];exact hB.cell 16);have fb2:w2.frozen? ⟨c.b9,16,none⟩=false:=hB.free 16;clear ho2 hg2 hB)
 exact hP _ _ _ ⟨rfl,rfl,rfl,rfl,rfl,rfl,rfl,rfl,rfl⟩ rfl rfl (HS.out.seNew ((Below.refl _ _).alloc (Nat.le_refl _) _) HO2.out HG2.out)
theorem dnL67 (hc:c.Ok){m:Nat}(hm0:m<=899000000)(hb:DB d m){e:Int}(hle:d.n.st.length<=1000){e15:Value}(h15:a.eval (.tmp 15)=e15)(h19:a.eval (.tmp 19)=.int .i64 e)(hF:c.Fr a)(hS:c.N w d X)(hP:∀ a' w' x',c.Fr a'->a'.eval (.tmp 15)=e15->c.N w' ⟨{ d.n with st:=d.n.st ++ [e] },d.k⟩ x'->K a' w'):(Z2 5 (Zn (Z1 1 (Y6 (Zn (Z2 4 (Zj (Z2 1 (Z1 18 (Z3 Tryz.f51)))))))))).wp Tryz.prog (Exit.then K Q) a w:=by
 obtain ⟨t,rfl⟩:=hF.opened;have hsz:=hc.sz;have hel:=hc.el;have hid:=hc.id;have hnw:=hb.nw;have hkb:=hb.k;have hlg:=hb.lg;clear hF;have HS:Hid (c.N w d X):=hS;clear hS;rw [show t 19=.int .i64 e from h19];rw [show t 15=e15 from h15];clear h19 h15;obtain ⟨ga,gc,hvg⟩:=HS.out.stOwn.shape;have Hv:Hid (X.vt=.slice ga d.n.st.length gc):=hvg;have c13:w.cell? ⟨c.b9,17,none⟩=some (.slice ga d.n.st.length gc):=by rw [<-Hv.out];exact HS.out.blk.cell 17
 have HO:Hid (Zs inC 1 3 w c.w0.heap.size (.slice ga d.n.st.length gc) d.n.st):=by unfold Hid;rw [<-Hv.out];exact HS.out.stOwn
 have hw0:=HS.out.wsize;clear hvg
 conv=>arg 2;whnf
 go_wp2_with (at_builtin;refine J8 Jh rfl (.tmp 291) (.tmp 293) rfl e (HO.out.below ((Below.refl _ _).alloc (Nat.le_refl _) _)) rfl (w.heap.size) 1 (Blk.new _ _ _).range rfl (by omega) (by simp;omega) ?_;intro v2 w2 ho2 hg2;obtain ⟨a2,n2,c2,hv2⟩:∃ a n c,v2=.slice a n c:=(by obtain ⟨a,c,e⟩:=ho2.shape;exact ⟨a,_,c,e⟩);subst hv2;have HO2:Hid (Zs inC 1 3 w2 c.w0.heap.size (.slice a2 n2 c2) (d.n.st ++ [e])):=ho2;have HG2:Hid (Xe (w.alloc (.cells #[.int .i64 e] 3)) X.vt w2 (.slice a2 n2 c2)):=(by unfold Hid;rw [Hv.out];exact hg2);have hB:=HS.out.stBlk ((Below.refl _ _).alloc (Nat.le_refl _) _) ho2 HG2.out;have cb2:w2.cell? ⟨c.b9,17,none⟩=some (.slice ga d.n.st.length gc):=(by rw [<-Hv.out];exact hB.cell 17);have fb2:w2.frozen? ⟨c.b9,17,none⟩=false:=hB.free 17;clear ho2 hg2 hB)
 exact hP _ _ _ ⟨rfl,rfl,rfl,rfl,rfl,rfl,rfl,rfl,rfl⟩ rfl (HS.out.stNew ((Below.refl _ _).alloc (Nat.le_refl _) _) HO2.out HG2.out)
theorem dnL54 (hc:c.Ok){m:Nat}(hm0:m<=899000000)(hb:DB d m){j:Nat}(hj:j<c.SZ)(h15:a.eval (.tmp 15)=.int .i64 ((j:Int)+1))(hF:c.Fr a)(hS:c.N w d X)(hP:∀ a' w',c.Fr a'->a'.eval (.tmp 15)=.int .i64 ((j:Int)+1+1)->c.N w' d X->K a' w'):(Z2 2 (Y6 (Zn (Z2 4 (Zj (Z2 1 (Z1 18 (Z3 Tryz.f51)))))))).wp Tryz.prog (Exit.then K Q) a w:=by
 obtain ⟨t,rfl⟩:=hF.opened;have hsz:=hc.sz;have hel:=hc.el;have hid:=hc.id;have hnw:=hb.nw;have hkb:=hb.k;have hlg:=hb.lg;clear hF;have HS:Hid (c.N w d X):=hS;clear hS;rw [show t 15=.int .i64 ((j:Int)+1) from h15];clear h15
 conv=>arg 2;whnf
 go_wp2_with fail
 exact hP _ _ ⟨rfl,rfl,rfl,rfl,rfl,rfl,rfl,rfl,rfl⟩ rfl HS.out
end
section
variable {Q:Exit->Act->World->Prop} {K:Act->World->Prop} {c:DC} {d:DnS} {X:RV} {a:Act} {w:World}
theorem dnG3 {s0:DnG}(hc:c.Ok){m:Nat}(hm0:m<=890000000)(hb:DB d m)(hs0:s0.gr.length<=100)(hs1:s0.ex<=100)(hs2:s0.k<=890000000)(hF:c.Fr a)(h12:a.eval (.tmp 12)=.int .i64 1)(h11:a.eval (.tmp 11)=.int .i64 (s0.ex:Nat))(hS:c.N w ⟨{ d.n with gr:=s0.gr },s0.k⟩ X)(hK:∀ a' w' x',c.Fr a'->c.N w' ⟨{ d.n with gr:=(Xw c.l c.ID s0 c.SZ).gr },(Xw c.l c.ID s0 c.SZ).k⟩ x'->K a' w'):(Z2 2 (Zj (Z2 1 (Z1 17 (Z3 Tryz.f51))))).wp Tryz.prog (Exit.then K Q) a w:=by
 have hsz:=hc.sz;rw [show Z2 2 (Zj (Z2 1 (Z1 17 (Z3 Tryz.f51))))=.block 0 (.loop (Y6 (Zn (Z2 2 (Zj (Z2 1 (Z1 17 (Z3 Tryz.f51)))))))) from rfl];refine wp_block ?_;refine wp_loop (fun a w=>∃(j:Nat) (x:RV),j<=c.SZ/\c.Fr a/\a.eval (.tmp 12)=.int .i64 ((j:Int)+1)/\a.eval (.tmp 11)=.int .i64 ((Xw c.l c.ID s0 j).ex:Nat)/\c.N w ⟨{ d.n with gr:=(Xw c.l c.ID s0 j).gr },(Xw c.l c.ID s0 j).k⟩ x) (fun a _=>c.SZ+1-(intOf (a.eval (.tmp 12))).toNat) ⟨0,X,Nat.zero_le _,hF,h12,h11,hS⟩ ?_;rintro a1 w1 ⟨j,x,hj,f1,g12,g11,s1⟩;have hle:=dnGrK_le c.l c.ID s0 j;rcases Nat.lt_or_ge j c.SZ with hlt | hge
 ·refine dnG1 (d:=d) (s:=Xw c.l c.ID s0 j) hc (by omega) hb hlt (by omega) (by omega) (by omega) f1 g12 g11 s1 ?_
  intro a' w' x' f2 k12 k11 s2;refine ⟨⟨j+1,x',by omega,f2,by rw [k12];rfl,k11,s2⟩,?_⟩;rw [k12,g12];simp only [intOf];omega
 ·have he:j=c.SZ:=by omega
  subst he;refine dnG2 (d:=⟨{ d.n with gr:=(Xw c.l c.ID s0 c.SZ).gr },(Xw c.l c.ID s0 c.SZ).k⟩) (e11:=undef) hc (m:=895000000) (by omega) ⟨by show (Xw c.l c.ID s0 c.SZ).k<=_;omega,hb.nw,hb.lg,hb.tm⟩ f1 g12 s1 ?_;intro a' f2;exact hK a' w1 x f2 s1
theorem dnI17 (hc:c.Ok){m:Nat}(hm0:m<=880000000)(hb:DB d m)(hg:d.n.gr.length<=100)(hF:c.Fr a)(hS:c.N w d X)(hK:∀ a' w' x',c.Fr a'->c.N w' (J9 c.l c.h d) x'->K a' w'):(Z1 17 (Z3 Tryz.f51)).wp Tryz.prog (Exit.then K Q) a w:=by
 have hsz:=hc.sz;have hkb:=hb.k;rw [show Z1 17 (Z3 Tryz.f51)=.seq (Z1 0 (Z1 17 (Z3 Tryz.f51))) (.cond (.tmp 156) (Zj (Z2 1 (Z1 17 (Z3 Tryz.f51)))) .skip) from rfl];refine wp_seq_k ?_;intro K2 hK2;refine dnR33 hc (by omega) hb hF hS fun a1 w1 f1 h1=>hK2 _ _ ?_
 refine wp_cond h1.2 ?_;unfold J9 at hK;by_cases h:d.n.ro=1∨d.n.ro=2
 ·simp only [h,decide_true,if_true] at hK ⊢
  rw [show Zj (Z2 1 (Z1 17 (Z3 Tryz.f51)))=.seq (Z1 0 (Zj (Z2 1 (Z1 17 (Z3 Tryz.f51))))) (.seq (Z1 1 (Zj (Z2 1 (Z1 17 (Z3 Tryz.f51))))) (Z2 2 (Zj (Z2 1 (Z1 17 (Z3 Tryz.f51)))))) from rfl];refine wp_seq_k ?_;intro K3 hK3;refine dnR34 hc (by omega) hb f1 h1.1 fun a2 w2 f2 h2=>hK3 _ _ ?_
  refine wp_seq_k ?_;intro K4 hK4;have hp:=Zf c.l d.k (c.SZ / 2) (by omega);refine dnR35 (d:=⟨d.n,d.k+1⟩) hc (m:=m+1) (by omega) (hb.step 1 (Nat.le_refl _) rfl rfl rfl) h2.2 f2 h2.1 fun a3 w3 f3 h3=>hK4 _ _ ?_
  exact dnG3 (d:=d) (s0:=⟨d.n.gr,Z5 c.l d.k (c.SZ / 2),d.k+1⟩) hc (m:=m) (by omega) hb hg (by show Z5 c.l d.k (c.SZ / 2)<=100;omega) (by show d.k+1<=_;omega) f3 h3.2.2 h3.2.1 h3.1 hK
 ·simp only [h,decide_false,if_false,Bool.false_eq_true] at hK ⊢
  exact wp_skip (hK _ _ _ f1 h1.1)
def Z19 (l:List Int)(h:DnH)(LN:Nat)(nw:Int)(r:DnR)(j:Nat):DnR:=
  if j+1=h.id then ⟨r.nx ++ [0],r.mt ++ [0],r.se ++ [0],r.st ++ [0],r.k⟩
  else
   let m6:=min LN 6+1
   let next:Nat:=LN+1-Z5 l r.k m6
   let k1:=r.k+1
   let mt0:=Z5 l k1 next
   let k2:=k1+Zm next
   let mt:Int:=if Z5 l k2 2=0 then (next:Int)-1 else mt0
   let bk:=min nw.toNat (h.el+2)+1
   let se:Int:=nw-(Z5 l (k2+1) bk:Nat)
   let st:Int:=nw-(Z5 l (k2+1+Zm bk) bk:Nat)
   ⟨r.nx ++ [(next:Int)],r.mt ++ [mt],r.se ++ [se],r.st ++ [st],k2+1+Zm bk+Zm bk⟩
theorem Z26 (l:List Int)(h:DnH)(LN:Nat)(nw:Int)(s:DnR)(j:Nat):Xj l h LN nw s (j+1)=Z19 l h LN nw (Xj l h LN nw s j) j:=rfl
theorem X7 (m:Nat):Zm m<=10:=Nat.le_trans (Z2p m) (by decide)
theorem Z2c (l:List Int)(h:DnH)(LN:Nat)(nw:Int)(s:DnR):∀ j,(Xj l h LN nw s j).nx.length=s.nx.length+j/\(Xj l h LN nw s j).mt.length=s.mt.length+j/\(Xj l h LN nw s j).se.length=s.se.length+j/\(Xj l h LN nw s j).st.length=s.st.length+j/\(Xj l h LN nw s j).k<=s.k+40*j
 | 0=>⟨rfl,rfl,rfl,rfl,Nat.le_refl _⟩
 | j+1=>by
  have ih:=Z2c l h LN nw s j;rw [Z26];unfold Z19;generalize Xj l h LN nw s j=r at *;split
  ·simp only [List.length_append,List.length_singleton]
   omega
  ·simp only [List.length_append,List.length_singleton]
   have p1:=X7 (LN+1-Z5 l r.k (min LN 6+1));have p2:=X7 (min nw.toNat (h.el+2)+1);omega
def ndL (n:Nd)(r:DnR):Nd:={ n with nx:=r.nx,mt:=r.mt,se:=r.se,st:=r.st }
theorem dnLY {j:Nat}(hc:c.Ok){m:Nat}(hm0:m<=890000000)(hb:DB d m)(hj:j<c.SZ)(hi:j+1≠c.ID){e16 e17 e18 e19:Value}(hF:c.Fr a)(h15:a.eval (.tmp 15)=.int .i64 ((j:Int)+1))(hS:c.N w d X)(hK:∀ a' w',c.Fr a'->a'.eval (.tmp 15)=.int .i64 ((j:Int)+1)->a'.eval (.tmp 16)=.int .i64 ((d.n.log.length+1-Z5 c.l d.k (min d.n.log.length 6+1):Nat):Int)->a'.eval (.tmp 17)=.int .i64 (if Z5 c.l (d.k+1+Zm (d.n.log.length+1-Z5 c.l d.k (min d.n.log.length 6+1))) 2=0 then ((d.n.log.length+1-Z5 c.l d.k (min d.n.log.length 6+1):Nat):Int)-1 else ((Z5 c.l (d.k+1) (d.n.log.length+1-Z5 c.l d.k (min d.n.log.length 6+1)):Nat):Int))->a'.eval (.tmp 18)=.int .i64 (d.n.nw-((Z5 c.l (d.k+1+Zm (d.n.log.length+1-Z5 c.l d.k (min d.n.log.length 6+1))+1) (min d.n.nw.toNat (c.EL+2)+1):Nat):Int))->a'.eval (.tmp 19)=.int .i64 (d.n.nw-((Z5 c.l (d.k+1+Zm (d.n.log.length+1-Z5 c.l d.k (min d.n.log.length 6+1))+1+Zm (min d.n.nw.toNat (c.EL+2)+1)) (min d.n.nw.toNat (c.EL+2)+1):Nat):Int))->c.N w' ⟨d.n,d.k+1+Zm (d.n.log.length+1-Z5 c.l d.k (min d.n.log.length 6+1))+1+Zm (min d.n.nw.toNat (c.EL+2)+1)+Zm (min d.n.nw.toNat (c.EL+2)+1)⟩ X->K a' w'):(Zj (Z2 1 (Z1 1 (Zn (Z1 1 (Y6 (Zn (Z2 4 (Zj (Z2 1 (Z1 18 (Z3 Tryz.f51)))))))))))).wp Tryz.prog (Exit.then K Q) a w:=by
 have hkb:=hb.k;have hlg:=hb.lg;have hel:=hc.el;have hp0:=Zf c.l d.k (min d.n.log.length 6+1) (by omega);rw [show Zj (Z2 1 (Z1 1 (Zn (Z1 1 (Y6 (Zn (Z2 4 (Zj (Z2 1 (Z1 18 (Z3 Tryz.f51)))))))))))=.seq (Z1 0 (Zj (Z2 1 (Z1 1 (Zn (Z1 1 (Y6 (Zn (Z2 4 (Zj (Z2 1 (Z1 18 (Z3 Tryz.f51))))))))))))) (.seq (Z1 1 (Zj (Z2 1 (Z1 1 (Zn (Z1 1 (Y6 (Zn (Z2 4 (Zj (Z2 1 (Z1 18 (Z3 Tryz.f51))))))))))))) (.seq (Z1 2 (Zj (Z2 1 (Z1 1 (Zn (Z1 1 (Y6 (Zn (Z2 4 (Zj (Z2 1 (Z1 18 (Z3 Tryz.f51))))))))))))) (.seq (Z1 3 (Zj (Z2 1 (Z1 1 (Zn (Z1 1 (Y6 (Zn (Z2 4 (Zj (Z2 1 (Z1 18 (Z3 Tryz.f51))))))))))))) (.seq (Z1 4 (Zj (Z2 1 (Z1 1 (Zn (Z1 1 (Y6 (Zn (Z2 4 (Zj (Z2 1 (Z1 18 (Z3 Tryz.f51))))))))))))) (Z2 5 (Zj (Z2 1 (Z1 1 (Zn (Z1 1 (Y6 (Zn (Z2 4 (Zj (Z2 1 (Z1 18 (Z3 Tryz.f51))))))))))))))))) from rfl];refine wp_seq_k ?_;intro K1 hK1;refine dnL57 hc (by omega) hb h15 hF hS fun a1 w1 f1 g15 g16 s1=>hK1 _ _ ?_
 obtain ⟨NX,hNX⟩:∃ q,q=d.n.log.length+1-Z5 c.l d.k (min d.n.log.length 6+1):=⟨_,rfl⟩;rw [<-hNX] at hK g16;have pkN:=X7 NX;have pkB:=X7 (min d.n.nw.toNat (c.EL+2)+1);refine wp_seq_k ?_;intro K2 hK2;refine dnL58 (d:=⟨d.n,d.k+1⟩) (NX:=NX) hc (m:=m+1) (by omega) (hb.step 1 (Nat.le_refl _) rfl rfl rfl) (by omega) (by omega) g15 g16 f1 s1 fun a2 w2 f2 k15 k16 k17 s2=>hK2 _ _ ?_
 refine wp_seq_k ?_;intro K3 hK3;have hb2:DB ⟨d.n,d.k+1+Zm NX⟩ (m+20):=hb.step 20 (by show d.k+1+Zm NX<=_;omega) rfl rfl rfl;have hb3:DB ⟨d.n,d.k+1+Zm NX+1⟩ (m+20):=hb.step 20 (by show d.k+1+Zm NX+1<=_;omega) rfl rfl rfl;rw [show Z1 2 (Zj (Z2 1 (Z1 1 (Zn (Z1 1 (Y6 (Zn (Z2 4 (Zj (Z2 1 (Z1 18 (Z3 Tryz.f51))))))))))))=.seq (Z1 0 (Z1 2 (Zj (Z2 1 (Z1 1 (Zn (Z1 1 (Y6 (Zn (Z2 4 (Zj (Z2 1 (Z1 18 (Z3 Tryz.f51)))))))))))))) (.cond (.tmp 250) (Zj (Z2 1 (Z1 2 (Zj (Z2 1 (Z1 1 (Zn (Z1 1 (Y6 (Zn (Z2 4 (Zj (Z2 1 (Z1 18 (Z3 Tryz.f51))))))))))))))) .skip) from rfl];refine wp_seq_k ?_;intro K4 hK4;refine dnL59 (d:=⟨d.n,d.k+1+Zm NX⟩) hc (m:=m+20) (by omega) hb2 k15 k16 k17 f2 s2 fun a3 w3 f3 l15 l16 l17 l250 s3=>hK4 _ _ ?_
 have hrest:∀ a4 w4,c.Fr a4->a4.eval (.tmp 15)=.int .i64 ((j:Int)+1)->a4.eval (.tmp 16)=.int .i64 ((NX:Nat):Int)->a4.eval (.tmp 17)=.int .i64 (if Z5 c.l (d.k+1+Zm NX) 2=0 then ((NX:Nat):Int)-1 else ((Z5 c.l (d.k+1) NX:Nat):Int))->c.N w4 ⟨d.n,d.k+1+Zm NX+1⟩ X->K3 a4 w4:=by
  intro a4 w4 f4 m15 m16 m17 s4;refine hK3 _ _ ?_;refine wp_seq_k ?_;intro K5 hK5;refine dnL61 (d:=⟨d.n,d.k+1+Zm NX+1⟩) hc (m:=m+20) (by omega) hb3 m15 m16 m17 f4 s4 fun a5 w5 f5 n15 n16 n17 n20 s5=>hK5 _ _ ?_
  refine wp_seq_k ?_;intro K6 hK6;have n20c:=n20;refine dnL62 (d:=⟨d.n,d.k+1+Zm NX+1⟩) (bk:=min d.n.nw.toNat (c.EL+2)) hc (m:=m+20) (by omega) hb3 (by omega) n15 n16 n17 n20 f5 s5 fun a6 w6 f6 o15 o16 o17 o20 o18 s6=>hK6 _ _ ?_
  refine dnL63 (d:=⟨d.n,d.k+1+Zm NX+1+Zm (min d.n.nw.toNat (c.EL+2)+1)⟩) (bk:=min d.n.nw.toNat (c.EL+2)) hc (m:=m+40) (by omega) (hb.step 40 (by show d.k+1+Zm NX+1+Zm (min d.n.nw.toNat (c.EL+2)+1)<=_;omega) rfl rfl rfl) (by omega) o15 o16 o17 o18 o20 f6 s6 fun a7 w7 f7 p15 p16 p17 p18 p19 s7=>?_
  exact hK _ _ f7 p15 p16 p17 p18 p19 s7
 refine wp_cond l250 ?_;by_cases h:Z5 c.l (d.k+1+Zm NX) 2=0
 ·simp only [h,decide_true,if_true] at hrest ⊢
  refine dnL60 (d:=⟨d.n,d.k+1+Zm NX+1⟩) (NX:=NX) hc (m:=m+20) (by omega) hb3 (by omega) (by omega) l15 l16 f3 s3 fun a4 w4 f4 m15 m16 m17 s4=>?_
  exact hrest _ _ f4 m15 m16 m17 s4
 ·simp only [h,decide_false,if_false,Bool.false_eq_true] at hrest ⊢
  exact wp_skip (hrest _ _ f3 l15 l16 l17 s3)
theorem dnLX {j:Nat}{r:DnR}(hc:c.Ok){m:Nat}(hm0:m<=890000000)(hb:DB d m)(hj:j<c.SZ)(h1:r.nx.length<=100)(h2:r.mt.length<=100)(h3:r.se.length<=100)(h4:r.st.length<=100)(hrk:r.k<=890000000)(hF:c.Fr a)(h15:a.eval (.tmp 15)=.int .i64 ((j:Int)+1))(hS:c.N w ⟨ndL d.n r,r.k⟩ X)(hK:∀ a' w' x',c.Fr a'->a'.eval (.tmp 15)=.int .i64 ((j:Int)+1+1)->c.N w' ⟨ndL d.n (Z19 c.l c.h d.n.log.length d.n.nw r j),(Z19 c.l c.h d.n.log.length d.n.nw r j).k⟩ x'->K a' w'):(Y6 (Zn (Z2 4 (Zj (Z2 1 (Z1 18 (Z3 Tryz.f51))))))).wp Tryz.prog (Exit.then K Q) a w:=by
 have hlg:=hb.lg;have hel:=hc.el;have hbr:∀ kk,kk<=895000000->∀ r':DnR,DB ⟨ndL d.n r',kk⟩ 895000000:=fun kk hk r'=>⟨hk,hb.nw,hb.lg,hb.tm⟩
 rw [show Y6 (Zn (Z2 4 (Zj (Z2 1 (Z1 18 (Z3 Tryz.f51))))))=.seq (Z1 0 (Y6 (Zn (Z2 4 (Zj (Z2 1 (Z1 18 (Z3 Tryz.f51)))))))) (.seq (.block 5 (Zn (Z1 1 (Y6 (Zn (Z2 4 (Zj (Z2 1 (Z1 18 (Z3 Tryz.f51)))))))))) (Z2 2 (Y6 (Zn (Z2 4 (Zj (Z2 1 (Z1 18 (Z3 Tryz.f51))))))))) from rfl];refine wp_seq_k ?_;intro K1 hK1;refine dnL53 (d:=⟨ndL d.n r,r.k⟩) hc (m:=895000000) (by omega) (hbr _ (by omega) r) hj h15 hF hS fun a1 w1 f1 g15 s1=>hK1 _ _ ?_
 refine wp_seq_k ?_;intro K2 hK2;refine wp_block ?_
 have hend:∀ a4 w4 kk e16 e17 e18 e19,kk<=895000000->c.Fr a4->a4.eval (.tmp 15)=.int .i64 ((j:Int)+1)->a4.eval (.tmp 16)=.int .i64 e16->a4.eval (.tmp 17)=.int .i64 e17->a4.eval (.tmp 18)=.int .i64 e18->a4.eval (.tmp 19)=.int .i64 e19->c.N w4 ⟨ndL d.n r,kk⟩ X->(∀ a' w' x',c.Fr a'->a'.eval (.tmp 15)=.int .i64 ((j:Int)+1+1)->c.N w' ⟨ndL d.n ⟨r.nx ++ [e16],r.mt ++ [e17],r.se ++ [e18],r.st ++ [e19],kk⟩,kk⟩ x'->K a' w')->(Code.seq (Z1 2 (Zn (Z1 1 (Y6 (Zn (Z2 4 (Zj (Z2 1 (Z1 18 (Z3 Tryz.f51)))))))))) (.seq (Z1 3 (Zn (Z1 1 (Y6 (Zn (Z2 4 (Zj (Z2 1 (Z1 18 (Z3 Tryz.f51)))))))))) (.seq (Z1 4 (Zn (Z1 1 (Y6 (Zn (Z2 4 (Zj (Z2 1 (Z1 18 (Z3 Tryz.f51)))))))))) (Z2 5 (Zn (Z1 1 (Y6 (Zn (Z2 4 (Zj (Z2 1 (Z1 18 (Z3 Tryz.f51))))))))))))).wp Tryz.prog (Exit.inBlock 5 (Exit.then K2 (Exit.then K Q))) a4 w4:=by
  intro a4 w4 kk e16 e17 e18 e19 hkk f4 m15 m16 m17 m18 m19 s4 hk;refine wp_seq_k ?_;intro K4 hK4;refine dnL64 (d:=⟨ndL d.n r,kk⟩) (e:=e16) hc (m:=895000000) (by omega) (hbr _ hkk r) (by show r.nx.length<=1000;omega) m15 m17 m18 m19 m16 f4 s4 fun a5 w5 x5 f5 n15 n17 n18 n19 s5=>hK4 _ _ ?_
  refine wp_seq_k ?_;intro K5 hK5;refine dnL65 (d:=⟨ndL d.n ⟨r.nx ++ [e16],r.mt,r.se,r.st,kk⟩,kk⟩) (e:=e17) hc (m:=895000000) (by omega) (hbr _ hkk ⟨r.nx ++ [e16],r.mt,r.se,r.st,kk⟩) (by show r.mt.length<=1000;omega) n15 n18 n19 n17 f5 s5 fun a6 w6 x6 f6 o15 o18 o19 s6=>hK5 _ _ ?_
  refine wp_seq_k ?_;intro K6 hK6;refine dnL66 (d:=⟨ndL d.n ⟨r.nx ++ [e16],r.mt ++ [e17],r.se,r.st,kk⟩,kk⟩) (e:=e18) hc (m:=895000000) (by omega) (hbr _ hkk ⟨r.nx ++ [e16],r.mt ++ [e17],r.se,r.st,kk⟩) (by show r.se.length<=1000;omega) o15 o19 o18 f6 s6 fun a7 w7 x7 f7 p15 p19 s7=>hK6 _ _ ?_
  refine wp_mono (Q:=Exit.then K2 (fun _ _ _=>False)) ?_ ?_
  ·refine dnL67 (d:=⟨ndL d.n ⟨r.nx ++ [e16],r.mt ++ [e17],r.se ++ [e18],r.st,kk⟩,kk⟩) (e:=e19) hc (m:=895000000) (by omega) (hbr _ hkk ⟨r.nx ++ [e16],r.mt ++ [e17],r.se ++ [e18],r.st,kk⟩) (by show r.st.length<=1000;omega) p15 p19 f7 s7 fun a8 w8 x8 f8 q15 s8=>?_
   refine hK2 _ _ ?_;refine dnL54 (d:=⟨ndL d.n ⟨r.nx ++ [e16],r.mt ++ [e17],r.se ++ [e18],r.st ++ [e19],kk⟩,kk⟩) hc (m:=895000000) (by omega) (hbr _ hkk ⟨r.nx ++ [e16],r.mt ++ [e17],r.se ++ [e18],r.st ++ [e19],kk⟩) hj q15 f8 s8 fun a9 w9 f9 r15 s9=>?_
   exact hk _ _ _ f9 r15 s9
  ·intro e a' w' h
   cases e with
   | normal=>exact h
   | exit id=>exact h.elim
   | goto l=>exact h.elim
   | ret=>exact h.elim
   | panic ch=>exact h.elim
   | outgrown=>exact h.elim
 rw [show Zn (Z1 1 (Y6 (Zn (Z2 4 (Zj (Z2 1 (Z1 18 (Z3 Tryz.f51))))))))=.seq (Z1 0 (Zn (Z1 1 (Y6 (Zn (Z2 4 (Zj (Z2 1 (Z1 18 (Z3 Tryz.f51)))))))))) (.seq (Z1 1 (Zn (Z1 1 (Y6 (Zn (Z2 4 (Zj (Z2 1 (Z1 18 (Z3 Tryz.f51)))))))))) (.seq (Z1 2 (Zn (Z1 1 (Y6 (Zn (Z2 4 (Zj (Z2 1 (Z1 18 (Z3 Tryz.f51)))))))))) (.seq (Z1 3 (Zn (Z1 1 (Y6 (Zn (Z2 4 (Zj (Z2 1 (Z1 18 (Z3 Tryz.f51)))))))))) (.seq (Z1 4 (Zn (Z1 1 (Y6 (Zn (Z2 4 (Zj (Z2 1 (Z1 18 (Z3 Tryz.f51)))))))))) (Z2 5 (Zn (Z1 1 (Y6 (Zn (Z2 4 (Zj (Z2 1 (Z1 18 (Z3 Tryz.f51)))))))))))))) from rfl];refine wp_seq_k ?_;intro K3 hK3;refine dnL55 (d:=⟨ndL d.n r,r.k⟩) hc (m:=895000000) (by omega) (hbr _ (by omega) r) g15 f1 s1 fun a2 w2 f2 k15 k16 k17 k18 k19 s2=>hK3 _ _ ?_
 refine wp_seq_k ?_;intro K4 hK4;rw [show Z1 1 (Zn (Z1 1 (Y6 (Zn (Z2 4 (Zj (Z2 1 (Z1 18 (Z3 Tryz.f51)))))))))=.seq (Z1 0 (Z1 1 (Zn (Z1 1 (Y6 (Zn (Z2 4 (Zj (Z2 1 (Z1 18 (Z3 Tryz.f51))))))))))) (.cond (.tmp 232) (Zj (Z2 1 (Z1 1 (Zn (Z1 1 (Y6 (Zn (Z2 4 (Zj (Z2 1 (Z1 18 (Z3 Tryz.f51)))))))))))) .skip) from rfl];refine wp_seq_k ?_;intro K5 hK5;refine dnL56 (d:=⟨ndL d.n r,r.k⟩) hc (m:=895000000) (by omega) (hbr _ (by omega) r) k16 k17 k18 k19 k15 f2 s2 fun a3 w3 f3 l16 l17 l18 l19 l15 l232 s3=>hK5 _ _ ?_
 refine wp_cond l232 ?_;by_cases hi:j+1=c.ID
 ·rw [show (decide (j+1≠c.ID))=false by simp [hi]]
  refine wp_skip (hK4 _ _ ?_);refine hend a3 w3 r.k 0 0 0 0 (by omega) f3 l15 l16 l17 l18 l19 s3 fun a' w' x' f' e' s'=>hK a' w' x' f' e' ?_
  rw [show Z19 c.l c.h d.n.log.length d.n.nw r j=⟨r.nx ++ [0],r.mt ++ [0],r.se ++ [0],r.st ++ [0],r.k⟩ by unfold Z19;rw [if_pos (show j+1=c.h.id from hi)]];exact s'
 ·rw [show (decide (j+1≠c.ID))=true by simp [hi]]
  have pkN:=X7 (d.n.log.length+1-Z5 c.l r.k (min d.n.log.length 6+1));have pkB:=X7 (min d.n.nw.toNat (c.EL+2)+1);refine dnLY (d:=⟨ndL d.n r,r.k⟩) (j:=j) (e16:=undef) (e17:=undef) (e18:=undef) (e19:=undef) hc (m:=890000000) (by omega) ⟨hrk,hb.nw,hb.lg,hb.tm⟩ hj hi f3 l15 s3 fun a4 w4 f4 m15 m16 m17 m18 m19 s4=>hK4 _ _ ?_
  refine hend a4 w4 _ _ _ _ _ ?_ f4 m15 m16 m17 m18 m19 s4 fun a' w' x' f' e' s'=>hK a' w' x' f' e' ?_
  ·show r.k+1+Zm (d.n.log.length+1-Z5 c.l r.k (min d.n.log.length 6+1))+1+Zm (min d.n.nw.toNat (c.EL+2)+1)+Zm (min d.n.nw.toNat (c.EL+2)+1)<=895000000
   omega
  ·have he:Z19 c.l c.h d.n.log.length d.n.nw r j=⟨r.nx ++ [((d.n.log.length+1-Z5 c.l r.k (min d.n.log.length 6+1):Nat):Int)],r.mt ++ [if Z5 c.l (r.k+1+Zm (d.n.log.length+1-Z5 c.l r.k (min d.n.log.length 6+1))) 2=0 then ((d.n.log.length+1-Z5 c.l r.k (min d.n.log.length 6+1):Nat):Int)-1 else ((Z5 c.l (r.k+1) (d.n.log.length+1-Z5 c.l r.k (min d.n.log.length 6+1)):Nat):Int)],r.se ++ [d.n.nw-((Z5 c.l (r.k+1+Zm (d.n.log.length+1-Z5 c.l r.k (min d.n.log.length 6+1))+1) (min d.n.nw.toNat (c.EL+2)+1):Nat):Int)],r.st ++ [d.n.nw-((Z5 c.l (r.k+1+Zm (d.n.log.length+1-Z5 c.l r.k (min d.n.log.length 6+1))+1+Zm (min d.n.nw.toNat (c.EL+2)+1)) (min d.n.nw.toNat (c.EL+2)+1):Nat):Int)],r.k+1+Zm (d.n.log.length+1-Z5 c.l r.k (min d.n.log.length 6+1))+1+Zm (min d.n.nw.toNat (c.EL+2)+1)+Zm (min d.n.nw.toNat (c.EL+2)+1)⟩:=by
    unfold Z19;rw [if_neg (show ¬ j+1=c.h.id from hi)];rfl
   rw [he];exact s'
theorem dnL3 {s0:DnR}(hc:c.Ok){m:Nat}(hm0:m<=890000000)(hb:DB d m)(h1:s0.nx.length<=50)(h2:s0.mt.length<=50)(h3:s0.se.length<=50)(h4:s0.st.length<=50)(hs2:s0.k<=889000000)(hF:c.Fr a)(h15:a.eval (.tmp 15)=.int .i64 1)(hS:c.N w ⟨ndL d.n s0,s0.k⟩ X)(hK:∀ a' w' x',c.Fr a'->c.N w' ⟨ndL d.n (Xj c.l c.h d.n.log.length d.n.nw s0 c.SZ),(Xj c.l c.h d.n.log.length d.n.nw s0 c.SZ).k⟩ x'->K a' w'):(Z2 4 (Zj (Z2 1 (Z1 18 (Z3 Tryz.f51))))).wp Tryz.prog (Exit.then K Q) a w:=by
 have hsz:=hc.sz;rw [show Z2 4 (Zj (Z2 1 (Z1 18 (Z3 Tryz.f51))))=.block 4 (.loop (Y6 (Zn (Z2 4 (Zj (Z2 1 (Z1 18 (Z3 Tryz.f51)))))))) from rfl];refine wp_block ?_;refine wp_loop (fun a w=>∃(j:Nat) (x:RV),j<=c.SZ/\c.Fr a/\a.eval (.tmp 15)=.int .i64 ((j:Int)+1)/\c.N w ⟨ndL d.n (Xj c.l c.h d.n.log.length d.n.nw s0 j),(Xj c.l c.h d.n.log.length d.n.nw s0 j).k⟩ x) (fun a _=>c.SZ+1-(intOf (a.eval (.tmp 15))).toNat) ⟨0,X,Nat.zero_le _,hF,h15,hS⟩ ?_;rintro a1 w1 ⟨j,x,hj,f1,g15,s1⟩;have hle:=Z2c c.l c.h d.n.log.length d.n.nw s0 j;rcases Nat.lt_or_ge j c.SZ with hlt | hge
 ·refine dnLX (d:=d) (r:=Xj c.l c.h d.n.log.length d.n.nw s0 j) hc (by omega) hb hlt (by omega) (by omega) (by omega) (by omega) (by omega) f1 g15 s1 ?_
  intro a' w' x' f2 k15 s2;refine ⟨⟨j+1,x',by omega,f2,by rw [k15];rfl,s2⟩,?_⟩;rw [k15,g15];simp only [intOf];omega
 ·have he:j=c.SZ:=by omega
  subst he;refine dnL0 (d:=⟨ndL d.n (Xj c.l c.h d.n.log.length d.n.nw s0 c.SZ),(Xj c.l c.h d.n.log.length d.n.nw s0 c.SZ).k⟩) hc (m:=895000000) (by omega) ⟨by show (Xj c.l c.h d.n.log.length d.n.nw s0 c.SZ).k<=_;omega,hb.nw,hb.lg,hb.tm⟩ f1 g15 ?_;intro a' f2;exact hK a' w1 x f2 s1
theorem dnR52 (hc:c.Ok){m:Nat}(hm0:m<=899000000)(hb:DB d m)(hF:c.Fr a)(hS:c.N w d X)(hK:∀ a' w',c.Fr a'->c.N w' d X/\a'.eval (.tmp 15)=.int .i64 1->K a' w'):(Z1 3 (Zj (Z2 1 (Z1 18 (Z3 Tryz.f51))))).wp Tryz.prog (Exit.then K Q) a w:=by
 obtain ⟨t,rfl⟩:=hF.opened;have hsz:=hc.sz;have hel:=hc.el;have hid:=hc.id;have hnw:=hb.nw;have hkb:=hb.k;have hlg:=hb.lg;clear hF;have HS:Hid (c.N w d X):=hS;clear hS
 conv=>arg 2;whnf
 go_wp2_with fail
 exact hK _ _ ⟨rfl,rfl,rfl,rfl,rfl,rfl,rfl,rfl,rfl⟩ ⟨HS.out,rfl⟩
theorem dnI18 (hc:c.Ok){m:Nat}(hm0:m<=880000000)(hb:DB d m)(h1:d.n.nx.length<=50)(h2:d.n.mt.length<=50)(h3:d.n.se.length<=50)(h4:d.n.st.length<=50)(hF:c.Fr a)(hS:c.N w d X)(hK:∀ a' w' x',c.Fr a'->c.N w' (Z0s c.l c.h d) x'->K a' w'):(Z1 18 (Z3 Tryz.f51)).wp Tryz.prog (Exit.then K Q) a w:=by
 have hsz:=hc.sz;have hkb:=hb.k;rw [show Z1 18 (Z3 Tryz.f51)=.seq (Z1 0 (Z1 18 (Z3 Tryz.f51))) (.cond (.tmp 192) (Zj (Z2 1 (Z1 18 (Z3 Tryz.f51)))) .skip) from rfl];refine wp_seq_k ?_;intro K2 hK2;refine dnR43 hc (by omega) hb hF hS fun a1 w1 f1 g1=>hK2 _ _ ?_
 refine wp_cond g1.2 ?_;unfold Z0s at hK;by_cases h:d.n.ro=3
 ·rw [if_pos h] at hK
  rw [if_pos (show decide (d.n.ro=3)=true by simp [h])];rw [show Zj (Z2 1 (Z1 18 (Z3 Tryz.f51)))=.seq (Z1 0 (Zj (Z2 1 (Z1 18 (Z3 Tryz.f51))))) (.seq (Z1 1 (Zj (Z2 1 (Z1 18 (Z3 Tryz.f51))))) (.seq (Z1 2 (Zj (Z2 1 (Z1 18 (Z3 Tryz.f51))))) (.seq (Z1 3 (Zj (Z2 1 (Z1 18 (Z3 Tryz.f51))))) (Z2 4 (Zj (Z2 1 (Z1 18 (Z3 Tryz.f51)))))))) from rfl];refine wp_seq_k ?_;intro K3 hK3;refine dnR44 hc (by omega) hb f1 g1.1 fun a2 w2 f2 g2=>hK3 _ _ ?_
  have hp:=Zf c.l d.k 4 (by omega);have hb1:DB ⟨d.n,d.k+1⟩ (m+1):=hb.step 1 (Nat.le_refl _) rfl rfl rfl;refine wp_seq_k ?_;intro K4 hK4;rw [show Z1 1 (Zj (Z2 1 (Z1 18 (Z3 Tryz.f51))))=.seq (Z1 0 (Z1 1 (Zj (Z2 1 (Z1 18 (Z3 Tryz.f51)))))) (Z2 1 (Z1 1 (Zj (Z2 1 (Z1 18 (Z3 Tryz.f51)))))) from rfl];refine wp_seq_k ?_;intro K5 hK5;refine dnR45 (d:=⟨d.n,d.k+1⟩) hc (m:=m+1) (by omega) hb1 g2.2 f2 g2.1 fun a3 w3 f3 g3=>hK5 _ _ ?_
  refine dnO3 (d:=⟨d.n,d.k+1⟩) (o:=Z5 c.l d.k 4) hc (m:=m+1) (by omega) hb1 (by omega) f3 g3.2.2 g3.2.1 g3.1 fun a4 w4 f4 s4=>hK4 _ _ ?_
  have hlen:=Jz d.n.tm d.n.log (Z5 c.l d.k 4);have hb2:DB ⟨{ d.n with log:=Yz d.n.tm d.n.log (Z5 c.l d.k 4) },d.k+1⟩ (m+1):=hb.step 1 (Nat.le_refl _) rfl hlen rfl;refine wp_seq_k ?_;intro K6 hK6;refine dnI182 (d:=⟨{ d.n with log:=Yz d.n.tm d.n.log (Z5 c.l d.k 4) },d.k+1⟩) hc (m:=m+1) (by omega) hb2 f4 s4 fun a5 w5 f5 s5=>hK6 _ _ ?_
  refine wp_seq_k ?_;intro K7 hK7
  have s5':c.N w5 ⟨{ d.n with log:=Yz d.n.tm d.n.log (Z5 c.l d.k 4),cm:=if Z5 c.l (d.k+1) 2=0 then max 0 (((Yz d.n.tm d.n.log (Z5 c.l d.k 4)).length:Int)-2) else d.n.cm },d.k+1+1⟩ X:=by
   by_cases h2:Z5 c.l (d.k+1) 2=0
   ·simp only [h2,if_true] at s5 ⊢;exact s5
   ·simp only [h2,if_false] at s5 ⊢;exact s5
  have hb3:DB ⟨{ d.n with log:=Yz d.n.tm d.n.log (Z5 c.l d.k 4),cm:=if Z5 c.l (d.k+1) 2=0 then max 0 (((Yz d.n.tm d.n.log (Z5 c.l d.k 4)).length:Int)-2) else d.n.cm },d.k+1+1⟩ (m+2):=hb.step 2 (Nat.le_refl _) rfl hlen rfl;refine dnR52 (d:=⟨{ d.n with log:=Yz d.n.tm d.n.log (Z5 c.l d.k 4),cm:=if Z5 c.l (d.k+1) 2=0 then max 0 (((Yz d.n.tm d.n.log (Z5 c.l d.k 4)).length:Int)-2) else d.n.cm },d.k+1+1⟩) hc (m:=m+2) (by omega) hb3 f5 s5' fun a6 w6 f6 g6=>hK7 _ _ ?_
  exact dnL3 (d:=⟨{ d.n with log:=Yz d.n.tm d.n.log (Z5 c.l d.k 4),cm:=if Z5 c.l (d.k+1) 2=0 then max 0 (((Yz d.n.tm d.n.log (Z5 c.l d.k 4)).length:Int)-2) else d.n.cm },d.k+1+1⟩) (s0:=⟨d.n.nx,d.n.mt,d.n.se,d.n.st,d.k+1+1⟩) hc (m:=m+2) (by omega) hb3 h1 h2 h3 h4 (by show d.k+1+1<=_;omega) f6 g6.2 g6.1 hK
 ·simp only [h,decide_false,if_false,Bool.false_eq_true] at hK ⊢
  exact wp_skip (hK _ _ _ f1 g1.1)
end
section
variable {Q:Exit->Act->World->Prop} {K:Act->World->Prop} {c:DC} {d:DnS} {X:RV} {a:Act} {w:World}
theorem Z0g:(Tryz.prog.info? 36).map (·.size)=some 18:=by kernel_rfl
structure NdO (w:World) (B:Nat) (n:Nd) (x:RV):Prop where
 log:Zv w B x.vl n.log
 gr:Zs inC 1 3 w B x.vg n.gr
 nx:Zs inC 1 3 w B x.vn n.nx
 mt:Zs inC 1 3 w B x.vm n.mt
 se:Zs inC 1 3 w B x.vs n.se
 st:Zs inC 1 3 w B x.vt n.st
 ap:[x.vg,x.vn,x.vm,x.vs,x.vt].Pairwise Xq
theorem NdO.keep {w w':World}{B:Nat}{n:Nd}{x:RV}(h:NdO w B n x)(hk:∀ q,B<=q->q<w.heap.size->w'.heap[q]? = w.heap[q]?):NdO w' B n x:=by
 have hg:∀ {v:Value} {l:List Int},Zs inC 1 3 w B v l->Zs inC 1 3 w' B v l:=fun ho=>ho.block fun q e=>hk q (ho.lts q e).1 (ho.lts q e).2
 exact ⟨h.log.block fun q e=>hk q (World.ownsRow.lt h.log.2 q e).1 (World.ownsRow.lt h.log.2 q e).2,hg h.gr,hg h.nx,hg h.mt,hg h.se,hg h.st,h.ap⟩
theorem NdO.le {w:World}{B B':Nat}{n:Nd}{x:RV}(h:NdO w B n x)(hB:B'<=B):NdO w B' n x:=⟨h.log.le hB,h.gr.le hB,h.nx.le hB,h.mt.le hB,h.se.le hB,h.st.le hB,h.ap⟩
theorem NdO.one {w:World}{B:Nat}{n:Nd}{x:RV}(h:NdO w B n x):(ndC n x).all (·.oneCell')=true/\NoU8 (ndC n x):=by
 obtain ⟨a1,c1,e1⟩:=h.log.shape;obtain ⟨a2,c2,e2⟩:=h.gr.shape;obtain ⟨a3,c3,e3⟩:=h.nx.shape;obtain ⟨a4,c4,e4⟩:=h.mt.shape;obtain ⟨a5,c5,e5⟩:=h.se.shape;obtain ⟨a6,c6,e6⟩:=h.st.shape;unfold ndC;rw [e1,e2,e3,e4,e5,e6];exact ⟨by simp [Value.oneCell'],Yd rfl⟩
structure RtN (c:DC) (w:World) (d:DnS) (x:RV):Prop where
 dr:Dr c.w0 w c.g c.v c.l d.k [(c.b4,ndC d.n x,36),(c.b5,c.S,104),(c.b9,ndC d.n x,36)]
 own:NdO w c.w0.heap.size d.n x
theorem DC.N.ndo (h:c.N w d X):NdO w c.w0.heap.size d.n X:=⟨NS.log h,NS.gr h,NS.nx h,NS.mt h,NS.se h,NS.st h,NS.ap h⟩
theorem DC.N.rt (h:c.N w d X):RtN c (w.setRow c.b4 (ndC d.n X)) d X:=by
 have hR:=(NS.dr h).row 0 rfl (ndC d.n X) h.ndo.one.2;have hset:∀ q,q≠c.b4->(w.setRow c.b4 (ndC d.n X)).heap[q]? = w.heap[q]?:=fun q hq=>setRow_other _ _ _ _ hq
 have hg:∀ {v:Value} {l:List Int},Zs inC 1 3 w c.w0.heap.size v l->Zs inC 1 3 (w.setRow c.b4 (ndC d.n X)) c.w0.heap.size v l:=fun ho=>ho.block fun q e=>hset q (Yr ho h.res (by decide) q e)
 exact ⟨hR,h.ndo.log.block fun q e=>hset q (X4 h.ndo.log h.res (by decide) q e),hg h.ndo.gr,hg h.ndo.nx,hg h.ndo.mt,hg h.ndo.se,hg h.ndo.st,h.ndo.ap⟩
theorem dnR68 (hc:c.Ok){m:Nat}(hm0:m<=899000000)(hb:DB d m)(hF:c.Fr a)(hS:c.N w d X)(hP:∀ a' w',c.Fr a'->RtN c w' d X->K a' w'):(Z1 19 (Z3 Tryz.f51)).wp Tryz.prog (Exit.then K Q) a w:=by
 obtain ⟨t,rfl⟩:=hF.opened;have hsz:=hc.sz;have hel:=hc.el;have hid:=hc.id;have hnw:=hb.nw;have hkb:=hb.k;have hlg:=hb.lg;clear hF;have HS:Hid (c.N w d X):=hS;clear hS;have Ho:Hid ((ndC d.n X).all (·.oneCell')=true):=HS.out.ndo.one.1;obtain ⟨C,hC⟩:∃ C,C=ndC d.n X:=⟨_,rfl⟩;have HB:Hid (Blk w c.b9 C 36):=by unfold Hid;rw [hC];exact HS.out.blk
 have HR:Hid (RtN c (w.setRow c.b4 C) d X):=by unfold Hid;rw [hC];exact HS.out.rt
 have HC1:Hid (18=C.size):=by unfold Hid;rw [hC];rfl
 rw [<-hC] at Ho;clear hC;have HR4:Hid (Blk w c.b4 Jr 36):=HS.out.res;have hBA:True:=trivial;have hBB:True:=trivial
 conv=>arg 2;whnf
 go_wp2_with (first
  |(refine Zw 36 (.tmp 9) rfl ?_;clear hBA;refine Zk rfl 36 (.tmp 9) rfl c.b9 rfl HB.out Tryz.underlying36 rfl Z0g HC1.out ?_)
  |(refine Y2 36 (.tmp 4) _ rfl ?_;clear hBB;refine Y1 rfl 36 (.tmp 4) _ rfl c.b4 rfl rfl HR4.out Z0g HC1.out HC1.out Ho.out ?_))
 exact hP _ _ ⟨rfl,rfl,rfl,rfl,rfl,rfl,rfl,rfl,rfl⟩ HR.out
theorem dnRo_n (l:List Int)(h:DnH)(T:Int)(d:DnS):(Z03 l h T d).n.nw=d.n.nw/\(Z03 l h T d).n.log=d.n.log/\(Z03 l h T d).n.tm=d.n.tm/\(Z03 l h T d).n.gr=d.n.gr/\(Z03 l h T d).n.nx=d.n.nx/\(Z03 l h T d).n.mt=d.n.mt/\(Z03 l h T d).n.se=d.n.se/\(Z03 l h T d).n.st=d.n.st/\(Z03 l h T d).k<=d.k+2:=by
 unfold Z03;dsimp only;split
 ·exact ⟨rfl,rfl,rfl,rfl,rfl,rfl,rfl,rfl,Nat.le_refl _⟩
 ·split
  ·exact ⟨rfl,rfl,rfl,rfl,rfl,rfl,rfl,rfl,by dsimp only;omega⟩
  ·split
   ·exact ⟨rfl,rfl,rfl,rfl,rfl,rfl,rfl,rfl,by dsimp only;omega⟩
   ·split
    ·exact ⟨rfl,rfl,rfl,rfl,rfl,rfl,rfl,rfl,by dsimp only;omega⟩
    ·exact ⟨rfl,rfl,rfl,rfl,rfl,rfl,rfl,rfl,by dsimp only;omega⟩
theorem dnDl_n (l:List Int)(el:Nat)(d:DnS):(Jn l el d).n.nw=d.n.nw/\(Jn l el d).n.log=d.n.log/\(Jn l el d).n.tm=d.n.tm/\(Jn l el d).n.gr=d.n.gr/\(Jn l el d).n.nx=d.n.nx/\(Jn l el d).n.mt=d.n.mt/\(Jn l el d).n.se=d.n.se/\(Jn l el d).n.st=d.n.st/\(Jn l el d).k<=d.k+12:=by
 have:=X7 (2*el+1);unfold Jn;dsimp only;split
 ·exact ⟨rfl,rfl,rfl,rfl,rfl,rfl,rfl,rfl,by dsimp only;omega⟩
 ·exact ⟨rfl,rfl,rfl,rfl,rfl,rfl,rfl,rfl,by dsimp only;omega⟩
theorem dnGr_n (l:List Int)(h:DnH)(d:DnS):(J9 l h d).n.nw=d.n.nw/\(J9 l h d).n.log=d.n.log/\(J9 l h d).n.tm=d.n.tm/\(J9 l h d).n.nx=d.n.nx/\(J9 l h d).n.mt=d.n.mt/\(J9 l h d).n.se=d.n.se/\(J9 l h d).n.st=d.n.st/\(J9 l h d).k<=d.k+1+h.sz:=by
 unfold J9;split
 ·have:=dnGrK_le l h.id ⟨d.n.gr,Z5 l d.k (h.sz / 2),d.k+1⟩ h.sz
  exact ⟨rfl,rfl,rfl,rfl,rfl,rfl,rfl,by dsimp only;exact this.2.1⟩
 ·exact ⟨rfl,rfl,rfl,rfl,rfl,rfl,rfl,by omega⟩
theorem dnTail (hc:c.Ok){m:Nat}(hm0:m<=860000000)(hb:DB d m)(hz:d.n.gr = []/\d.n.nx = []/\d.n.mt = []/\d.n.se = []/\d.n.st = [])(hF:c.Fr a)(hS:c.N w d X)(hK:∀ a' w' x',c.Fr a'->RtN c w' (Z0s c.l c.h (J9 c.l c.h (Z03 c.l c.h c.T (Z0n c.l (Z04 c.l c.EL (Jn c.l c.EL d)))))) x'->Q .ret a' w'):(Z2 11 (Z3 Tryz.f51)).wp Tryz.prog Q a w:=by
 have hsz:=hc.sz;have hkb:=hb.k;rw [show Z2 11 (Z3 Tryz.f51)=.seq (Z1 11 (Z3 Tryz.f51)) (.seq (Z1 12 (Z3 Tryz.f51)) (.seq (Z1 13 (Z3 Tryz.f51)) (.seq (Z1 14 (Z3 Tryz.f51)) (.seq (Z1 15 (Z3 Tryz.f51)) (.seq (Z1 16 (Z3 Tryz.f51)) (.seq (Z1 17 (Z3 Tryz.f51)) (.seq (Z1 18 (Z3 Tryz.f51)) (.seq (Z1 19 (Z3 Tryz.f51)) .ret)))))))) from rfl];refine wp_seq_k ?_;intro K1 hK1;refine dnR14 hc (by omega) hb hF hS fun a1 w1 f1 s1=>hK1 _ _ ?_
 have pk1:=X7 (2*c.EL+1);refine wp_seq_k ?_;intro K2 hK2;refine dnI12 (d:=⟨{ d.n with dl:=d.n.nw+(Z5 c.l d.k (2*c.EL+1):Nat) },d.k+Zm (2*c.EL+1)⟩) hc (m:=m+20) (by omega) (hb.step 20 (by dsimp only;omega) rfl rfl rfl) f1 s1 fun a2 w2 f2 s2=>hK2 _ _ ?_
 have s2':c.N w2 (Jn c.l c.EL d) X:=by
  unfold Jn;dsimp only at s2 ⊢;split
  ·rename_i h;rw [if_pos h] at s2;exact s2
  ·rename_i h;rw [if_neg h] at s2;exact s2
 obtain ⟨u1,u2,u3,u4,u5,u6,u7,u8,u9⟩:=dnDl_n c.l c.EL d;clear s2 s1;obtain ⟨d2,hd2⟩:∃ e,e=Jn c.l c.EL d:=⟨_,rfl⟩;rw [<-hd2] at s2' hK u1 u2 u3 u4 u5 u6 u7 u8 u9;have hb2:DB d2 (m+20):=hb.step 20 (by omega) u1 (by rw [u2]) u3;refine wp_seq_k ?_;intro K3 hK3;refine dnR17 hc (m:=m+20) (by omega) hb2 f2 s2' fun a3 w3 f3 s3=>hK3 _ _ ?_
 have pk3:=X7 (min d2.n.nw.toNat (2*c.EL)+1);have hb3:DB (Z04 c.l c.EL d2) (m+20+20):=hb2.step 20 (by unfold Z04;dsimp only;omega) rfl rfl rfl;refine wp_seq_k ?_;intro K4 hK4;refine dnR18 hc (m:=m+20+20) (by omega) hb3 f3 s3 fun a4 w4 f4 s4=>hK4 _ _ ?_
 have pk4:=X7 ((Z04 c.l c.EL d2).n.log.length+1);have hb4:DB (Z0n c.l (Z04 c.l c.EL d2)) (m+20+20+20):=hb3.step 20 (by unfold Z0n;dsimp only;omega) rfl rfl rfl;have y1:(Z0n c.l (Z04 c.l c.EL d2)).n.gr=d2.n.gr:=rfl;have y2:(Z0n c.l (Z04 c.l c.EL d2)).n.nx=d2.n.nx:=rfl;have y3:(Z0n c.l (Z04 c.l c.EL d2)).n.mt=d2.n.mt:=rfl;have y4:(Z0n c.l (Z04 c.l c.EL d2)).n.se=d2.n.se:=rfl;have y5:(Z0n c.l (Z04 c.l c.EL d2)).n.st=d2.n.st:=rfl;obtain ⟨d4,hd4⟩:∃ e,e=Z0n c.l (Z04 c.l c.EL d2):=⟨_,rfl⟩;rw [<-hd4] at s4 hK hb4 y1 y2 y3 y4 y5;refine wp_seq_k ?_;intro K5 hK5;refine dnR19 hc (m:=m+20+20+20) (by omega) hb4 f4 s4 fun a5 w5 f5 s5=>hK5 _ _ ?_
 refine wp_seq_k ?_;intro K6 hK6;refine dnI16 (d:=d4) hc (m:=m+20+20+20) (by omega) hb4 s5.2 f5 s5.1 fun a6 w6 f6 s6=>hK6 _ _ ?_
 obtain ⟨r1,r2,r3,r4,r5,r6,r7,r8,r9⟩:=dnRo_n c.l c.h c.T d4;obtain ⟨d6,hd6⟩:∃ e,e=Z03 c.l c.h c.T d4:=⟨_,rfl⟩;rw [<-hd6] at s6 hK r1 r2 r3 r4 r5 r6 r7 r8 r9;have hb6:DB d6 (m+20+20+20+2):=hb4.step 2 (by omega) r1 (by rw [r2]) r3;refine wp_seq_k ?_;intro K7 hK7;refine dnI17 (d:=d6) hc (m:=m+20+20+20+2) (by omega) hb6 (by rw [r4,y1,u4,hz.1];exact Nat.zero_le _) f6 s6 fun a7 w7 x7 f7 s7=>hK7 _ _ ?_
 obtain ⟨g1,g2,g3,g4,g5,g6,g7,g8⟩:=dnGr_n c.l c.h d6;have hsz':c.h.sz<=7:=hsz.2;have hb7:DB (J9 c.l c.h d6) (m+20+20+20+2+20):=hb6.step 20 (by omega) g1 (by rw [g2]) g3;refine wp_seq_k ?_;intro K8 hK8;refine dnI18 (d:=J9 c.l c.h d6) hc (m:=m+20+20+20+2+20) (by omega) hb7 (by rw [g4,r5,y2,u5,hz.2.1];exact Nat.zero_le _) (by rw [g5,r6,y3,u6,hz.2.2.1];exact Nat.zero_le _) (by rw [g6,r7,y4,u7,hz.2.2.2.1];exact Nat.zero_le _) (by rw [g7,r8,y5,u8,hz.2.2.2.2];exact Nat.zero_le _) f7 s7 fun a8 w8 x8 f8 s8=>hK8 _ _ ?_
 refine wp_seq_k ?_;intro K9 hK9
 have hb8:DB (Z0s c.l c.h (J9 c.l c.h d6)) 899000000:=by
  have hk7:=hb7.k;unfold Z0s;split
  ·have hl:=Z2c c.l c.h (Yz (J9 c.l c.h d6).n.tm (J9 c.l c.h d6).n.log (Z5 c.l (J9 c.l c.h d6).k 4)).length (J9 c.l c.h d6).n.nw ⟨(J9 c.l c.h d6).n.nx,(J9 c.l c.h d6).n.mt,(J9 c.l c.h d6).n.se,(J9 c.l c.h d6).n.st,(J9 c.l c.h d6).k+1+1⟩ c.h.sz
   refine ⟨?_,hb7.nw,?_,hb7.tm⟩
   ·refine Nat.le_trans hl.2.2.2.2 ?_
    dsimp only;omega
   ·dsimp only;rw [Jz];exact hb7.lg
  ·exact ⟨by omega,hb7.nw,hb7.lg,hb7.tm⟩
 refine dnR68 (d:=Z0s c.l c.h (J9 c.l c.h d6)) hc (m:=899000000) (by omega) hb8 f8 s8 fun a9 w9 f9 s9=>hK9 _ _ ?_
 exact wp_ret (hK _ _ _ f9 s9)
end
structure NdS (w:World) (B b:Nat) (n:Nd) (x:RV):Prop where
 blk:Blk w b (ndC n x) 36
 own:NdO w B n x
section
variable {w w2 w3 w':World} {B B' b:Nat} {n n':Nd} {x x':RV} {u:Value} {q:List Int}
theorem NdS.keep (h:NdS w B b n x)(hk:∀ q,B<=q∨q=b->q<w.heap.size->w'.heap[q]? = w.heap[q]?):NdS w' B b n x:=⟨h.blk.keep (hk b (.inr rfl) h.blk.lt),h.own.keep fun q h1 h2=>hk q (.inl h1) h2⟩
theorem NdS.below (h:NdS w B b n x)(hb:Below w.heap.size w w'):NdS w' B b n x:=h.keep fun q _ h2=>hb.block q h2
theorem NdO.neB (h:NdO w B n x){b':Nat}{C:Array Value}{t:TypeId}(hb:Blk w b' C t)(h1:118≠t)(h2:3≠t)(hk:∀ q,q≠b'->w'.heap[q]? = w.heap[q]?):NdO w' B n x:=by
 have hg:∀ {v:Value} {l:List Int},Zs inC 1 3 w B v l->Zs inC 1 3 w' B v l:=fun ho=>ho.block fun q e=>hk q (Yr ho hb h2 q e)
 exact ⟨h.log.block fun q e=>hk q (X4 h.log hb h1 q e),hg h.gr,hg h.nx,hg h.mt,hg h.se,hg h.st,h.ap⟩
theorem NdS.set (h:NdS w B b n x)(j:Nat)(hj:j<12)(y:Int)(hc:(ndC n x).setIfInBounds j (.int .i64 y)=ndC n' x)
  (e1:n'.log=n.log) (e2:n'.gr=n.gr) (e3:n'.nx=n.nx) (e4:n'.mt=n.mt) (e5:n'.se=n.se) (e6:n'.st=n.st):NdS (w.setCell ⟨b,j,none⟩ (.int .i64 y)) B b n' x:=by
 have h1:=h.own.neB (w':=w.setCell ⟨b,j,none⟩ (.int .i64 y)) h.blk (by decide) (by decide) fun q hq=>Below.heap_setCell _ _ _ _ hq
 have h2:=h.blk.set j (.int .i64 y);rw [hc] at h2;exact ⟨h2,by rw [e1];exact h1.log,by rw [e2];exact h1.gr,by rw [e3];exact h1.nx,by rw [e4];exact h1.mt,by rw [e5];exact h1.se,by rw [e6];exact h1.st,h1.ap⟩
end
theorem Z3z (t:Nat->Value):lst t 0 343 = [t 0,t 1,t 2,t 3,t 4,t 5,t 6,t 7,t 8,t 9,t 10,t 11,t 12,t 13,t 14,t 15,t 16,t 17,t 18,t 19,t 20,t 21,t 22,t 23,t 24,t 25,t 26,t 27,t 28,t 29,t 30,t 31,t 32,t 33,t 34,t 35,t 36,t 37,t 38,t 39,t 40,t 41,t 42,t 43,t 44,t 45,t 46,t 47,t 48,t 49,t 50,t 51,t 52,t 53,t 54,t 55,t 56,t 57,t 58,t 59,t 60,t 61,t 62,t 63,t 64,t 65,t 66,t 67,t 68,t 69,t 70,t 71,t 72,t 73,t 74,t 75,t 76,t 77,t 78,t 79,t 80,t 81,t 82,t 83,t 84,t 85,t 86,t 87,t 88,t 89,t 90,t 91,t 92,t 93,t 94,t 95,t 96,t 97,t 98,t 99,t 100,t 101,t 102,t 103,t 104,t 105,t 106,t 107,t 108,t 109,t 110,t 111,t 112,t 113,t 114,t 115,t 116,t 117,t 118,t 119,t 120,t 121,t 122,t 123,t 124,t 125,t 126,t 127,t 128,t 129,t 130,t 131,t 132,t 133,t 134,t 135,t 136,t 137,t 138,t 139,t 140,t 141,t 142,t 143,t 144,t 145,t 146,t 147,t 148,t 149,t 150,t 151,t 152,t 153,t 154,t 155,t 156,t 157,t 158,t 159,t 160,t 161,t 162,t 163,t 164,t 165,t 166,t 167,t 168,t 169,t 170,t 171,t 172,t 173,t 174,t 175,t 176,t 177,t 178,t 179,t 180,t 181,t 182,t 183,t 184,t 185,t 186,t 187,t 188,t 189,t 190,t 191,t 192,t 193,t 194,t 195,t 196,t 197,t 198,t 199,t 200,t 201,t 202,t 203,t 204,t 205,t 206,t 207,t 208,t 209,t 210,t 211,t 212,t 213,t 214,t 215,t 216,t 217,t 218,t 219,t 220,t 221,t 222,t 223,t 224,t 225,t 226,t 227,t 228,t 229,t 230,t 231,t 232,t 233,t 234,t 235,t 236,t 237,t 238,t 239,t 240,t 241,t 242,t 243,t 244,t 245,t 246,t 247,t 248,t 249,t 250,t 251,t 252,t 253,t 254,t 255,t 256,t 257,t 258,t 259,t 260,t 261,t 262,t 263,t 264,t 265,t 266,t 267,t 268,t 269,t 270,t 271,t 272,t 273,t 274,t 275,t 276,t 277,t 278,t 279,t 280,t 281,t 282,t 283,t 284,t 285,t 286,t 287,t 288,t 289,t 290,t 291,t 292,t 293,t 294,t 295,t 296,t 297,t 298,t 299,t 300,t 301,t 302,t 303,t 304,t 305,t 306,t 307,t 308,t 309,t 310,t 311,t 312,t 313,t 314,t 315,t 316,t 317,t 318,t 319,t 320,t 321,t 322,t 323,t 324,t 325,t 326,t 327,t 328,t 329,t 330,t 331,t 332,t 333,t 334,t 335,t 336,t 337,t 338,t 339,t 340,t 341,t 342]:=rfl
def msV (m:Mg)(ve:Value):Array Value:=#[.int .i64 m.ki,.int .i64 m.fr,.int .i64 m.td,.int .i64 m.tm,.int .i64 m.li,.int .i64 m.lt,.int .i64 m.cm,.int .i64 m.ok,.int .i64 m.hi,ve]
def Z0d:Array Value:=msV mg0 (.slice none 0 0)
structure FS (w0 w:World) (g:Nat) (v:Value) (l:List Int) (b3 b4 b5:Nat) (n:Nd) (x:RV) (k:Nat) (m:Mg) (ve:Value):Prop where
 dr:Dr w0 w g v l k [(b3,ndC n x,36),(b4,Z0d,43),(b5,msV m ve,43)]
 es:Zv w w0.heap.size ve m.es
section
variable {w0 w w':World} {g:Nat} {v:Value} {l:List Int} {k k' b3 b4 b5:Nat} {n:Nd} {x:RV} {m m':Mg} {ve:Value}
theorem FS.call (h:FS w0 w g v l b3 b4 b5 n x k m ve)(hs:Src w' g v l k')(hg:w.grownBy w' (some g)):FS w0 w' g v l b3 b4 b5 n x k' m ve:=
 ⟨h.dr.call hs hg,h.es.block fun q e=>hg.block q (World.ownsRow.lt h.es.2 q e).2 (fun e'=>by injection e' with e';have h1:=(World.ownsRow.lt h.es.2 q e).1;have:=h.dr.gl;omega)⟩
theorem FS.below (h:FS w0 w g v l b3 b4 b5 n x k m ve)(hb:Below w.heap.size w w'):FS w0 w' g v l b3 b4 b5 n x k m ve:=⟨h.dr.below hb,h.es.below hb⟩
theorem FS.drew (h:FS w0 w g v l b3 b4 b5 n x k m ve):FS w0 w.drew g v l b3 b4 b5 n x k m ve:=h.below (Below.refl _ _).drew
theorem FS.pick (h:FS w0 w g v l b3 b4 b5 n x k m ve)(q:Nat)(hL:l.length<=1048576)(hk:k<=900000000)(hm:0<q)(hM:q<=4294967296) :
  Calls Tryz.prog 53 #[.pointer (some ⟨g,0,none⟩),.int .i64 q] w fun e w'=>e=.returned (.int .i64 (Z5 l k q:Nat))/\FS w0 w' g v l b3 b4 b5 n x (k+Zm q) m ve:=
 (Zq g w v l k q hL hk hm hM h.dr.src).mono fun e w' ⟨h1,h2,h3⟩=>⟨h1,h.call h2 h3⟩
theorem FS.pick1 (h:FS w0 w g v l b3 b4 b5 n x k m ve)(q:Nat)(hL:l.length<=1048576)(hk:k<=900000000)(hm:0<q)(hM:q<=256) :
  Calls Tryz.prog 53 #[.pointer (some ⟨g,0,none⟩),.int .i64 q] w fun e w'=>e=.returned (.int .i64 (Z5 l k q:Nat))/\FS w0 w' g v l b3 b4 b5 n x (k+1) m ve:=
 (h.pick q hL hk hm (by omega)).mono fun e w' ⟨h1,h2⟩=>⟨h1,by rwa [show Zm q=1 by unfold Zm;rw [if_pos hM]] at h2⟩
theorem FS.nb (h:FS w0 w g v l b3 b4 b5 n x k m ve):Blk w b3 (ndC n x) 36:=h.dr.blk 0 rfl
theorem FS.rb (h:FS w0 w g v l b3 b4 b5 n x k m ve):Blk w b4 Z0d 43:=h.dr.blk 1 rfl
theorem FS.mb (h:FS w0 w g v l b3 b4 b5 n x k m ve):Blk w b5 (msV m ve) 43:=h.dr.blk 2 rfl
theorem FS.set (h:FS w0 w g v l b3 b4 b5 n x k m ve)(j:Nat)(hj:j<9)(y:Int)(hc:(msV m ve).setIfInBounds j (.int .i64 y)=msV m' ve)(e1:m'.es=m.es):FS w0 (w.setCell ⟨b5,j,none⟩ (.int .i64 y)) g v l b3 b4 b5 n x k m' ve:=by
 have hd:=h.dr.set 2 rfl j (by show j<10;omega) (.int .i64 y) rfl;rw [hc] at hd;exact ⟨hd,by rw [e1];exact h.es.block fun q e=>Below.heap_setCell _ _ _ _ (X4 h.es h.mb (by decide) q e)⟩
theorem FS.bare (h:FS w0 w g v l b3 b4 b5 n x k m ve):FS w0 (w.setCell ⟨b5,9,none⟩ (.slice none 0 0)) g v l b3 b4 b5 n x k { m with es:=[] } (.slice none 0 0):=
 ⟨h.dr.set 2 rfl 9 (by show 9<10;omega) (.slice none 0 0) rfl,Zv.nil _ _⟩
end
theorem df2 {w0:World}{g k b3 b4 b5:Nat}{v:Value}{l:List Int}{n:Nd}{xr:RV}{m:Mg}{ve:Value}(hL:l.length<=1048576)(hk:k<=890000000){Q:Exit->Act->World->Prop}{K:Act->World->Prop}{a:Act}{w:World}(hF:SzD a 343)(h0:a.eval (.tmp 0)=.pointer (some ⟨g,0,none⟩))(h3:a.eval (.tmp 3)=.pointer (some ⟨b3,0,none⟩))(h4:a.eval (.tmp 4)=.pointer (some ⟨b4,0,none⟩))(h5:a.eval (.tmp 5)=.pointer (some ⟨b5,0,none⟩))(hS:FS w0 w g v l b3 b4 b5 n xr k m ve)(hP:∀ a' w',SzD a' 343->a'.eval (.tmp 0)=.pointer (some ⟨g,0,none⟩)->a'.eval (.tmp 3)=.pointer (some ⟨b3,0,none⟩)->a'.eval (.tmp 4)=.pointer (some ⟨b4,0,none⟩)->a'.eval (.tmp 5)=.pointer (some ⟨b5,0,none⟩)->a'.eval (.tmp 19)=.bool (decide (Z5 l k 14=0))->FS w0 w' g v l b3 b4 b5 n xr (k+1) m ve->K a' w'):(Z1 0 (Z1 2 (Z3 Tryz.f54))).wp Tryz.prog (Exit.then K Q) a w:=by
 obtain ⟨t,rfl⟩:=hF.opened;clear hF;rw [Z3z]
 try dsimp only
 rw [show t 0=_ from h0,show t 3=_ from h3,show t 4=_ from h4,show t 5=_ from h5];clear h0 h3 h4 h5;have HS:Hid (FS w0 w g v l b3 b4 b5 n xr k m ve):=hS;clear hS;obtain ⟨p,hp⟩:∃ p,p=Z5 l k 14:=⟨_,rfl⟩;have Hp:Hid (p=Z5 l k 14):=hp;rw [<-hp] at hP;have bp:p<14:=by rw [hp];exact Zf _ _ _ (by omega)
 clear hp
 conv=>arg 2;whnf
 go_wp2_with (go_at_call 53;go_loud (refine (HS.out.pick1 14 hL (by omega) (by omega) (by omega)).mono ?_;rw [<-Hp.out];rintro r w9 ⟨rfl,hd⟩;have HS9:Hid (FS w0 w9 g v l b3 b4 b5 n xr (k+1) m ve):=hd;clear hd))
 exact hP _ _ ⟨rfl,rfl⟩ rfl rfl rfl rfl (by simp [Act.eval,beq0]) HS9.out
theorem df4 {w0:World}{g k b3 b4 b5:Nat}{v:Value}{l:List Int}{n:Nd}{xr:RV}{m:Mg}{ve:Value}{Q:Exit->Act->World->Prop}{K:Act->World->Prop}{a:Act}{w:World}(hF:SzD a 343)(h0:a.eval (.tmp 0)=.pointer (some ⟨g,0,none⟩))(h3:a.eval (.tmp 3)=.pointer (some ⟨b3,0,none⟩))(h4:a.eval (.tmp 4)=.pointer (some ⟨b4,0,none⟩))(h5:a.eval (.tmp 5)=.pointer (some ⟨b5,0,none⟩))(hS:FS w0 w g v l b3 b4 b5 n xr k m ve)(hP:∀ a' w',SzD a' 343->a'.eval (.tmp 0)=.pointer (some ⟨g,0,none⟩)->a'.eval (.tmp 3)=.pointer (some ⟨b3,0,none⟩)->a'.eval (.tmp 4)=.pointer (some ⟨b4,0,none⟩)->a'.eval (.tmp 5)=.pointer (some ⟨b5,0,none⟩)->FS w0 w' g v l b3 b4 b5 n xr k { m with td:=n.id } ve->K a' w'):(Z1 3 (Z3 Tryz.f54)).wp Tryz.prog (Exit.then K Q) a w:=by
 obtain ⟨t,rfl⟩:=hF.opened;clear hF;rw [Z3z]
 try dsimp only
 rw [show t 0=_ from h0,show t 3=_ from h3,show t 4=_ from h4,show t 5=_ from h5];clear h0 h3 h4 h5;have n0:w.cell? ⟨b3,0,none⟩=some (.int .i64 n.id):=hS.nb.cell 0;have m2:w.cell? ⟨b5,2,none⟩=some (.int .i64 m.td):=hS.mb.cell 2;have f2:w.frozen? ⟨b5,2,none⟩=false:=hS.mb.free 2;have HS:Hid (FS w0 w g v l b3 b4 b5 n xr k m ve):=hS;clear hS
 conv=>arg 2;whnf
 go_wp2_with fail
 exact hP _ _ ⟨rfl,rfl⟩ rfl rfl rfl rfl (HS.out.set 2 (by omega) _ rfl rfl)
theorem df6 {w0:World}{g k b3 b4 b5:Nat}{v:Value}{l:List Int}{n:Nd}{xr:RV}{m:Mg}{ve:Value}{Q:Exit->Act->World->Prop}{K:Act->World->Prop}{a:Act}{w:World}(hF:SzD a 343)(h0:a.eval (.tmp 0)=.pointer (some ⟨g,0,none⟩))(h3:a.eval (.tmp 3)=.pointer (some ⟨b3,0,none⟩))(h4:a.eval (.tmp 4)=.pointer (some ⟨b4,0,none⟩))(h5:a.eval (.tmp 5)=.pointer (some ⟨b5,0,none⟩))(hS:FS w0 w g v l b3 b4 b5 n xr k m ve)(hP:∀ a' w',SzD a' 343->a'.eval (.tmp 0)=.pointer (some ⟨g,0,none⟩)->a'.eval (.tmp 3)=.pointer (some ⟨b3,0,none⟩)->a'.eval (.tmp 4)=.pointer (some ⟨b4,0,none⟩)->a'.eval (.tmp 5)=.pointer (some ⟨b5,0,none⟩)->a'.eval (.tmp 41)=.bool (m.fr == n.id)->FS w0 w' g v l b3 b4 b5 n xr k m ve->K a' w'):(Z1 0 (Z1 5 (Z3 Tryz.f54))).wp Tryz.prog (Exit.then K Q) a w:=by
 obtain ⟨t,rfl⟩:=hF.opened;clear hF;rw [Z3z]
 try dsimp only
 rw [show t 0=_ from h0,show t 3=_ from h3,show t 4=_ from h4,show t 5=_ from h5];clear h0 h3 h4 h5;have n0:w.cell? ⟨b3,0,none⟩=some (.int .i64 n.id):=hS.nb.cell 0;have m1:w.cell? ⟨b5,1,none⟩=some (.int .i64 m.fr):=hS.mb.cell 1;have f1:w.frozen? ⟨b5,1,none⟩=false:=hS.mb.free 1;have HS:Hid (FS w0 w g v l b3 b4 b5 n xr k m ve):=hS;clear hS
 conv=>arg 2;whnf
 go_wp2_with fail
 exact hP _ _ ⟨rfl,rfl⟩ rfl rfl rfl rfl rfl HS.out
theorem df7 {w0:World}{g k b3 b4 b5:Nat}{v:Value}{l:List Int}{n:Nd}{xr:RV}{m:Mg}{ve:Value}(hsz:3<=n.sz/\n.sz<=7)(hid:1<=n.id/\n.id<=n.sz){Q:Exit->Act->World->Prop}{K:Act->World->Prop}{a:Act}{w:World}(hF:SzD a 343)(h0:a.eval (.tmp 0)=.pointer (some ⟨g,0,none⟩))(h3:a.eval (.tmp 3)=.pointer (some ⟨b3,0,none⟩))(h4:a.eval (.tmp 4)=.pointer (some ⟨b4,0,none⟩))(h5:a.eval (.tmp 5)=.pointer (some ⟨b5,0,none⟩))(hS:FS w0 w g v l b3 b4 b5 n xr k m ve)(hP:∀ a' w',SzD a' 343->a'.eval (.tmp 0)=.pointer (some ⟨g,0,none⟩)->a'.eval (.tmp 3)=.pointer (some ⟨b3,0,none⟩)->a'.eval (.tmp 4)=.pointer (some ⟨b4,0,none⟩)->a'.eval (.tmp 5)=.pointer (some ⟨b5,0,none⟩)->FS w0 w' g v l b3 b4 b5 n xr k { m with fr:=1+n.id%n.sz } ve->K a' w'):(Zj (Z2 1 (Z1 5 (Z3 Tryz.f54)))).wp Tryz.prog (Exit.then K Q) a w:=by
 obtain ⟨t,rfl⟩:=hF.opened;clear hF;rw [Z3z]
 try dsimp only
 rw [show t 0=_ from h0,show t 3=_ from h3,show t 4=_ from h4,show t 5=_ from h5];clear h0 h3 h4 h5;have n0:w.cell? ⟨b3,0,none⟩=some (.int .i64 n.id):=hS.nb.cell 0;have n1:w.cell? ⟨b3,1,none⟩=some (.int .i64 n.sz):=hS.nb.cell 1;have m1:w.cell? ⟨b5,1,none⟩=some (.int .i64 m.fr):=hS.mb.cell 1;have f1:w.frozen? ⟨b5,1,none⟩=false:=hS.mb.free 1;have htm:n.id.tmod n.sz=n.id%n.sz:=Int.tmod_eq_emod_of_nonneg (by omega);have hz0:¬ n.sz=0:=by omega
 have q1:=Int.emod_nonneg n.id hz0;have q2:=Int.emod_lt_of_pos n.id (show 0<n.sz by omega);have hw1:IntKind.i64.wrap (n.id%n.sz)=n.id%n.sz:=by rw [IntKind.wrap_i64];omega
 have HS:Hid (FS w0 w g v l b3 b4 b5 n xr k m ve):=hS;clear hS
 conv=>arg 2;whnf
 go_wp2_with fail
 exact hP _ _ ⟨rfl,rfl⟩ rfl rfl rfl rfl (HS.out.set 1 (by omega) _ rfl rfl)
theorem df8t {w0:World}{g k b3 b4 b5:Nat}{v:Value}{l:List Int}{n:Nd}{xr:RV}{m:Mg}{ve:Value}(hL:l.length<=1048576)(hk:k<=890000000)(hro:n.ro=1){Q:Exit->Act->World->Prop}{K:Act->World->Prop}{a:Act}{w:World}(hF:SzD a 343)(h0:a.eval (.tmp 0)=.pointer (some ⟨g,0,none⟩))(h3:a.eval (.tmp 3)=.pointer (some ⟨b3,0,none⟩))(h4:a.eval (.tmp 4)=.pointer (some ⟨b4,0,none⟩))(h5:a.eval (.tmp 5)=.pointer (some ⟨b5,0,none⟩))(hS:FS w0 w g v l b3 b4 b5 n xr k m ve)(hP:∀ a' w',SzD a' 343->a'.eval (.tmp 0)=.pointer (some ⟨g,0,none⟩)->a'.eval (.tmp 3)=.pointer (some ⟨b3,0,none⟩)->a'.eval (.tmp 4)=.pointer (some ⟨b4,0,none⟩)->a'.eval (.tmp 5)=.pointer (some ⟨b5,0,none⟩)->a'.eval (.tmp 56)=.bool (decide (¬ Z5 l k 3=0))->FS w0 w' g v l b3 b4 b5 n xr (k+1) m ve->K a' w'):(Z1 0 (Z1 6 (Z3 Tryz.f54))).wp Tryz.prog (Exit.then K Q) a w:=by
 obtain ⟨t,rfl⟩:=hF.opened;clear hF;rw [Z3z]
 try dsimp only
 rw [show t 0=_ from h0,show t 3=_ from h3,show t 4=_ from h4,show t 5=_ from h5];clear h0 h3 h4 h5;have n6:w.cell? ⟨b3,6,none⟩=some (.int .i64 1):=by rw [<-hro];exact hS.nb.cell 6
 have HS:Hid (FS w0 w g v l b3 b4 b5 n xr k m ve):=hS;clear hS;obtain ⟨p,hp⟩:∃ p,p=Z5 l k 3:=⟨_,rfl⟩;have Hp:Hid (p=Z5 l k 3):=hp;rw [<-hp] at hP;have bp:p<3:=by rw [hp];exact Zf _ _ _ (by omega)
 clear hp
 conv=>arg 2;whnf
 go_wp2_with (go_at_call 53;go_loud (refine (HS.out.pick1 3 hL (by omega) (by omega) (by omega)).mono ?_;rw [<-Hp.out];rintro r w9 ⟨rfl,hd⟩;have HS9:Hid (FS w0 w9 g v l b3 b4 b5 n xr (k+1) m ve):=hd;clear hd))
 exact hP _ _ ⟨rfl,rfl⟩ rfl rfl rfl rfl (by simp [Act.eval,bne,beq0]) HS9.out
theorem df8f {w0:World}{g k b3 b4 b5:Nat}{v:Value}{l:List Int}{n:Nd}{xr:RV}{m:Mg}{ve:Value}(hro:¬ n.ro=1){Q:Exit->Act->World->Prop}{K:Act->World->Prop}{a:Act}{w:World}(hF:SzD a 343)(h0:a.eval (.tmp 0)=.pointer (some ⟨g,0,none⟩))(h3:a.eval (.tmp 3)=.pointer (some ⟨b3,0,none⟩))(h4:a.eval (.tmp 4)=.pointer (some ⟨b4,0,none⟩))(h5:a.eval (.tmp 5)=.pointer (some ⟨b5,0,none⟩))(hS:FS w0 w g v l b3 b4 b5 n xr k m ve)(hP:∀ a' w',SzD a' 343->a'.eval (.tmp 0)=.pointer (some ⟨g,0,none⟩)->a'.eval (.tmp 3)=.pointer (some ⟨b3,0,none⟩)->a'.eval (.tmp 4)=.pointer (some ⟨b4,0,none⟩)->a'.eval (.tmp 5)=.pointer (some ⟨b5,0,none⟩)->a'.eval (.tmp 56)=.bool false->FS w0 w' g v l b3 b4 b5 n xr k m ve->K a' w'):(Z1 0 (Z1 6 (Z3 Tryz.f54))).wp Tryz.prog (Exit.then K Q) a w:=by
 obtain ⟨t,rfl⟩:=hF.opened;clear hF;rw [Z3z]
 try dsimp only
 rw [show t 0=_ from h0,show t 3=_ from h3,show t 4=_ from h4,show t 5=_ from h5];clear h0 h3 h4 h5;have n6:w.cell? ⟨b3,6,none⟩=some (.int .i64 n.ro):=hS.nb.cell 6;have hb:(n.ro == 1)=false:=by simpa using hro
 have HS:Hid (FS w0 w g v l b3 b4 b5 n xr k m ve):=hS;clear hS
 conv=>arg 2;whnf
 go_wp2_with fail
 exact hP _ _ ⟨rfl,rfl⟩ rfl rfl rfl rfl rfl HS.out
theorem df9 {w0:World}{g k b3 b4 b5:Nat}{v:Value}{l:List Int}{n:Nd}{xr:RV}{m:Mg}{ve:Value}{Q:Exit->Act->World->Prop}{K:Act->World->Prop}{a:Act}{w:World}(hF:SzD a 343)(h0:a.eval (.tmp 0)=.pointer (some ⟨g,0,none⟩))(h3:a.eval (.tmp 3)=.pointer (some ⟨b3,0,none⟩))(h4:a.eval (.tmp 4)=.pointer (some ⟨b4,0,none⟩))(h5:a.eval (.tmp 5)=.pointer (some ⟨b5,0,none⟩))(hS:FS w0 w g v l b3 b4 b5 n xr k m ve)(hP:∀ a' w',SzD a' 343->a'.eval (.tmp 0)=.pointer (some ⟨g,0,none⟩)->a'.eval (.tmp 3)=.pointer (some ⟨b3,0,none⟩)->a'.eval (.tmp 4)=.pointer (some ⟨b4,0,none⟩)->a'.eval (.tmp 5)=.pointer (some ⟨b5,0,none⟩)->FS w0 w' g v l b3 b4 b5 n xr k { m with ki:=2 } ve->K a' w'):(Zj (Z2 1 (Z1 6 (Z3 Tryz.f54)))).wp Tryz.prog (Exit.then K Q) a w:=by
 obtain ⟨t,rfl⟩:=hF.opened;clear hF;rw [Z3z]
 try dsimp only
 rw [show t 0=_ from h0,show t 3=_ from h3,show t 4=_ from h4,show t 5=_ from h5];clear h0 h3 h4 h5;have m0:w.cell? ⟨b5,0,none⟩=some (.int .i64 m.ki):=hS.mb.cell 0;have f0:w.frozen? ⟨b5,0,none⟩=false:=hS.mb.free 0;have HS:Hid (FS w0 w g v l b3 b4 b5 n xr k m ve):=hS;clear hS
 conv=>arg 2;whnf
 go_wp2_with fail
 exact hP _ _ ⟨rfl,rfl⟩ rfl rfl rfl rfl (HS.out.set 0 (by omega) _ rfl rfl)
theorem df10t {w0:World}{g k b3 b4 b5:Nat}{v:Value}{l:List Int}{n:Nd}{xr:RV}{m:Mg}{ve:Value}(hL:l.length<=1048576)(hk:k<=890000000)(hro:n.ro=2){Q:Exit->Act->World->Prop}{K:Act->World->Prop}{a:Act}{w:World}(hF:SzD a 343)(h0:a.eval (.tmp 0)=.pointer (some ⟨g,0,none⟩))(h3:a.eval (.tmp 3)=.pointer (some ⟨b3,0,none⟩))(h4:a.eval (.tmp 4)=.pointer (some ⟨b4,0,none⟩))(h5:a.eval (.tmp 5)=.pointer (some ⟨b5,0,none⟩))(hS:FS w0 w g v l b3 b4 b5 n xr k m ve)(hP:∀ a' w',SzD a' 343->a'.eval (.tmp 0)=.pointer (some ⟨g,0,none⟩)->a'.eval (.tmp 3)=.pointer (some ⟨b3,0,none⟩)->a'.eval (.tmp 4)=.pointer (some ⟨b4,0,none⟩)->a'.eval (.tmp 5)=.pointer (some ⟨b5,0,none⟩)->a'.eval (.tmp 65)=.bool (decide (¬ Z5 l k 3=0))->FS w0 w' g v l b3 b4 b5 n xr (k+1) m ve->K a' w'):(Z1 0 (Z1 7 (Z3 Tryz.f54))).wp Tryz.prog (Exit.then K Q) a w:=by
 obtain ⟨t,rfl⟩:=hF.opened;clear hF;rw [Z3z]
 try dsimp only
 rw [show t 0=_ from h0,show t 3=_ from h3,show t 4=_ from h4,show t 5=_ from h5];clear h0 h3 h4 h5;have n6:w.cell? ⟨b3,6,none⟩=some (.int .i64 2):=by rw [<-hro];exact hS.nb.cell 6
 have HS:Hid (FS w0 w g v l b3 b4 b5 n xr k m ve):=hS;clear hS;obtain ⟨p,hp⟩:∃ p,p=Z5 l k 3:=⟨_,rfl⟩;have Hp:Hid (p=Z5 l k 3):=hp;rw [<-hp] at hP;have bp:p<3:=by rw [hp];exact Zf _ _ _ (by omega)
 clear hp
 conv=>arg 2;whnf
 go_wp2_with (go_at_call 53;go_loud (refine (HS.out.pick1 3 hL (by omega) (by omega) (by omega)).mono ?_;rw [<-Hp.out];rintro r w9 ⟨rfl,hd⟩;have HS9:Hid (FS w0 w9 g v l b3 b4 b5 n xr (k+1) m ve):=hd;clear hd))
 exact hP _ _ ⟨rfl,rfl⟩ rfl rfl rfl rfl (by simp [Act.eval,bne,beq0]) HS9.out
theorem df10f {w0:World}{g k b3 b4 b5:Nat}{v:Value}{l:List Int}{n:Nd}{xr:RV}{m:Mg}{ve:Value}(hro:¬ n.ro=2){Q:Exit->Act->World->Prop}{K:Act->World->Prop}{a:Act}{w:World}(hF:SzD a 343)(h0:a.eval (.tmp 0)=.pointer (some ⟨g,0,none⟩))(h3:a.eval (.tmp 3)=.pointer (some ⟨b3,0,none⟩))(h4:a.eval (.tmp 4)=.pointer (some ⟨b4,0,none⟩))(h5:a.eval (.tmp 5)=.pointer (some ⟨b5,0,none⟩))(hS:FS w0 w g v l b3 b4 b5 n xr k m ve)(hP:∀ a' w',SzD a' 343->a'.eval (.tmp 0)=.pointer (some ⟨g,0,none⟩)->a'.eval (.tmp 3)=.pointer (some ⟨b3,0,none⟩)->a'.eval (.tmp 4)=.pointer (some ⟨b4,0,none⟩)->a'.eval (.tmp 5)=.pointer (some ⟨b5,0,none⟩)->a'.eval (.tmp 65)=.bool false->FS w0 w' g v l b3 b4 b5 n xr k m ve->K a' w'):(Z1 0 (Z1 7 (Z3 Tryz.f54))).wp Tryz.prog (Exit.then K Q) a w:=by
 obtain ⟨t,rfl⟩:=hF.opened;clear hF;rw [Z3z]
 try dsimp only
 rw [show t 0=_ from h0,show t 3=_ from h3,show t 4=_ from h4,show t 5=_ from h5];clear h0 h3 h4 h5;have n6:w.cell? ⟨b3,6,none⟩=some (.int .i64 n.ro):=hS.nb.cell 6;have hb:(n.ro == 2)=false:=by simpa using hro
 have HS:Hid (FS w0 w g v l b3 b4 b5 n xr k m ve):=hS;clear hS
 conv=>arg 2;whnf
 go_wp2_with fail
 exact hP _ _ ⟨rfl,rfl⟩ rfl rfl rfl rfl rfl HS.out
theorem df11 {w0:World}{g k b3 b4 b5:Nat}{v:Value}{l:List Int}{n:Nd}{xr:RV}{m:Mg}{ve:Value}{Q:Exit->Act->World->Prop}{K:Act->World->Prop}{a:Act}{w:World}(hF:SzD a 343)(h0:a.eval (.tmp 0)=.pointer (some ⟨g,0,none⟩))(h3:a.eval (.tmp 3)=.pointer (some ⟨b3,0,none⟩))(h4:a.eval (.tmp 4)=.pointer (some ⟨b4,0,none⟩))(h5:a.eval (.tmp 5)=.pointer (some ⟨b5,0,none⟩))(hS:FS w0 w g v l b3 b4 b5 n xr k m ve)(hP:∀ a' w',SzD a' 343->a'.eval (.tmp 0)=.pointer (some ⟨g,0,none⟩)->a'.eval (.tmp 3)=.pointer (some ⟨b3,0,none⟩)->a'.eval (.tmp 4)=.pointer (some ⟨b4,0,none⟩)->a'.eval (.tmp 5)=.pointer (some ⟨b5,0,none⟩)->FS w0 w' g v l b3 b4 b5 n xr k { m with ki:=4 } ve->K a' w'):(Zj (Z2 1 (Z1 7 (Z3 Tryz.f54)))).wp Tryz.prog (Exit.then K Q) a w:=by
 obtain ⟨t,rfl⟩:=hF.opened;clear hF;rw [Z3z]
 try dsimp only
 rw [show t 0=_ from h0,show t 3=_ from h3,show t 4=_ from h4,show t 5=_ from h5];clear h0 h3 h4 h5;have m0:w.cell? ⟨b5,0,none⟩=some (.int .i64 m.ki):=hS.mb.cell 0;have f0:w.frozen? ⟨b5,0,none⟩=false:=hS.mb.free 0;have HS:Hid (FS w0 w g v l b3 b4 b5 n xr k m ve):=hS;clear hS
 conv=>arg 2;whnf
 go_wp2_with fail
 exact hP _ _ ⟨rfl,rfl⟩ rfl rfl rfl rfl (HS.out.set 0 (by omega) _ rfl rfl)
theorem df12t {w0:World}{g k b3 b4 b5:Nat}{v:Value}{l:List Int}{n:Nd}{xr:RV}{m:Mg}{ve:Value}(hL:l.length<=1048576)(hk:k<=890000000)(hro:n.ro=3){Q:Exit->Act->World->Prop}{K:Act->World->Prop}{a:Act}{w:World}(hF:SzD a 343)(h0:a.eval (.tmp 0)=.pointer (some ⟨g,0,none⟩))(h3:a.eval (.tmp 3)=.pointer (some ⟨b3,0,none⟩))(h4:a.eval (.tmp 4)=.pointer (some ⟨b4,0,none⟩))(h5:a.eval (.tmp 5)=.pointer (some ⟨b5,0,none⟩))(hS:FS w0 w g v l b3 b4 b5 n xr k m ve)(hP:∀ a' w',SzD a' 343->a'.eval (.tmp 0)=.pointer (some ⟨g,0,none⟩)->a'.eval (.tmp 3)=.pointer (some ⟨b3,0,none⟩)->a'.eval (.tmp 4)=.pointer (some ⟨b4,0,none⟩)->a'.eval (.tmp 5)=.pointer (some ⟨b5,0,none⟩)->a'.eval (.tmp 74)=.bool (decide (¬ Z5 l k 3=0))->FS w0 w' g v l b3 b4 b5 n xr (k+1) m ve->K a' w'):(Z1 0 (Z1 8 (Z3 Tryz.f54))).wp Tryz.prog (Exit.then K Q) a w:=by
 obtain ⟨t,rfl⟩:=hF.opened;clear hF;rw [Z3z]
 try dsimp only
 rw [show t 0=_ from h0,show t 3=_ from h3,show t 4=_ from h4,show t 5=_ from h5];clear h0 h3 h4 h5;have n6:w.cell? ⟨b3,6,none⟩=some (.int .i64 3):=by rw [<-hro];exact hS.nb.cell 6
 have HS:Hid (FS w0 w g v l b3 b4 b5 n xr k m ve):=hS;clear hS;obtain ⟨p,hp⟩:∃ p,p=Z5 l k 3:=⟨_,rfl⟩;have Hp:Hid (p=Z5 l k 3):=hp;rw [<-hp] at hP;have bp:p<3:=by rw [hp];exact Zf _ _ _ (by omega)
 clear hp
 conv=>arg 2;whnf
 go_wp2_with (go_at_call 53;go_loud (refine (HS.out.pick1 3 hL (by omega) (by omega) (by omega)).mono ?_;rw [<-Hp.out];rintro r w9 ⟨rfl,hd⟩;have HS9:Hid (FS w0 w9 g v l b3 b4 b5 n xr (k+1) m ve):=hd;clear hd))
 exact hP _ _ ⟨rfl,rfl⟩ rfl rfl rfl rfl (by simp [Act.eval,bne,beq0]) HS9.out
theorem df12f {w0:World}{g k b3 b4 b5:Nat}{v:Value}{l:List Int}{n:Nd}{xr:RV}{m:Mg}{ve:Value}(hro:¬ n.ro=3){Q:Exit->Act->World->Prop}{K:Act->World->Prop}{a:Act}{w:World}(hF:SzD a 343)(h0:a.eval (.tmp 0)=.pointer (some ⟨g,0,none⟩))(h3:a.eval (.tmp 3)=.pointer (some ⟨b3,0,none⟩))(h4:a.eval (.tmp 4)=.pointer (some ⟨b4,0,none⟩))(h5:a.eval (.tmp 5)=.pointer (some ⟨b5,0,none⟩))(hS:FS w0 w g v l b3 b4 b5 n xr k m ve)(hP:∀ a' w',SzD a' 343->a'.eval (.tmp 0)=.pointer (some ⟨g,0,none⟩)->a'.eval (.tmp 3)=.pointer (some ⟨b3,0,none⟩)->a'.eval (.tmp 4)=.pointer (some ⟨b4,0,none⟩)->a'.eval (.tmp 5)=.pointer (some ⟨b5,0,none⟩)->a'.eval (.tmp 74)=.bool false->FS w0 w' g v l b3 b4 b5 n xr k m ve->K a' w'):(Z1 0 (Z1 8 (Z3 Tryz.f54))).wp Tryz.prog (Exit.then K Q) a w:=by
 obtain ⟨t,rfl⟩:=hF.opened;clear hF;rw [Z3z]
 try dsimp only
 rw [show t 0=_ from h0,show t 3=_ from h3,show t 4=_ from h4,show t 5=_ from h5];clear h0 h3 h4 h5;have n6:w.cell? ⟨b3,6,none⟩=some (.int .i64 n.ro):=hS.nb.cell 6;have hb:(n.ro == 3)=false:=by simpa using hro
 have HS:Hid (FS w0 w g v l b3 b4 b5 n xr k m ve):=hS;clear hS
 conv=>arg 2;whnf
 go_wp2_with fail
 exact hP _ _ ⟨rfl,rfl⟩ rfl rfl rfl rfl rfl HS.out
theorem df13 {w0:World}{g k b3 b4 b5:Nat}{v:Value}{l:List Int}{n:Nd}{xr:RV}{m:Mg}{ve:Value}{Q:Exit->Act->World->Prop}{K:Act->World->Prop}{a:Act}{w:World}(hF:SzD a 343)(h0:a.eval (.tmp 0)=.pointer (some ⟨g,0,none⟩))(h3:a.eval (.tmp 3)=.pointer (some ⟨b3,0,none⟩))(h4:a.eval (.tmp 4)=.pointer (some ⟨b4,0,none⟩))(h5:a.eval (.tmp 5)=.pointer (some ⟨b5,0,none⟩))(hS:FS w0 w g v l b3 b4 b5 n xr k m ve)(hP:∀ a' w',SzD a' 343->a'.eval (.tmp 0)=.pointer (some ⟨g,0,none⟩)->a'.eval (.tmp 3)=.pointer (some ⟨b3,0,none⟩)->a'.eval (.tmp 4)=.pointer (some ⟨b4,0,none⟩)->a'.eval (.tmp 5)=.pointer (some ⟨b5,0,none⟩)->FS w0 w' g v l b3 b4 b5 n xr k { m with ki:=6 } ve->K a' w'):(Zj (Z2 1 (Z1 8 (Z3 Tryz.f54)))).wp Tryz.prog (Exit.then K Q) a w:=by
 obtain ⟨t,rfl⟩:=hF.opened;clear hF;rw [Z3z]
 try dsimp only
 rw [show t 0=_ from h0,show t 3=_ from h3,show t 4=_ from h4,show t 5=_ from h5];clear h0 h3 h4 h5;have m0:w.cell? ⟨b5,0,none⟩=some (.int .i64 m.ki):=hS.mb.cell 0;have f0:w.frozen? ⟨b5,0,none⟩=false:=hS.mb.free 0;have HS:Hid (FS w0 w g v l b3 b4 b5 n xr k m ve):=hS;clear hS
 conv=>arg 2;whnf
 go_wp2_with fail
 exact hP _ _ ⟨rfl,rfl⟩ rfl rfl rfl rfl (HS.out.set 0 (by omega) _ rfl rfl)
theorem df14 {w0:World}{g k b3 b4 b5:Nat}{v:Value}{l:List Int}{n:Nd}{xr:RV}{m:Mg}{ve:Value}(hL:l.length<=1048576)(hk:k<=890000000){Q:Exit->Act->World->Prop}{K:Act->World->Prop}{a:Act}{w:World}(hF:SzD a 343)(h0:a.eval (.tmp 0)=.pointer (some ⟨g,0,none⟩))(h3:a.eval (.tmp 3)=.pointer (some ⟨b3,0,none⟩))(h4:a.eval (.tmp 4)=.pointer (some ⟨b4,0,none⟩))(h5:a.eval (.tmp 5)=.pointer (some ⟨b5,0,none⟩))(hS:FS w0 w g v l b3 b4 b5 n xr k m ve)(hP:∀ a' w',SzD a' 343->a'.eval (.tmp 0)=.pointer (some ⟨g,0,none⟩)->a'.eval (.tmp 3)=.pointer (some ⟨b3,0,none⟩)->a'.eval (.tmp 4)=.pointer (some ⟨b4,0,none⟩)->a'.eval (.tmp 5)=.pointer (some ⟨b5,0,none⟩)->a'.eval (.tmp 6)=.int .i64 (Z5 l k 7:Nat)->FS w0 w' g v l b3 b4 b5 n xr (k+1) m ve->K a' w'):(Z1 9 (Z3 Tryz.f54)).wp Tryz.prog (Exit.then K Q) a w:=by
 obtain ⟨t,rfl⟩:=hF.opened;clear hF;rw [Z3z]
 try dsimp only
 rw [show t 0=_ from h0,show t 3=_ from h3,show t 4=_ from h4,show t 5=_ from h5];clear h0 h3 h4 h5;have HS:Hid (FS w0 w g v l b3 b4 b5 n xr k m ve):=hS;clear hS;obtain ⟨p,hp⟩:∃ p,p=Z5 l k 7:=⟨_,rfl⟩;have Hp:Hid (p=Z5 l k 7):=hp;rw [<-hp] at hP;have bp:p<7:=by rw [hp];exact Zf _ _ _ (by omega)
 clear hp
 conv=>arg 2;whnf
 go_wp2_with (go_at_call 53;go_loud (refine (HS.out.pick1 7 hL (by omega) (by omega) (by omega)).mono ?_;rw [<-Hp.out];rintro r w9 ⟨rfl,hd⟩;have HS9:Hid (FS w0 w9 g v l b3 b4 b5 n xr (k+1) m ve):=hd;clear hd))
 exact hP _ _ ⟨rfl,rfl⟩ rfl rfl rfl rfl rfl HS9.out
theorem df15 {w0:World}{g k b3 b4 b5:Nat}{v:Value}{l:List Int}{n:Nd}{xr:RV}{m:Mg}{ve:Value}{e6:Value}{Q:Exit->Act->World->Prop}{K:Act->World->Prop}{a:Act}{w:World}(hF:SzD a 343)(h0:a.eval (.tmp 0)=.pointer (some ⟨g,0,none⟩))(h3:a.eval (.tmp 3)=.pointer (some ⟨b3,0,none⟩))(h4:a.eval (.tmp 4)=.pointer (some ⟨b4,0,none⟩))(h5:a.eval (.tmp 5)=.pointer (some ⟨b5,0,none⟩))(h6:a.eval (.tmp 6)=e6)(hS:FS w0 w g v l b3 b4 b5 n xr k m ve)(hP:∀ a' w',SzD a' 343->a'.eval (.tmp 0)=.pointer (some ⟨g,0,none⟩)->a'.eval (.tmp 3)=.pointer (some ⟨b3,0,none⟩)->a'.eval (.tmp 4)=.pointer (some ⟨b4,0,none⟩)->a'.eval (.tmp 5)=.pointer (some ⟨b5,0,none⟩)->a'.eval (.tmp 6)=e6->a'.eval (.tmp 7)=.int .i64 n.tm->FS w0 w' g v l b3 b4 b5 n xr k m ve->K a' w'):(Z1 10 (Z3 Tryz.f54)).wp Tryz.prog (Exit.then K Q) a w:=by
 obtain ⟨t,rfl⟩:=hF.opened;clear hF;rw [Z3z]
 try dsimp only
 rw [show t 0=_ from h0,show t 3=_ from h3,show t 4=_ from h4,show t 5=_ from h5,show t 6=_ from h6];clear h0 h3 h4 h5 h6;have n4:w.cell? ⟨b3,4,none⟩=some (.int .i64 n.tm):=hS.nb.cell 4;have HS:Hid (FS w0 w g v l b3 b4 b5 n xr k m ve):=hS;clear hS
 conv=>arg 2;whnf
 go_wp2_with fail
 exact hP _ _ ⟨rfl,rfl⟩ rfl rfl rfl rfl rfl rfl HS.out
structure BW (W:World) where
 w:World
 h:Below W.heap.size W w
theorem Z12 {w:World}{b:Nat}{C:Array Value}{t:TypeId}(h:Blk w b C t)(ty:TypeId){d:TypeDesc}(hu:Tryz.prog.underlying ty=some d)(hd:d.isRow=true)(hi:(Tryz.prog.info? ty).map (·.size)=some C.size):Sem.run Tryz.prog (loadVar ty ⟨b,0,none⟩) w=.ok (.agg C) w:=
 run_loadVar_mid w b 0 ty C.toList d h.range hu hd (by rw [hi];simp)
theorem Z35 {P:Program}{W:World}{o:Oper}{a:Act}{K:Act->Prop}{ad:Addr}{v:Value}(ty:TypeId)(y:Operand)(ho:o.op=.load ty y)(hy:a.eval y=.pointer (some ad))(hr:∀ u:BW W,Sem.run P (loadVar ty ad) u.w=.ok v u.w)(hk:K (a.put o.dst v)):o.quiet P a (fun w'=>∃ u:BW W,w'=u.w) K:=by
 refine ⟨v,?_,hk⟩;rintro w' ⟨u,rfl⟩;unfold Oper.quietAt execOp;simp only [ho,hy,Instr.loadAt,Instr.sureAddr,Sem.run_bind,Sem.run_pure,Result.andThen_ok,hr u];exact ⟨rfl,rfl⟩
theorem adopt_n (r:Rn)(t:Int):(r.adopt t).n.id=r.n.id/\(r.adopt t).n.sz=r.n.sz/\(r.adopt t).n.el=r.n.el/\(r.adopt t).n.bt=r.n.bt/\(r.adopt t).n.tm=t/\(r.adopt t).n.vo=0/\(r.adopt t).n.ro=0/\(r.adopt t).n.ld=0/\(r.adopt t).n.cm=r.n.cm/\(r.adopt t).n.nw=r.n.nw/\(r.adopt t).n.hd=r.n.hd/\(r.adopt t).n.log=r.n.log/\(r.adopt t).out=r.out/\(r.adopt t).draw=r.draw/\(r.adopt t).code=r.code:=by
 unfold Rn.adopt;split <;> exact ⟨rfl,rfl,rfl,rfl,rfl,rfl,rfl,rfl,rfl,rfl,rfl,rfl,rfl,rfl,rfl⟩
theorem NdB.adopt {r:Rn}(h:NdB r.n)(t:Int):NdB (r.adopt t).n:=by
 obtain ⟨e1,e2,e3,e4,-,-,-,-,e9,e10,e11,e12,-⟩:=adopt_n r t;exact ⟨by rw [e10];exact h.nw0,by rw [e10];exact h.nw1,by rw [e11];exact h.hd0,by rw [e11,e10];exact h.hd1,by rw [e2];exact h.sz0,by rw [e2];exact h.sz1,by rw [e1];exact h.id0,by rw [e1,e2];exact h.id1,by rw [e12];exact h.ln⟩
theorem NdB.higher {r:Rn}(h:NdB r.n)(t:Int):NdB (r.higher t).n:=by
 unfold Rn.higher;split
 ·exact h.adopt t
 ·exact h
theorem higher_draw (r:Rn)(t:Int):(r.higher t).draw=r.draw:=by
 unfold Rn.higher;split
 ·exact (adopt_n r t).2.2.2.2.2.2.2.2.2.2.2.2.2.1
 ·rfl
end Go.Proofs.YtmmpoppgabadmaaGreat
