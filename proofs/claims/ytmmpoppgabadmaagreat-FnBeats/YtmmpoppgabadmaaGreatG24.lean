import Derived.Test.YtmmpoppgabadmaaGreatG23
set_option linter.unusedVariables false
set_option linter.unusedSimpArgs false
set_option maxRecDepth 100000
set_option maxHeartbeats 16000000
namespace Go.Proofs.YtmmpoppgabadmaaGreat
open Go.RowKit
section
variable {Q:Exit->Act->World->Prop} {K:Act->World->Prop} {c:DC} {d:DnS} {X:RV} {a:Act} {w:World}
theorem neJ (j i:Nat):(((j:Int)+1) != (i:Int))=decide (j+1≠i):=by
 by_cases h:j+1=i
 ·have h2:(j:Int)+1=i:=by omega
  simp [h,h2]
 ·have h2:¬(j:Int)+1=i:=by omega
  simp [h,h2]
theorem dnL53 (hc:c.Ok){m:Nat}(hm0:m<=899000000)(hb:DB d m){j:Nat}(hj:j<c.SZ)(h15:a.eval (.tmp 15)=.int .i64 ((j:Int)+1))(hF:c.Fr a)(hS:c.N w d X)(hP:∀ a' w',c.Fr a'->a'.eval (.tmp 15)=.int .i64 ((j:Int)+1)->c.N w' d X->K a' w'):(Z2 0 (Zy (Zf (Z1 4 (Zo (Z1 1 (Z2 18 (Z9 Tryz.f51)))))))).wp Tryz.prog (Exit.then K Q) a w:=by
 obtain ⟨t,rfl⟩:=hF.opened;have hsz:=hc.sz;have hel:=hc.el;have hid:=hc.id;have hnw:=hb.nw;have hkb:=hb.k;have hlg:=hb.lg;clear hF;have HS:Hid (c.N w d X):=hS;clear hS;rw [show t 15=.int .i64 ((j:Int)+1) from h15];clear h15
 conv=>arg 2;whnf
 go_wp2_with fail
 exact hP _ _ ⟨rfl,rfl,rfl,rfl,rfl,rfl,rfl,rfl,rfl⟩ rfl HS.out
theorem dnL0 {R:Exit->Act->World->Prop}(hc:c.Ok){m:Nat}(hm0:m<=899000000)(hb:DB d m)(hF:c.Fr a)(h15:a.eval (.tmp 15)=.int .i64 ((c.SZ:Int)+1))(hP:∀ a',c.Fr a'->R (.exit 4) a' w):(Zy (Zf (Z1 4 (Zo (Z1 1 (Z2 18 (Z9 Tryz.f51))))))).wp Tryz.prog (Exit.then K R) a w:=by
 obtain ⟨t,rfl⟩:=hF.opened;have hsz:=hc.sz;have hel:=hc.el;have hid:=hc.id;have hnw:=hb.nw;have hkb:=hb.k;have hlg:=hb.lg;clear hF;rw [show t 15=.int .i64 ((c.SZ:Int)+1) from h15];clear h15;have HP:Hid (∀ a',c.Fr a'->R (.exit 4) a' w):=hP;clear hP
 conv=>arg 2;whnf
 go_wp2_with fail
 exact HP.out _ ⟨rfl,rfl,rfl,rfl,rfl,rfl,rfl,rfl,rfl⟩
theorem dnL55 (hc:c.Ok){m:Nat}(hm0:m<=899000000)(hb:DB d m){e15:Value}(h15:a.eval (.tmp 15)=e15)(hF:c.Fr a)(hS:c.N w d X)(hP:∀ a' w',c.Fr a'->a'.eval (.tmp 15)=e15->a'.eval (.tmp 16)=.int .i64 0->a'.eval (.tmp 17)=.int .i64 0->a'.eval (.tmp 18)=.int .i64 0->a'.eval (.tmp 19)=.int .i64 0->c.N w' d X->K a' w'):(Z2 0 (Zf (Z2 1 (Zy (Zf (Z1 4 (Zo (Z1 1 (Z2 18 (Z9 Tryz.f51)))))))))).wp Tryz.prog (Exit.then K Q) a w:=by
 obtain ⟨t,rfl⟩:=hF.opened;have hsz:=hc.sz;have hel:=hc.el;have hid:=hc.id;have hnw:=hb.nw;have hkb:=hb.k;have hlg:=hb.lg;clear hF;have HS:Hid (c.N w d X):=hS;clear hS;rw [show t 15=e15 from h15];clear h15
 conv=>arg 2;whnf
 go_wp2_with fail
 exact hP _ _ ⟨rfl,rfl,rfl,rfl,rfl,rfl,rfl,rfl,rfl⟩ rfl rfl rfl rfl rfl HS.out
theorem dnL56 (hc:c.Ok){m:Nat}(hm0:m<=899000000)(hb:DB d m){j:Nat}{e16:Value}(h16:a.eval (.tmp 16)=e16){e17:Value}(h17:a.eval (.tmp 17)=e17){e18:Value}(h18:a.eval (.tmp 18)=e18){e19:Value}(h19:a.eval (.tmp 19)=e19)(h15:a.eval (.tmp 15)=.int .i64 ((j:Int)+1))(hF:c.Fr a)(hS:c.N w d X)(hP:∀ a' w',c.Fr a'->a'.eval (.tmp 16)=e16->a'.eval (.tmp 17)=e17->a'.eval (.tmp 18)=e18->a'.eval (.tmp 19)=e19->a'.eval (.tmp 15)=.int .i64 ((j:Int)+1)->a'.eval (.tmp 232)=.bool (decide (j+1≠c.ID))->c.N w' d X->K a' w'):(Z2 0 (Z2 1 (Zf (Z2 1 (Zy (Zf (Z1 4 (Zo (Z1 1 (Z2 18 (Z9 Tryz.f51))))))))))).wp Tryz.prog (Exit.then K Q) a w:=by
 obtain ⟨t,rfl⟩:=hF.opened;have hsz:=hc.sz;have hel:=hc.el;have hid:=hc.id;have hnw:=hb.nw;have hkb:=hb.k;have hlg:=hb.lg;clear hF;have HS:Hid (c.N w d X):=hS;clear hS;rw [show t 15=.int .i64 ((j:Int)+1) from h15];rw [show t 16=e16 from h16];rw [show t 17=e17 from h17];rw [show t 18=e18 from h18];rw [show t 19=e19 from h19];clear h15 h16 h17 h18 h19
 conv=>arg 2;whnf
 go_wp2_with fail
 exact hP _ _ ⟨rfl,rfl,rfl,rfl,rfl,rfl,rfl,rfl,rfl⟩ rfl rfl rfl rfl rfl (by simp only [Act.eval];exact congrArg _ (neJ j c.ID)) HS.out
theorem dnL57 (hc:c.Ok){m:Nat}(hm0:m<=899000000)(hb:DB d m){e15:Value}(h15:a.eval (.tmp 15)=e15)(hF:c.Fr a)(hS:c.N w d X)(hP:∀ a' w',c.Fr a'->a'.eval (.tmp 15)=e15->a'.eval (.tmp 16)=.int .i64 ((d.n.log.length+1-Z4 c.l d.k (min d.n.log.length 6+1):Nat):Int)->c.N w' ⟨d.n,d.k+1⟩ X->K a' w'):(Z2 0 (Zo (Z1 1 (Z2 1 (Zf (Z2 1 (Zy (Zf (Z1 4 (Zo (Z1 1 (Z2 18 (Z9 Tryz.f51))))))))))))).wp Tryz.prog (Exit.then K Q) a w:=by
 obtain ⟨ra,rc,hvl⟩:=hS.vl;have Hvl:Hid (X.vl=.slice ra d.n.log.length rc):=hvl;clear hvl;obtain ⟨N,hN⟩:∃ N,N=d.n.log.length:=⟨_,rfl⟩;rw [<-hN] at hP Hvl;have HN:Hid (N=d.n.log.length):=hN;have hN2:N<=200:=by rw [hN];exact hb.lg
 clear hN;obtain ⟨mi,hm⟩:∃ q,q=min (N:Int) 6:=⟨_,rfl⟩;have HMi:Hid (mi=min (N:Int) 6):=hm;obtain ⟨M,HM⟩:∃ q,q=min N 6+1:=⟨_,rfl⟩;rw [<-HM] at hP;have hM1:(M:Int)=mi+1:=by omega
 have hM2:M<=7:=by omega
 have hM3:M<=N+1:=by omega
 obtain ⟨pD,hpD⟩:∃ p,p=Z4 c.l d.k M:=⟨_,rfl⟩;rw [<-hpD] at hP;have HPD:Hid (pD=Z4 c.l d.k M):=hpD;have bD:pD<M:=by rw [hpD];exact Zi _ _ _ (by omega)
 clear hpD hm HM;obtain ⟨NX,hNX⟩:∃ q,q=N+1-pD:=⟨_,rfl⟩;rw [<-hNX] at hP;have hNX1:(NX:Int)=(N:Int)+1-pD:=by omega
 clear hNX;have hsz:=hc.sz;have hel:=hc.el;have hid:=hc.id;have hnw:=hb.nw;have hkb:=hb.k;have hlg:=hb.lg
 conv=>arg 2;whnf
 refine Z00 (fun a0=>a0.tmps.size=297/\a0.eval (.tmp 0)=.pointer (some ⟨c.g,0,none⟩)/\a0.eval (.tmp 9)=.pointer (some ⟨c.b9,0,none⟩)) (fun a0 aF w'=>∃ x:Nat->Value,aF=frame a0 [233,234,235,236,237,238,239,240,241,242,243,244,16] x/\(c.N w' ⟨d.n,d.k+1⟩ X/\x 16=.int .i64 (NX:Int))) ?_ ⟨hF.sz,hF.e0,hF.e9⟩ ?_
 ·rintro a0 ⟨hsz0,e0,e9⟩
  refine Yv (by kernel_rfl) (fun L aF w'=>∃ x:Nat->Value,aF=frame a0 [233,234,235,236,237,238,239,240,241,242,243,244,16] x/\(St3 (fun W=>c.N W d X) (fun W=>c.N W d X) (fun W=>c.N W ⟨d.n,d.k+1⟩ X)) (L.getD 10 false) (L.getD 10 false) w'/\(L.getD 0 false=true->x 233=.pointer (some ⟨c.b9,12,none⟩))/\(L.getD 1 false=true->x 234=.slice ra N rc)/\(L.getD 2 false=true->x 235=.int .i64 (N:Int))/\(L.getD 3 false=true->x 236=.int .i64 ((N:Int)+1))/\(L.getD 4 false=true->x 237=.pointer (some ⟨c.g,0,none⟩))/\(L.getD 5 false=true->x 238=.pointer (some ⟨c.b9,12,none⟩))/\(L.getD 6 false=true->x 239=.slice ra N rc)/\(L.getD 7 false=true->x 240=.int .i64 (N:Int))/\(L.getD 8 false=true->x 241=.int .i64 mi)/\(L.getD 9 false=true->x 242=.int .i64 (M:Int))/\(L.getD 10 false=true->x 243=.int .i64 (pD:Int))/\(L.getD 11 false=true->x 244=.int .i64 (NX:Int))/\(L.getD 12 false=true->x 16=.int .i64 (NX:Int))) ?_ ?_ ?_
  ·refine ⟨_,Xn a0 [233,234,235,236,237,238,239,240,241,242,243,244,16],?_,fun h=>(Zt h).elim,fun h=>(Zt h).elim,fun h=>(Zt h).elim,fun h=>(Zt h).elim,fun h=>(Zt h).elim,fun h=>(Zt h).elim,fun h=>(Zt h).elim,fun h=>(Zt h).elim,fun h=>(Zt h).elim,fun h=>(Zt h).elim,fun h=>(Zt h).elim,fun h=>(Zt h).elim,fun h=>(Zt h).elim⟩
   rw [bit0];exact hS.drew
  ·rintro L a w' i hsL hi ⟨x,rfl,hS,h0,h1,h2,h3,h4,h5,h6,h7,h8,h9,h10,h11,h12⟩
   have hlt:∀ j,j<13->j<L.size:=fun j hj=>by rw [hsL];exact hj
   have hsl:∀ j,j<297->j<a0.tmps.size:=fun j hj=>by rw [hsz0];exact hj
   have hiL:i<13:=(Y9 hsL hi).1;have hLz:L.size=13:=hsL;have hcell12:w'.cell? ⟨c.b9,12,none⟩=some (.slice ra N rc):=by refine St3.any (P:=fun W=>W.cell? ⟨c.b9,12,none⟩=some (.slice ra N rc)) ?_ ?_ ?_ hS <;> intro W h <;> (rw [<-Hvl.out];exact (DC.N.blk h).cell 12)
   rcases (show i=0∨i=1∨i=2∨i=3∨i=4∨i=5∨i=6∨i=7∨i=8∨i=9∨i=10∨i=11∨i=12 by omega) with rfl | rfl | rfl | rfl | rfl | rfl | rfl | rfl | rfl | rfl | rfl | rfl | rfl
   ·skip
    have ev9:(frame a0 [233,234,235,236,237,238,239,240,241,242,243,244,16] x).tmps[9]?.getD undef=.pointer (some ⟨c.b9,0,none⟩):=by have h:=(Zm a0 [233,234,235,236,237,238,239,240,241,242,243,244,16] x 9 rfl).trans e9;simpa [Act.eval] using h
    refine Za rfl rfl (Zl (v:=.pointer (some ⟨c.b9,12,none⟩)) ?_ ?_)
    ·obtain ⟨aa,haa⟩:∃ aa,aa=frame a0 [233,234,235,236,237,238,239,240,241,242,243,244,16] x:=⟨_,rfl⟩
     rw [<-haa] at ev9 ⊢;clear haa;go_simp
    exact ⟨_,Zd _ _ _ 233 _ rfl,(by rw [Y4 (hlt 0 (by decide)) (by decide)];exact hS),fun h=>Zh _ _ _,ke h1 (hlt 0 (by decide)) (by decide) (by decide),ke h2 (hlt 0 (by decide)) (by decide) (by decide),ke h3 (hlt 0 (by decide)) (by decide) (by decide),ke h4 (hlt 0 (by decide)) (by decide) (by decide),ke h5 (hlt 0 (by decide)) (by decide) (by decide),ke h6 (hlt 0 (by decide)) (by decide) (by decide),ke h7 (hlt 0 (by decide)) (by decide) (by decide),ke h8 (hlt 0 (by decide)) (by decide) (by decide),ke h9 (hlt 0 (by decide)) (by decide) (by decide),ke h10 (hlt 0 (by decide)) (by decide) (by decide),ke h11 (hlt 0 (by decide)) (by decide) (by decide),ke h12 (hlt 0 (by decide)) (by decide) (by decide)⟩
   ·have d0:=h0 (Z7 hi (by decide))
    have ev233:(frame a0 [233,234,235,236,237,238,239,240,241,242,243,244,16] x).tmps[233]?.getD undef=.pointer (some ⟨c.b9,12,none⟩):=by have h:=(Z5 a0 [233,234,235,236,237,238,239,240,241,242,243,244,16] x 233 rfl (hsl 233 (by decide))).trans d0;simpa [Act.eval] using h
    refine Za rfl rfl (Zl (v:=.slice ra N rc) ?_ ?_)
    ·obtain ⟨aa,haa⟩:∃ aa,aa=frame a0 [233,234,235,236,237,238,239,240,241,242,243,244,16] x:=⟨_,rfl⟩
     rw [<-haa] at ev233 ⊢;clear haa;go_simp
    exact ⟨_,Zd _ _ _ 234 _ rfl,(by rw [Y4 (hlt 1 (by decide)) (by decide)];exact hS),ke h0 (hlt 1 (by decide)) (by decide) (by decide),fun h=>Zh _ _ _,ke h2 (hlt 1 (by decide)) (by decide) (by decide),ke h3 (hlt 1 (by decide)) (by decide) (by decide),ke h4 (hlt 1 (by decide)) (by decide) (by decide),ke h5 (hlt 1 (by decide)) (by decide) (by decide),ke h6 (hlt 1 (by decide)) (by decide) (by decide),ke h7 (hlt 1 (by decide)) (by decide) (by decide),ke h8 (hlt 1 (by decide)) (by decide) (by decide),ke h9 (hlt 1 (by decide)) (by decide) (by decide),ke h10 (hlt 1 (by decide)) (by decide) (by decide),ke h11 (hlt 1 (by decide)) (by decide) (by decide),ke h12 (hlt 1 (by decide)) (by decide) (by decide)⟩
   ·have d1:=h1 (Z7 hi (by decide))
    have ev234:(frame a0 [233,234,235,236,237,238,239,240,241,242,243,244,16] x).tmps[234]?.getD undef=.slice ra N rc:=by have h:=(Z5 a0 [233,234,235,236,237,238,239,240,241,242,243,244,16] x 234 rfl (hsl 234 (by decide))).trans d1;simpa [Act.eval] using h
    refine Za rfl rfl (Zl (v:=.int .i64 (N:Int)) ?_ ?_)
    ·obtain ⟨aa,haa⟩:∃ aa,aa=frame a0 [233,234,235,236,237,238,239,240,241,242,243,244,16] x:=⟨_,rfl⟩
     rw [<-haa] at ev234 ⊢;clear haa;go_simp
    exact ⟨_,Zd _ _ _ 235 _ rfl,(by rw [Y4 (hlt 2 (by decide)) (by decide)];exact hS),ke h0 (hlt 2 (by decide)) (by decide) (by decide),ke h1 (hlt 2 (by decide)) (by decide) (by decide),fun h=>Zh _ _ _,ke h3 (hlt 2 (by decide)) (by decide) (by decide),ke h4 (hlt 2 (by decide)) (by decide) (by decide),ke h5 (hlt 2 (by decide)) (by decide) (by decide),ke h6 (hlt 2 (by decide)) (by decide) (by decide),ke h7 (hlt 2 (by decide)) (by decide) (by decide),ke h8 (hlt 2 (by decide)) (by decide) (by decide),ke h9 (hlt 2 (by decide)) (by decide) (by decide),ke h10 (hlt 2 (by decide)) (by decide) (by decide),ke h11 (hlt 2 (by decide)) (by decide) (by decide),ke h12 (hlt 2 (by decide)) (by decide) (by decide)⟩
   ·have d2:=h2 (Z7 hi (by decide))
    have ev235:(frame a0 [233,234,235,236,237,238,239,240,241,242,243,244,16] x).tmps[235]?.getD undef=.int .i64 (N:Int):=by have h:=(Z5 a0 [233,234,235,236,237,238,239,240,241,242,243,244,16] x 235 rfl (hsl 235 (by decide))).trans d2;simpa [Act.eval] using h
    refine Za rfl rfl (Zl (v:=.int .i64 ((N:Int)+1)) ?_ ?_)
    ·obtain ⟨aa,haa⟩:∃ aa,aa=frame a0 [233,234,235,236,237,238,239,240,241,242,243,244,16] x:=⟨_,rfl⟩
     rw [<-haa] at ev235 ⊢;clear haa;go_simp;rw [IntKind.wrap_i64];omega
    exact ⟨_,Zd _ _ _ 236 _ rfl,(by rw [Y4 (hlt 3 (by decide)) (by decide)];exact hS),ke h0 (hlt 3 (by decide)) (by decide) (by decide),ke h1 (hlt 3 (by decide)) (by decide) (by decide),ke h2 (hlt 3 (by decide)) (by decide) (by decide),fun h=>Zh _ _ _,ke h4 (hlt 3 (by decide)) (by decide) (by decide),ke h5 (hlt 3 (by decide)) (by decide) (by decide),ke h6 (hlt 3 (by decide)) (by decide) (by decide),ke h7 (hlt 3 (by decide)) (by decide) (by decide),ke h8 (hlt 3 (by decide)) (by decide) (by decide),ke h9 (hlt 3 (by decide)) (by decide) (by decide),ke h10 (hlt 3 (by decide)) (by decide) (by decide),ke h11 (hlt 3 (by decide)) (by decide) (by decide),ke h12 (hlt 3 (by decide)) (by decide) (by decide)⟩
   ·skip
    refine Za rfl rfl (Y2 (.tmp 0) (Or.inl rfl) ?_);rw [Zm _ _ _ 0 rfl,e0];exact ⟨_,Zd _ _ _ 237 _ rfl,(by rw [Y4 (hlt 4 (by decide)) (by decide)];exact hS),ke h0 (hlt 4 (by decide)) (by decide) (by decide),ke h1 (hlt 4 (by decide)) (by decide) (by decide),ke h2 (hlt 4 (by decide)) (by decide) (by decide),ke h3 (hlt 4 (by decide)) (by decide) (by decide),fun h=>Zh _ _ _,ke h5 (hlt 4 (by decide)) (by decide) (by decide),ke h6 (hlt 4 (by decide)) (by decide) (by decide),ke h7 (hlt 4 (by decide)) (by decide) (by decide),ke h8 (hlt 4 (by decide)) (by decide) (by decide),ke h9 (hlt 4 (by decide)) (by decide) (by decide),ke h10 (hlt 4 (by decide)) (by decide) (by decide),ke h11 (hlt 4 (by decide)) (by decide) (by decide),ke h12 (hlt 4 (by decide)) (by decide) (by decide)⟩
   ·skip
    have ev9:(frame a0 [233,234,235,236,237,238,239,240,241,242,243,244,16] x).tmps[9]?.getD undef=.pointer (some ⟨c.b9,0,none⟩):=by have h:=(Zm a0 [233,234,235,236,237,238,239,240,241,242,243,244,16] x 9 rfl).trans e9;simpa [Act.eval] using h
    refine Za rfl rfl (Zl (v:=.pointer (some ⟨c.b9,12,none⟩)) ?_ ?_)
    ·obtain ⟨aa,haa⟩:∃ aa,aa=frame a0 [233,234,235,236,237,238,239,240,241,242,243,244,16] x:=⟨_,rfl⟩
     rw [<-haa] at ev9 ⊢;clear haa;go_simp
    exact ⟨_,Zd _ _ _ 238 _ rfl,(by rw [Y4 (hlt 5 (by decide)) (by decide)];exact hS),ke h0 (hlt 5 (by decide)) (by decide) (by decide),ke h1 (hlt 5 (by decide)) (by decide) (by decide),ke h2 (hlt 5 (by decide)) (by decide) (by decide),ke h3 (hlt 5 (by decide)) (by decide) (by decide),ke h4 (hlt 5 (by decide)) (by decide) (by decide),fun h=>Zh _ _ _,ke h6 (hlt 5 (by decide)) (by decide) (by decide),ke h7 (hlt 5 (by decide)) (by decide) (by decide),ke h8 (hlt 5 (by decide)) (by decide) (by decide),ke h9 (hlt 5 (by decide)) (by decide) (by decide),ke h10 (hlt 5 (by decide)) (by decide) (by decide),ke h11 (hlt 5 (by decide)) (by decide) (by decide),ke h12 (hlt 5 (by decide)) (by decide) (by decide)⟩
   ·have d5:=h5 (Z7 hi (by decide))
    have ev238:(frame a0 [233,234,235,236,237,238,239,240,241,242,243,244,16] x).tmps[238]?.getD undef=.pointer (some ⟨c.b9,12,none⟩):=by have h:=(Z5 a0 [233,234,235,236,237,238,239,240,241,242,243,244,16] x 238 rfl (hsl 238 (by decide))).trans d5;simpa [Act.eval] using h
    refine Za rfl rfl (Zl (v:=.slice ra N rc) ?_ ?_)
    ·obtain ⟨aa,haa⟩:∃ aa,aa=frame a0 [233,234,235,236,237,238,239,240,241,242,243,244,16] x:=⟨_,rfl⟩
     rw [<-haa] at ev238 ⊢;clear haa;go_simp
    exact ⟨_,Zd _ _ _ 239 _ rfl,(by rw [Y4 (hlt 6 (by decide)) (by decide)];exact hS),ke h0 (hlt 6 (by decide)) (by decide) (by decide),ke h1 (hlt 6 (by decide)) (by decide) (by decide),ke h2 (hlt 6 (by decide)) (by decide) (by decide),ke h3 (hlt 6 (by decide)) (by decide) (by decide),ke h4 (hlt 6 (by decide)) (by decide) (by decide),ke h5 (hlt 6 (by decide)) (by decide) (by decide),fun h=>Zh _ _ _,ke h7 (hlt 6 (by decide)) (by decide) (by decide),ke h8 (hlt 6 (by decide)) (by decide) (by decide),ke h9 (hlt 6 (by decide)) (by decide) (by decide),ke h10 (hlt 6 (by decide)) (by decide) (by decide),ke h11 (hlt 6 (by decide)) (by decide) (by decide),ke h12 (hlt 6 (by decide)) (by decide) (by decide)⟩
   ·have d6:=h6 (Z7 hi (by decide))
    have ev239:(frame a0 [233,234,235,236,237,238,239,240,241,242,243,244,16] x).tmps[239]?.getD undef=.slice ra N rc:=by have h:=(Z5 a0 [233,234,235,236,237,238,239,240,241,242,243,244,16] x 239 rfl (hsl 239 (by decide))).trans d6;simpa [Act.eval] using h
    refine Za rfl rfl (Zl (v:=.int .i64 (N:Int)) ?_ ?_)
    ·obtain ⟨aa,haa⟩:∃ aa,aa=frame a0 [233,234,235,236,237,238,239,240,241,242,243,244,16] x:=⟨_,rfl⟩
     rw [<-haa] at ev239 ⊢;clear haa;go_simp
    exact ⟨_,Zd _ _ _ 240 _ rfl,(by rw [Y4 (hlt 7 (by decide)) (by decide)];exact hS),ke h0 (hlt 7 (by decide)) (by decide) (by decide),ke h1 (hlt 7 (by decide)) (by decide) (by decide),ke h2 (hlt 7 (by decide)) (by decide) (by decide),ke h3 (hlt 7 (by decide)) (by decide) (by decide),ke h4 (hlt 7 (by decide)) (by decide) (by decide),ke h5 (hlt 7 (by decide)) (by decide) (by decide),ke h6 (hlt 7 (by decide)) (by decide) (by decide),fun h=>Zh _ _ _,ke h8 (hlt 7 (by decide)) (by decide) (by decide),ke h9 (hlt 7 (by decide)) (by decide) (by decide),ke h10 (hlt 7 (by decide)) (by decide) (by decide),ke h11 (hlt 7 (by decide)) (by decide) (by decide),ke h12 (hlt 7 (by decide)) (by decide) (by decide)⟩
   ·have d7:=h7 (Z7 hi (by decide))
    have ev240:=(Z5 a0 [233,234,235,236,237,238,239,240,241,242,243,244,16] x 240 rfl (hsl 240 (by decide))).trans d7;refine Za rfl rfl (Yi (N:=55) rfl (fun _ _=>by go_simp) #[.int .i64 (N:Int),.int .i64 6] (by simp only [List.map_toArray,List.map_cons,List.map_nil,ev240,eval_c]) ?_);refine Calls.mono (Z17 _ _ _) ?_;rw [<-HMi.out];rintro e w2 ⟨rfl,rfl⟩;refine ⟨_,rfl,?_⟩;exact ⟨_,Zd _ _ _ 241 _ rfl,(by rw [Y4 (hlt 8 (by decide)) (by decide)];exact hS),ke h0 (hlt 8 (by decide)) (by decide) (by decide),ke h1 (hlt 8 (by decide)) (by decide) (by decide),ke h2 (hlt 8 (by decide)) (by decide) (by decide),ke h3 (hlt 8 (by decide)) (by decide) (by decide),ke h4 (hlt 8 (by decide)) (by decide) (by decide),ke h5 (hlt 8 (by decide)) (by decide) (by decide),ke h6 (hlt 8 (by decide)) (by decide) (by decide),ke h7 (hlt 8 (by decide)) (by decide) (by decide),fun h=>Zh _ _ _,ke h9 (hlt 8 (by decide)) (by decide) (by decide),ke h10 (hlt 8 (by decide)) (by decide) (by decide),ke h11 (hlt 8 (by decide)) (by decide) (by decide),ke h12 (hlt 8 (by decide)) (by decide) (by decide)⟩
   ·have d8:=h8 (Z7 hi (by decide))
    have ev241:(frame a0 [233,234,235,236,237,238,239,240,241,242,243,244,16] x).tmps[241]?.getD undef=.int .i64 mi:=by have h:=(Z5 a0 [233,234,235,236,237,238,239,240,241,242,243,244,16] x 241 rfl (hsl 241 (by decide))).trans d8;simpa [Act.eval] using h
    refine Za rfl rfl (Zl (v:=.int .i64 (M:Int)) ?_ ?_)
    ·obtain ⟨aa,haa⟩:∃ aa,aa=frame a0 [233,234,235,236,237,238,239,240,241,242,243,244,16] x:=⟨_,rfl⟩
     rw [<-haa] at ev241 ⊢;clear haa;go_simp;rw [IntKind.wrap_i64];omega
    exact ⟨_,Zd _ _ _ 242 _ rfl,(by rw [Y4 (hlt 9 (by decide)) (by decide)];exact hS),ke h0 (hlt 9 (by decide)) (by decide) (by decide),ke h1 (hlt 9 (by decide)) (by decide) (by decide),ke h2 (hlt 9 (by decide)) (by decide) (by decide),ke h3 (hlt 9 (by decide)) (by decide) (by decide),ke h4 (hlt 9 (by decide)) (by decide) (by decide),ke h5 (hlt 9 (by decide)) (by decide) (by decide),ke h6 (hlt 9 (by decide)) (by decide) (by decide),ke h7 (hlt 9 (by decide)) (by decide) (by decide),ke h8 (hlt 9 (by decide)) (by decide) (by decide),fun h=>Zh _ _ _,ke h10 (hlt 9 (by decide)) (by decide) (by decide),ke h11 (hlt 9 (by decide)) (by decide) (by decide),ke h12 (hlt 9 (by decide)) (by decide) (by decide)⟩
   ·have d4:=h4 (Z7 hi (by decide))
    have d9:=h9 (Z7 hi (by decide));have ev237:=(Z5 a0 [233,234,235,236,237,238,239,240,241,242,243,244,16] x 237 rfl (hsl 237 (by decide))).trans d4;have ev242:=(Z5 a0 [233,234,235,236,237,238,239,240,241,242,243,244,16] x 242 rfl (hsl 242 (by decide))).trans d9;refine Za rfl rfl (Yi (N:=53) rfl (fun _ _=>by go_simp) #[.pointer (some ⟨c.g,0,none⟩),.int .i64 (M:Int)] (by simp only [List.map_toArray,List.map_cons,List.map_nil,ev237,ev242]) ?_);have hb10:L.getD 10 false=false:=by have h9:=(Y9 hsL hi).2;rw [Array.getD_eq_getD_getElem?,h9];rfl
    rw [hb10] at hS;have hS0:c.N w' d X:=hS;refine Calls.mono (DC.N.pick1 hS0 hc M (by omega) (by omega) (by omega)) ?_;rw [<-HPD.out];rintro e w2 ⟨rfl,hd⟩;refine ⟨_,rfl,?_⟩;exact ⟨_,Zd _ _ _ 243 _ rfl,(by rw [J4 (hlt 10 (by decide))];exact hd),ke h0 (hlt 10 (by decide)) (by decide) (by decide),ke h1 (hlt 10 (by decide)) (by decide) (by decide),ke h2 (hlt 10 (by decide)) (by decide) (by decide),ke h3 (hlt 10 (by decide)) (by decide) (by decide),ke h4 (hlt 10 (by decide)) (by decide) (by decide),ke h5 (hlt 10 (by decide)) (by decide) (by decide),ke h6 (hlt 10 (by decide)) (by decide) (by decide),ke h7 (hlt 10 (by decide)) (by decide) (by decide),ke h8 (hlt 10 (by decide)) (by decide) (by decide),ke h9 (hlt 10 (by decide)) (by decide) (by decide),fun h=>Zh _ _ _,ke h11 (hlt 10 (by decide)) (by decide) (by decide),ke h12 (hlt 10 (by decide)) (by decide) (by decide)⟩
   ·have d3:=h3 (Z7 hi (by decide))
    have d10:=h10 (Z7 hi (by decide));have ev236:(frame a0 [233,234,235,236,237,238,239,240,241,242,243,244,16] x).tmps[236]?.getD undef=.int .i64 ((N:Int)+1):=by have h:=(Z5 a0 [233,234,235,236,237,238,239,240,241,242,243,244,16] x 236 rfl (hsl 236 (by decide))).trans d3;simpa [Act.eval] using h
    have ev243:(frame a0 [233,234,235,236,237,238,239,240,241,242,243,244,16] x).tmps[243]?.getD undef=.int .i64 (pD:Int):=by have h:=(Z5 a0 [233,234,235,236,237,238,239,240,241,242,243,244,16] x 243 rfl (hsl 243 (by decide))).trans d10;simpa [Act.eval] using h
    refine Za rfl rfl (Zl (v:=.int .i64 (NX:Int)) ?_ ?_)
    ·obtain ⟨aa,haa⟩:∃ aa,aa=frame a0 [233,234,235,236,237,238,239,240,241,242,243,244,16] x:=⟨_,rfl⟩
     rw [<-haa] at ev236 ev243 ⊢;clear haa;go_simp;rw [IntKind.wrap_i64];omega
    exact ⟨_,Zd _ _ _ 244 _ rfl,(by rw [Y4 (hlt 11 (by decide)) (by decide)];exact hS),ke h0 (hlt 11 (by decide)) (by decide) (by decide),ke h1 (hlt 11 (by decide)) (by decide) (by decide),ke h2 (hlt 11 (by decide)) (by decide) (by decide),ke h3 (hlt 11 (by decide)) (by decide) (by decide),ke h4 (hlt 11 (by decide)) (by decide) (by decide),ke h5 (hlt 11 (by decide)) (by decide) (by decide),ke h6 (hlt 11 (by decide)) (by decide) (by decide),ke h7 (hlt 11 (by decide)) (by decide) (by decide),ke h8 (hlt 11 (by decide)) (by decide) (by decide),ke h9 (hlt 11 (by decide)) (by decide) (by decide),ke h10 (hlt 11 (by decide)) (by decide) (by decide),fun h=>Zh _ _ _,ke h12 (hlt 11 (by decide)) (by decide) (by decide)⟩
   ·have d11:=h11 (Z7 hi (by decide))
    have ev244:(frame a0 [233,234,235,236,237,238,239,240,241,242,243,244,16] x).tmps[244]?.getD undef=.int .i64 (NX:Int):=by have h:=(Z5 a0 [233,234,235,236,237,238,239,240,241,242,243,244,16] x 244 rfl (hsl 244 (by decide))).trans d11;simpa [Act.eval] using h
    refine Za rfl rfl (Zl (v:=.int .i64 (NX:Int)) ?_ ?_)
    ·obtain ⟨aa,haa⟩:∃ aa,aa=frame a0 [233,234,235,236,237,238,239,240,241,242,243,244,16] x:=⟨_,rfl⟩
     rw [<-haa] at ev244 ⊢;clear haa;go_simp
    exact ⟨_,Zd _ _ _ 16 _ rfl,(by rw [Y4 (hlt 12 (by decide)) (by decide)];exact hS),ke h0 (hlt 12 (by decide)) (by decide) (by decide),ke h1 (hlt 12 (by decide)) (by decide) (by decide),ke h2 (hlt 12 (by decide)) (by decide) (by decide),ke h3 (hlt 12 (by decide)) (by decide) (by decide),ke h4 (hlt 12 (by decide)) (by decide) (by decide),ke h5 (hlt 12 (by decide)) (by decide) (by decide),ke h6 (hlt 12 (by decide)) (by decide) (by decide),ke h7 (hlt 12 (by decide)) (by decide) (by decide),ke h8 (hlt 12 (by decide)) (by decide) (by decide),ke h9 (hlt 12 (by decide)) (by decide) (by decide),ke h10 (hlt 12 (by decide)) (by decide) (by decide),ke h11 (hlt 12 (by decide)) (by decide) (by decide),fun h=>Zh _ _ _⟩
  ·rintro L a w' hsL hr ⟨x,rfl,hS,h0,h1,h2,h3,h4,h5,h6,h7,h8,h9,h10,h11,h12⟩
   have hall:=Xi hsL hr (by decide);replace h0:=h0 (hall 0 (by decide));replace h1:=h1 (hall 1 (by decide));replace h2:=h2 (hall 2 (by decide));replace h3:=h3 (hall 3 (by decide));replace h4:=h4 (hall 4 (by decide));replace h5:=h5 (hall 5 (by decide));replace h6:=h6 (hall 6 (by decide));replace h7:=h7 (hall 7 (by decide));replace h8:=h8 (hall 8 (by decide));replace h9:=h9 (hall 9 (by decide));replace h10:=h10 (hall 10 (by decide));replace h11:=h11 (hall 11 (by decide));replace h12:=h12 (hall 12 (by decide));rw [hall 10 (by decide)] at hS;exact ⟨rfl,x,rfl,⟨hS,h12⟩⟩
 ·rintro a' w' ⟨x,rfl,hFin⟩
  exact hP _ _ (hF.frame _ _ (by decide)) ((Zm a [233,234,235,236,237,238,239,240,241,242,243,244,16] x 15 rfl).trans h15) ((Z5 a [233,234,235,236,237,238,239,240,241,242,243,244,16] x 16 rfl (by rw [hF.sz];decide)).trans hFin.2) hFin.1
theorem dnL58 (hc:c.Ok){m:Nat}(hm0:m<=899000000)(hb:DB d m){NX:Nat}(hx:0<NX)(hx2:NX<=1000){e15:Value}(h15:a.eval (.tmp 15)=e15)(h16:a.eval (.tmp 16)=.int .i64 ((NX:Nat):Int))(hF:c.Fr a)(hS:c.N w d X)(hP:∀ a' w',c.Fr a'->a'.eval (.tmp 15)=e15->a'.eval (.tmp 16)=.int .i64 ((NX:Nat):Int)->a'.eval (.tmp 17)=.int .i64 ((Z4 c.l d.k NX:Nat):Int)->c.N w' ⟨d.n,d.k+Zn NX⟩ X->K a' w'):(Z2 1 (Zo (Z1 1 (Z2 1 (Zf (Z2 1 (Zy (Zf (Z1 4 (Zo (Z1 1 (Z2 18 (Z9 Tryz.f51))))))))))))).wp Tryz.prog (Exit.then K Q) a w:=by
 obtain ⟨t,rfl⟩:=hF.opened;have hsz:=hc.sz;have hel:=hc.el;have hid:=hc.id;have hnw:=hb.nw;have hkb:=hb.k;have hlg:=hb.lg;clear hF;have HS:Hid (c.N w d X):=hS;clear hS;rw [show t 16=.int .i64 ((NX:Nat):Int) from h16];rw [show t 15=e15 from h15];clear h16 h15;obtain ⟨p,hp⟩:∃ p,p=Z4 c.l d.k NX:=⟨_,rfl⟩;have Hp:Hid (p=Z4 c.l d.k NX):=hp;rw [<-hp] at hP;have bp:p<NX:=by rw [hp];exact Zi _ _ _ (by omega)
 clear hp
 conv=>arg 2;whnf
 go_wp2_with (go_at_call 53;go_loud (refine (HS.out.pick hc NX (by omega) (by omega) (by omega)).mono ?_;rw [<-Hp.out];rintro r w9 ⟨rfl,hd⟩;have HS9:Hid (c.N w9 ⟨d.n,d.k+Zn NX⟩ X):=hd;clear hd))
 exact hP _ _ ⟨rfl,rfl,rfl,rfl,rfl,rfl,rfl,rfl,rfl⟩ rfl rfl rfl HS9.out
theorem dnL59 (hc:c.Ok){m:Nat}(hm0:m<=899000000)(hb:DB d m){e15:Value}(h15:a.eval (.tmp 15)=e15){e16:Value}(h16:a.eval (.tmp 16)=e16){e17:Value}(h17:a.eval (.tmp 17)=e17)(hF:c.Fr a)(hS:c.N w d X)(hP:∀ a' w',c.Fr a'->a'.eval (.tmp 15)=e15->a'.eval (.tmp 16)=e16->a'.eval (.tmp 17)=e17->a'.eval (.tmp 250)=.bool (decide (Z4 c.l d.k 2=0))->c.N w' ⟨d.n,d.k+1⟩ X->K a' w'):(Z2 0 (Z2 2 (Zo (Z1 1 (Z2 1 (Zf (Z2 1 (Zy (Zf (Z1 4 (Zo (Z1 1 (Z2 18 (Z9 Tryz.f51)))))))))))))).wp Tryz.prog (Exit.then K Q) a w:=by
 obtain ⟨t,rfl⟩:=hF.opened;have hsz:=hc.sz;have hel:=hc.el;have hid:=hc.id;have hnw:=hb.nw;have hkb:=hb.k;have hlg:=hb.lg;clear hF;have HS:Hid (c.N w d X):=hS;clear hS;rw [show t 15=e15 from h15];rw [show t 16=e16 from h16];rw [show t 17=e17 from h17];clear h15 h16 h17;obtain ⟨p,hp⟩:∃ p,p=Z4 c.l d.k 2:=⟨_,rfl⟩;have Hp:Hid (p=Z4 c.l d.k 2):=hp;rw [<-hp] at hP;have bp:p<2:=by rw [hp];exact Zi _ _ _ (by omega)
 clear hp
 conv=>arg 2;whnf
 go_wp2_with (go_at_call 53;go_loud (refine (HS.out.pick1 hc 2 (by omega) (by omega) (by omega)).mono ?_;rw [<-Hp.out];rintro r w9 ⟨rfl,hd⟩;have HS9:Hid (c.N w9 ⟨d.n,d.k+1⟩ X):=hd;clear hd))
 exact hP _ _ ⟨rfl,rfl,rfl,rfl,rfl,rfl,rfl,rfl,rfl⟩ rfl rfl rfl (by simp [Act.eval,beq0]) HS9.out
theorem dnL60 (hc:c.Ok){m:Nat}(hm0:m<=899000000)(hb:DB d m){NX:Nat}(hx:0<NX)(hx2:NX<=1000){e15:Value}(h15:a.eval (.tmp 15)=e15)(h16:a.eval (.tmp 16)=.int .i64 ((NX:Nat):Int))(hF:c.Fr a)(hS:c.N w d X)(hP:∀ a' w',c.Fr a'->a'.eval (.tmp 15)=e15->a'.eval (.tmp 16)=.int .i64 ((NX:Nat):Int)->a'.eval (.tmp 17)=.int .i64 ((NX:Int)-1)->c.N w' d X->K a' w'):(Zo (Z1 1 (Z2 2 (Zo (Z1 1 (Z2 1 (Zf (Z2 1 (Zy (Zf (Z1 4 (Zo (Z1 1 (Z2 18 (Z9 Tryz.f51))))))))))))))).wp Tryz.prog (Exit.then K Q) a w:=by
 obtain ⟨t,rfl⟩:=hF.opened;have hsz:=hc.sz;have hel:=hc.el;have hid:=hc.id;have hnw:=hb.nw;have hkb:=hb.k;have hlg:=hb.lg;clear hF;have HS:Hid (c.N w d X):=hS;clear hS;rw [show t 16=.int .i64 ((NX:Nat):Int) from h16];rw [show t 15=e15 from h15];clear h16 h15
 conv=>arg 2;whnf
 go_wp2_with fail
 exact hP _ _ ⟨rfl,rfl,rfl,rfl,rfl,rfl,rfl,rfl,rfl⟩ rfl rfl rfl HS.out
theorem dnL61 (hc:c.Ok){m:Nat}(hm0:m<=899000000)(hb:DB d m){e15:Value}(h15:a.eval (.tmp 15)=e15){e16:Value}(h16:a.eval (.tmp 16)=e16){e17:Value}(h17:a.eval (.tmp 17)=e17)(hF:c.Fr a)(hS:c.N w d X)(hP:∀ a' w',c.Fr a'->a'.eval (.tmp 15)=e15->a'.eval (.tmp 16)=e16->a'.eval (.tmp 17)=e17->a'.eval (.tmp 20)=.int .i64 ((min d.n.nw.toNat (c.EL+2):Nat):Int)->c.N w' d X->K a' w'):(Z2 3 (Zo (Z1 1 (Z2 1 (Zf (Z2 1 (Zy (Zf (Z1 4 (Zo (Z1 1 (Z2 18 (Z9 Tryz.f51))))))))))))).wp Tryz.prog (Exit.then K Q) a w:=by
 obtain ⟨t,rfl⟩:=hF.opened;have hsz:=hc.sz;have hel:=hc.el;have hid:=hc.id;have hnw:=hb.nw;have hkb:=hb.k;have hlg:=hb.lg;clear hF;have HS:Hid (c.N w d X):=hS;clear hS;rw [show t 15=e15 from h15];rw [show t 16=e16 from h16];rw [show t 17=e17 from h17];clear h15 h16 h17;have c9:w.cell? ⟨c.b9,9,none⟩=some (.int .i64 d.n.nw):=HS.out.blk.cell 9;obtain ⟨M,hM⟩:∃ M,M=min d.n.nw ((c.EL:Int)+2):=⟨_,rfl⟩;have HM:Hid (M=min d.n.nw ((c.EL:Int)+2)):=hM;have hM2:((min d.n.nw.toNat (c.EL+2):Nat):Int)=M:=by omega
 rw [hM2] at hP;clear hM hM2
 conv=>arg 2;whnf
 go_wp2_with (go_at_call 55;go_loud (refine (Z17 _ _ _).mono ?_;rw [<-HM.out];rintro r w9 ⟨rfl,hw⟩;obtain rfl:=hw.symm;clear hw))
 exact hP _ _ ⟨rfl,rfl,rfl,rfl,rfl,rfl,rfl,rfl,rfl⟩ rfl rfl rfl rfl HS.out
theorem dnL62 (hc:c.Ok){m:Nat}(hm0:m<=899000000)(hb:DB d m){bk:Nat}(hbk:bk<=2000){e15:Value}(h15:a.eval (.tmp 15)=e15){e16:Value}(h16:a.eval (.tmp 16)=e16){e17:Value}(h17:a.eval (.tmp 17)=e17)(h20:a.eval (.tmp 20)=.int .i64 ((bk:Nat):Int))(hF:c.Fr a)(hS:c.N w d X)(hP:∀ a' w',c.Fr a'->a'.eval (.tmp 15)=e15->a'.eval (.tmp 16)=e16->a'.eval (.tmp 17)=e17->a'.eval (.tmp 20)=.int .i64 ((bk:Nat):Int)->a'.eval (.tmp 18)=.int .i64 (d.n.nw-((Z4 c.l d.k (bk+1):Nat):Int))->c.N w' ⟨d.n,d.k+Zn (bk+1)⟩ X->K a' w'):(Z2 4 (Zo (Z1 1 (Z2 1 (Zf (Z2 1 (Zy (Zf (Z1 4 (Zo (Z1 1 (Z2 18 (Z9 Tryz.f51))))))))))))).wp Tryz.prog (Exit.then K Q) a w:=by
 obtain ⟨M,HM⟩:∃ q,q=bk+1:=⟨_,rfl⟩;rw [<-HM] at hP;obtain ⟨pD,hpD⟩:∃ p,p=Z4 c.l d.k M:=⟨_,rfl⟩;rw [<-hpD] at hP;have HPD:Hid (pD=Z4 c.l d.k M):=hpD;have bD:pD<M:=by rw [hpD];exact Zi _ _ _ (by omega)
 clear hpD;have hsz:=hc.sz;have hel:=hc.el;have hid:=hc.id;have hnw:=hb.nw;have hkb:=hb.k;have hlg:=hb.lg
 conv=>arg 2;whnf
 refine Z00 (fun a0=>a0.tmps.size=297/\a0.eval (.tmp 0)=.pointer (some ⟨c.g,0,none⟩)/\a0.eval (.tmp 9)=.pointer (some ⟨c.b9,0,none⟩)/\a0.eval (.tmp 20)=.int .i64 ((bk:Nat):Int)) (fun a0 aF w'=>∃ x:Nat->Value,aF=frame a0 [258,259,260,261,262,263,264,18] x/\(c.N w' ⟨d.n,d.k+Zn M⟩ X/\x 18=.int .i64 (d.n.nw-(pD:Int)))) ?_ ⟨hF.sz,hF.e0,hF.e9,h20⟩ ?_
 ·rintro a0 ⟨hsz0,e0,e9,e20⟩
  refine Yv (by kernel_rfl) (fun L aF w'=>∃ x:Nat->Value,aF=frame a0 [258,259,260,261,262,263,264,18] x/\(St3 (fun W=>c.N W d X) (fun W=>c.N W d X) (fun W=>c.N W ⟨d.n,d.k+Zn M⟩ X)) (L.getD 5 false) (L.getD 5 false) w'/\(L.getD 0 false=true->x 258=.pointer (some ⟨c.b9,9,none⟩))/\(L.getD 1 false=true->x 259=.int .i64 d.n.nw)/\(L.getD 2 false=true->x 260=.pointer (some ⟨c.g,0,none⟩))/\(L.getD 3 false=true->x 261=.int .i64 ((bk:Nat):Int))/\(L.getD 4 false=true->x 262=.int .i64 (M:Int))/\(L.getD 5 false=true->x 263=.int .i64 (pD:Int))/\(L.getD 6 false=true->x 264=.int .i64 (d.n.nw-(pD:Int)))/\(L.getD 7 false=true->x 18=.int .i64 (d.n.nw-(pD:Int)))) ?_ ?_ ?_
  ·refine ⟨_,Xn a0 [258,259,260,261,262,263,264,18],?_,fun h=>(Zt h).elim,fun h=>(Zt h).elim,fun h=>(Zt h).elim,fun h=>(Zt h).elim,fun h=>(Zt h).elim,fun h=>(Zt h).elim,fun h=>(Zt h).elim,fun h=>(Zt h).elim⟩
   rw [bit0];exact hS.drew
  ·rintro L a w' i hsL hi ⟨x,rfl,hS,h0,h1,h2,h3,h4,h5,h6,h7⟩
   have hlt:∀ j,j<8->j<L.size:=fun j hj=>by rw [hsL];exact hj
   have hsl:∀ j,j<297->j<a0.tmps.size:=fun j hj=>by rw [hsz0];exact hj
   have hiL:i<8:=(Y9 hsL hi).1;have hLz:L.size=8:=hsL;have hcell9:w'.cell? ⟨c.b9,9,none⟩=some (.int .i64 d.n.nw):=by refine St3.any (P:=fun W=>W.cell? ⟨c.b9,9,none⟩=some (.int .i64 d.n.nw)) ?_ ?_ ?_ hS <;> intro W h <;> exact (DC.N.blk h).cell 9
   rcases (show i=0∨i=1∨i=2∨i=3∨i=4∨i=5∨i=6∨i=7 by omega) with rfl | rfl | rfl | rfl | rfl | rfl | rfl | rfl
   ·skip
    have ev9:(frame a0 [258,259,260,261,262,263,264,18] x).tmps[9]?.getD undef=.pointer (some ⟨c.b9,0,none⟩):=by have h:=(Zm a0 [258,259,260,261,262,263,264,18] x 9 rfl).trans e9;simpa [Act.eval] using h
    refine Za rfl rfl (Zl (v:=.pointer (some ⟨c.b9,9,none⟩)) ?_ ?_)
    ·obtain ⟨aa,haa⟩:∃ aa,aa=frame a0 [258,259,260,261,262,263,264,18] x:=⟨_,rfl⟩
     rw [<-haa] at ev9 ⊢;clear haa;go_simp
    exact ⟨_,Zd _ _ _ 258 _ rfl,(by rw [Y4 (hlt 0 (by decide)) (by decide)];exact hS),fun h=>Zh _ _ _,ke h1 (hlt 0 (by decide)) (by decide) (by decide),ke h2 (hlt 0 (by decide)) (by decide) (by decide),ke h3 (hlt 0 (by decide)) (by decide) (by decide),ke h4 (hlt 0 (by decide)) (by decide) (by decide),ke h5 (hlt 0 (by decide)) (by decide) (by decide),ke h6 (hlt 0 (by decide)) (by decide) (by decide),ke h7 (hlt 0 (by decide)) (by decide) (by decide)⟩
   ·have d0:=h0 (Z7 hi (by decide))
    have ev258:(frame a0 [258,259,260,261,262,263,264,18] x).tmps[258]?.getD undef=.pointer (some ⟨c.b9,9,none⟩):=by have h:=(Z5 a0 [258,259,260,261,262,263,264,18] x 258 rfl (hsl 258 (by decide))).trans d0;simpa [Act.eval] using h
    refine Za rfl rfl (Zl (v:=.int .i64 d.n.nw) ?_ ?_)
    ·obtain ⟨aa,haa⟩:∃ aa,aa=frame a0 [258,259,260,261,262,263,264,18] x:=⟨_,rfl⟩
     rw [<-haa] at ev258 ⊢;clear haa;go_simp
    exact ⟨_,Zd _ _ _ 259 _ rfl,(by rw [Y4 (hlt 1 (by decide)) (by decide)];exact hS),ke h0 (hlt 1 (by decide)) (by decide) (by decide),fun h=>Zh _ _ _,ke h2 (hlt 1 (by decide)) (by decide) (by decide),ke h3 (hlt 1 (by decide)) (by decide) (by decide),ke h4 (hlt 1 (by decide)) (by decide) (by decide),ke h5 (hlt 1 (by decide)) (by decide) (by decide),ke h6 (hlt 1 (by decide)) (by decide) (by decide),ke h7 (hlt 1 (by decide)) (by decide) (by decide)⟩
   ·skip
    refine Za rfl rfl (Y2 (.tmp 0) (Or.inl rfl) ?_);rw [Zm _ _ _ 0 rfl,e0];exact ⟨_,Zd _ _ _ 260 _ rfl,(by rw [Y4 (hlt 2 (by decide)) (by decide)];exact hS),ke h0 (hlt 2 (by decide)) (by decide) (by decide),ke h1 (hlt 2 (by decide)) (by decide) (by decide),fun h=>Zh _ _ _,ke h3 (hlt 2 (by decide)) (by decide) (by decide),ke h4 (hlt 2 (by decide)) (by decide) (by decide),ke h5 (hlt 2 (by decide)) (by decide) (by decide),ke h6 (hlt 2 (by decide)) (by decide) (by decide),ke h7 (hlt 2 (by decide)) (by decide) (by decide)⟩
   ·skip
    refine Za rfl rfl (Y2 (.tmp 20) (Or.inl rfl) ?_);rw [Zm _ _ _ 20 rfl,e20];exact ⟨_,Zd _ _ _ 261 _ rfl,(by rw [Y4 (hlt 3 (by decide)) (by decide)];exact hS),ke h0 (hlt 3 (by decide)) (by decide) (by decide),ke h1 (hlt 3 (by decide)) (by decide) (by decide),ke h2 (hlt 3 (by decide)) (by decide) (by decide),fun h=>Zh _ _ _,ke h4 (hlt 3 (by decide)) (by decide) (by decide),ke h5 (hlt 3 (by decide)) (by decide) (by decide),ke h6 (hlt 3 (by decide)) (by decide) (by decide),ke h7 (hlt 3 (by decide)) (by decide) (by decide)⟩
   ·have d3:=h3 (Z7 hi (by decide))
    have ev261:(frame a0 [258,259,260,261,262,263,264,18] x).tmps[261]?.getD undef=.int .i64 ((bk:Nat):Int):=by have h:=(Z5 a0 [258,259,260,261,262,263,264,18] x 261 rfl (hsl 261 (by decide))).trans d3;simpa [Act.eval] using h
    refine Za rfl rfl (Zl (v:=.int .i64 (M:Int)) ?_ ?_)
    ·obtain ⟨aa,haa⟩:∃ aa,aa=frame a0 [258,259,260,261,262,263,264,18] x:=⟨_,rfl⟩
     rw [<-haa] at ev261 ⊢;clear haa;go_simp;rw [IntKind.wrap_i64];omega
    exact ⟨_,Zd _ _ _ 262 _ rfl,(by rw [Y4 (hlt 4 (by decide)) (by decide)];exact hS),ke h0 (hlt 4 (by decide)) (by decide) (by decide),ke h1 (hlt 4 (by decide)) (by decide) (by decide),ke h2 (hlt 4 (by decide)) (by decide) (by decide),ke h3 (hlt 4 (by decide)) (by decide) (by decide),fun h=>Zh _ _ _,ke h5 (hlt 4 (by decide)) (by decide) (by decide),ke h6 (hlt 4 (by decide)) (by decide) (by decide),ke h7 (hlt 4 (by decide)) (by decide) (by decide)⟩
   ·have d2:=h2 (Z7 hi (by decide))
    have d4:=h4 (Z7 hi (by decide));have ev260:=(Z5 a0 [258,259,260,261,262,263,264,18] x 260 rfl (hsl 260 (by decide))).trans d2;have ev262:=(Z5 a0 [258,259,260,261,262,263,264,18] x 262 rfl (hsl 262 (by decide))).trans d4;refine Za rfl rfl (Yi (N:=53) rfl (fun _ _=>by go_simp) #[.pointer (some ⟨c.g,0,none⟩),.int .i64 (M:Int)] (by simp only [List.map_toArray,List.map_cons,List.map_nil,ev260,ev262]) ?_);have hb5:L.getD 5 false=false:=by have h9:=(Y9 hsL hi).2;rw [Array.getD_eq_getD_getElem?,h9];rfl
    rw [hb5] at hS;have hS0:c.N w' d X:=hS;refine Calls.mono (DC.N.pick hS0 hc M (by omega) (by omega) (by omega)) ?_;rw [<-HPD.out];rintro e w2 ⟨rfl,hd⟩;refine ⟨_,rfl,?_⟩;exact ⟨_,Zd _ _ _ 263 _ rfl,(by rw [J4 (hlt 5 (by decide))];exact hd),ke h0 (hlt 5 (by decide)) (by decide) (by decide),ke h1 (hlt 5 (by decide)) (by decide) (by decide),ke h2 (hlt 5 (by decide)) (by decide) (by decide),ke h3 (hlt 5 (by decide)) (by decide) (by decide),ke h4 (hlt 5 (by decide)) (by decide) (by decide),fun h=>Zh _ _ _,ke h6 (hlt 5 (by decide)) (by decide) (by decide),ke h7 (hlt 5 (by decide)) (by decide) (by decide)⟩
   ·have d1:=h1 (Z7 hi (by decide))
    have d5:=h5 (Z7 hi (by decide));have ev259:(frame a0 [258,259,260,261,262,263,264,18] x).tmps[259]?.getD undef=.int .i64 d.n.nw:=by have h:=(Z5 a0 [258,259,260,261,262,263,264,18] x 259 rfl (hsl 259 (by decide))).trans d1;simpa [Act.eval] using h
    have ev263:(frame a0 [258,259,260,261,262,263,264,18] x).tmps[263]?.getD undef=.int .i64 (pD:Int):=by have h:=(Z5 a0 [258,259,260,261,262,263,264,18] x 263 rfl (hsl 263 (by decide))).trans d5;simpa [Act.eval] using h
    refine Za rfl rfl (Zl (v:=.int .i64 (d.n.nw-(pD:Int))) ?_ ?_)
    ·obtain ⟨aa,haa⟩:∃ aa,aa=frame a0 [258,259,260,261,262,263,264,18] x:=⟨_,rfl⟩
     rw [<-haa] at ev259 ev263 ⊢;clear haa;go_simp;rw [IntKind.wrap_i64];omega
    exact ⟨_,Zd _ _ _ 264 _ rfl,(by rw [Y4 (hlt 6 (by decide)) (by decide)];exact hS),ke h0 (hlt 6 (by decide)) (by decide) (by decide),ke h1 (hlt 6 (by decide)) (by decide) (by decide),ke h2 (hlt 6 (by decide)) (by decide) (by decide),ke h3 (hlt 6 (by decide)) (by decide) (by decide),ke h4 (hlt 6 (by decide)) (by decide) (by decide),ke h5 (hlt 6 (by decide)) (by decide) (by decide),fun h=>Zh _ _ _,ke h7 (hlt 6 (by decide)) (by decide) (by decide)⟩
   ·have d6:=h6 (Z7 hi (by decide))
    have ev264:(frame a0 [258,259,260,261,262,263,264,18] x).tmps[264]?.getD undef=.int .i64 (d.n.nw-(pD:Int)):=by have h:=(Z5 a0 [258,259,260,261,262,263,264,18] x 264 rfl (hsl 264 (by decide))).trans d6;simpa [Act.eval] using h
    refine Za rfl rfl (Zl (v:=.int .i64 (d.n.nw-(pD:Int))) ?_ ?_)
    ·obtain ⟨aa,haa⟩:∃ aa,aa=frame a0 [258,259,260,261,262,263,264,18] x:=⟨_,rfl⟩
     rw [<-haa] at ev264 ⊢;clear haa;go_simp
    exact ⟨_,Zd _ _ _ 18 _ rfl,(by rw [Y4 (hlt 7 (by decide)) (by decide)];exact hS),ke h0 (hlt 7 (by decide)) (by decide) (by decide),ke h1 (hlt 7 (by decide)) (by decide) (by decide),ke h2 (hlt 7 (by decide)) (by decide) (by decide),ke h3 (hlt 7 (by decide)) (by decide) (by decide),ke h4 (hlt 7 (by decide)) (by decide) (by decide),ke h5 (hlt 7 (by decide)) (by decide) (by decide),ke h6 (hlt 7 (by decide)) (by decide) (by decide),fun h=>Zh _ _ _⟩
  ·rintro L a w' hsL hr ⟨x,rfl,hS,h0,h1,h2,h3,h4,h5,h6,h7⟩
   have hall:=Xi hsL hr (by decide);replace h0:=h0 (hall 0 (by decide));replace h1:=h1 (hall 1 (by decide));replace h2:=h2 (hall 2 (by decide));replace h3:=h3 (hall 3 (by decide));replace h4:=h4 (hall 4 (by decide));replace h5:=h5 (hall 5 (by decide));replace h6:=h6 (hall 6 (by decide));replace h7:=h7 (hall 7 (by decide));rw [hall 5 (by decide)] at hS;exact ⟨rfl,x,rfl,⟨hS,h7⟩⟩
 ·rintro a' w' ⟨x,rfl,hFin⟩
  exact hP _ _ (hF.frame _ _ (by decide)) ((Zm a [258,259,260,261,262,263,264,18] x 15 rfl).trans h15) ((Zm a [258,259,260,261,262,263,264,18] x 16 rfl).trans h16) ((Zm a [258,259,260,261,262,263,264,18] x 17 rfl).trans h17) ((Zm a [258,259,260,261,262,263,264,18] x 20 rfl).trans h20) ((Z5 a [258,259,260,261,262,263,264,18] x 18 rfl (by rw [hF.sz];decide)).trans hFin.2) hFin.1
theorem dnL63 (hc:c.Ok){m:Nat}(hm0:m<=899000000)(hb:DB d m){bk:Nat}(hbk:bk<=2000){e15:Value}(h15:a.eval (.tmp 15)=e15){e16:Value}(h16:a.eval (.tmp 16)=e16){e17:Value}(h17:a.eval (.tmp 17)=e17){e18:Value}(h18:a.eval (.tmp 18)=e18)(h20:a.eval (.tmp 20)=.int .i64 ((bk:Nat):Int))(hF:c.Fr a)(hS:c.N w d X)(hP:∀ a' w',c.Fr a'->a'.eval (.tmp 15)=e15->a'.eval (.tmp 16)=e16->a'.eval (.tmp 17)=e17->a'.eval (.tmp 18)=e18->a'.eval (.tmp 19)=.int .i64 (d.n.nw-((Z4 c.l d.k (bk+1):Nat):Int))->c.N w' ⟨d.n,d.k+Zn (bk+1)⟩ X->K a' w'):(Z1 5 (Zo (Z1 1 (Z2 1 (Zf (Z2 1 (Zy (Zf (Z1 4 (Zo (Z1 1 (Z2 18 (Z9 Tryz.f51))))))))))))).wp Tryz.prog (Exit.then K Q) a w:=by
 obtain ⟨M,HM⟩:∃ q,q=bk+1:=⟨_,rfl⟩;rw [<-HM] at hP;obtain ⟨pD,hpD⟩:∃ p,p=Z4 c.l d.k M:=⟨_,rfl⟩;rw [<-hpD] at hP;have HPD:Hid (pD=Z4 c.l d.k M):=hpD;have bD:pD<M:=by rw [hpD];exact Zi _ _ _ (by omega)
 clear hpD;have hsz:=hc.sz;have hel:=hc.el;have hid:=hc.id;have hnw:=hb.nw;have hkb:=hb.k;have hlg:=hb.lg
 conv=>arg 2;whnf
 refine Z00 (fun a0=>a0.tmps.size=297/\a0.eval (.tmp 0)=.pointer (some ⟨c.g,0,none⟩)/\a0.eval (.tmp 9)=.pointer (some ⟨c.b9,0,none⟩)/\a0.eval (.tmp 20)=.int .i64 ((bk:Nat):Int)) (fun a0 aF w'=>∃ x:Nat->Value,aF=frame a0 [265,266,267,268,269,270,271,19] x/\(c.N w' ⟨d.n,d.k+Zn M⟩ X/\x 19=.int .i64 (d.n.nw-(pD:Int)))) ?_ ⟨hF.sz,hF.e0,hF.e9,h20⟩ ?_
 ·rintro a0 ⟨hsz0,e0,e9,e20⟩
  refine Yv (by kernel_rfl) (fun L aF w'=>∃ x:Nat->Value,aF=frame a0 [265,266,267,268,269,270,271,19] x/\(St3 (fun W=>c.N W d X) (fun W=>c.N W d X) (fun W=>c.N W ⟨d.n,d.k+Zn M⟩ X)) (L.getD 5 false) (L.getD 5 false) w'/\(L.getD 0 false=true->x 265=.pointer (some ⟨c.b9,9,none⟩))/\(L.getD 1 false=true->x 266=.int .i64 d.n.nw)/\(L.getD 2 false=true->x 267=.pointer (some ⟨c.g,0,none⟩))/\(L.getD 3 false=true->x 268=.int .i64 ((bk:Nat):Int))/\(L.getD 4 false=true->x 269=.int .i64 (M:Int))/\(L.getD 5 false=true->x 270=.int .i64 (pD:Int))/\(L.getD 6 false=true->x 271=.int .i64 (d.n.nw-(pD:Int)))/\(L.getD 7 false=true->x 19=.int .i64 (d.n.nw-(pD:Int)))) ?_ ?_ ?_
  ·refine ⟨_,Xn a0 [265,266,267,268,269,270,271,19],?_,fun h=>(Zt h).elim,fun h=>(Zt h).elim,fun h=>(Zt h).elim,fun h=>(Zt h).elim,fun h=>(Zt h).elim,fun h=>(Zt h).elim,fun h=>(Zt h).elim,fun h=>(Zt h).elim⟩
   rw [bit0];exact hS.drew
  ·rintro L a w' i hsL hi ⟨x,rfl,hS,h0,h1,h2,h3,h4,h5,h6,h7⟩
   have hlt:∀ j,j<8->j<L.size:=fun j hj=>by rw [hsL];exact hj
   have hsl:∀ j,j<297->j<a0.tmps.size:=fun j hj=>by rw [hsz0];exact hj
   have hiL:i<8:=(Y9 hsL hi).1;have hLz:L.size=8:=hsL;have hcell9:w'.cell? ⟨c.b9,9,none⟩=some (.int .i64 d.n.nw):=by refine St3.any (P:=fun W=>W.cell? ⟨c.b9,9,none⟩=some (.int .i64 d.n.nw)) ?_ ?_ ?_ hS <;> intro W h <;> exact (DC.N.blk h).cell 9
   rcases (show i=0∨i=1∨i=2∨i=3∨i=4∨i=5∨i=6∨i=7 by omega) with rfl | rfl | rfl | rfl | rfl | rfl | rfl | rfl
   ·skip
    have ev9:(frame a0 [265,266,267,268,269,270,271,19] x).tmps[9]?.getD undef=.pointer (some ⟨c.b9,0,none⟩):=by have h:=(Zm a0 [265,266,267,268,269,270,271,19] x 9 rfl).trans e9;simpa [Act.eval] using h
    refine Za rfl rfl (Zl (v:=.pointer (some ⟨c.b9,9,none⟩)) ?_ ?_)
    ·obtain ⟨aa,haa⟩:∃ aa,aa=frame a0 [265,266,267,268,269,270,271,19] x:=⟨_,rfl⟩
     rw [<-haa] at ev9 ⊢;clear haa;go_simp
    exact ⟨_,Zd _ _ _ 265 _ rfl,(by rw [Y4 (hlt 0 (by decide)) (by decide)];exact hS),fun h=>Zh _ _ _,ke h1 (hlt 0 (by decide)) (by decide) (by decide),ke h2 (hlt 0 (by decide)) (by decide) (by decide),ke h3 (hlt 0 (by decide)) (by decide) (by decide),ke h4 (hlt 0 (by decide)) (by decide) (by decide),ke h5 (hlt 0 (by decide)) (by decide) (by decide),ke h6 (hlt 0 (by decide)) (by decide) (by decide),ke h7 (hlt 0 (by decide)) (by decide) (by decide)⟩
   ·have d0:=h0 (Z7 hi (by decide))
    have ev265:(frame a0 [265,266,267,268,269,270,271,19] x).tmps[265]?.getD undef=.pointer (some ⟨c.b9,9,none⟩):=by have h:=(Z5 a0 [265,266,267,268,269,270,271,19] x 265 rfl (hsl 265 (by decide))).trans d0;simpa [Act.eval] using h
    refine Za rfl rfl (Zl (v:=.int .i64 d.n.nw) ?_ ?_)
    ·obtain ⟨aa,haa⟩:∃ aa,aa=frame a0 [265,266,267,268,269,270,271,19] x:=⟨_,rfl⟩
     rw [<-haa] at ev265 ⊢;clear haa;go_simp
    exact ⟨_,Zd _ _ _ 266 _ rfl,(by rw [Y4 (hlt 1 (by decide)) (by decide)];exact hS),ke h0 (hlt 1 (by decide)) (by decide) (by decide),fun h=>Zh _ _ _,ke h2 (hlt 1 (by decide)) (by decide) (by decide),ke h3 (hlt 1 (by decide)) (by decide) (by decide),ke h4 (hlt 1 (by decide)) (by decide) (by decide),ke h5 (hlt 1 (by decide)) (by decide) (by decide),ke h6 (hlt 1 (by decide)) (by decide) (by decide),ke h7 (hlt 1 (by decide)) (by decide) (by decide)⟩
   ·skip
    refine Za rfl rfl (Y2 (.tmp 0) (Or.inl rfl) ?_);rw [Zm _ _ _ 0 rfl,e0];exact ⟨_,Zd _ _ _ 267 _ rfl,(by rw [Y4 (hlt 2 (by decide)) (by decide)];exact hS),ke h0 (hlt 2 (by decide)) (by decide) (by decide),ke h1 (hlt 2 (by decide)) (by decide) (by decide),fun h=>Zh _ _ _,ke h3 (hlt 2 (by decide)) (by decide) (by decide),ke h4 (hlt 2 (by decide)) (by decide) (by decide),ke h5 (hlt 2 (by decide)) (by decide) (by decide),ke h6 (hlt 2 (by decide)) (by decide) (by decide),ke h7 (hlt 2 (by decide)) (by decide) (by decide)⟩
   ·skip
    refine Za rfl rfl (Y2 (.tmp 20) (Or.inl rfl) ?_);rw [Zm _ _ _ 20 rfl,e20];exact ⟨_,Zd _ _ _ 268 _ rfl,(by rw [Y4 (hlt 3 (by decide)) (by decide)];exact hS),ke h0 (hlt 3 (by decide)) (by decide) (by decide),ke h1 (hlt 3 (by decide)) (by decide) (by decide),ke h2 (hlt 3 (by decide)) (by decide) (by decide),fun h=>Zh _ _ _,ke h4 (hlt 3 (by decide)) (by decide) (by decide),ke h5 (hlt 3 (by decide)) (by decide) (by decide),ke h6 (hlt 3 (by decide)) (by decide) (by decide),ke h7 (hlt 3 (by decide)) (by decide) (by decide)⟩
   ·have d3:=h3 (Z7 hi (by decide))
    have ev268:(frame a0 [265,266,267,268,269,270,271,19] x).tmps[268]?.getD undef=.int .i64 ((bk:Nat):Int):=by have h:=(Z5 a0 [265,266,267,268,269,270,271,19] x 268 rfl (hsl 268 (by decide))).trans d3;simpa [Act.eval] using h
    refine Za rfl rfl (Zl (v:=.int .i64 (M:Int)) ?_ ?_)
    ·obtain ⟨aa,haa⟩:∃ aa,aa=frame a0 [265,266,267,268,269,270,271,19] x:=⟨_,rfl⟩
     rw [<-haa] at ev268 ⊢;clear haa;go_simp;rw [IntKind.wrap_i64];omega
    exact ⟨_,Zd _ _ _ 269 _ rfl,(by rw [Y4 (hlt 4 (by decide)) (by decide)];exact hS),ke h0 (hlt 4 (by decide)) (by decide) (by decide),ke h1 (hlt 4 (by decide)) (by decide) (by decide),ke h2 (hlt 4 (by decide)) (by decide) (by decide),ke h3 (hlt 4 (by decide)) (by decide) (by decide),fun h=>Zh _ _ _,ke h5 (hlt 4 (by decide)) (by decide) (by decide),ke h6 (hlt 4 (by decide)) (by decide) (by decide),ke h7 (hlt 4 (by decide)) (by decide) (by decide)⟩
   ·have d2:=h2 (Z7 hi (by decide))
    have d4:=h4 (Z7 hi (by decide));have ev267:=(Z5 a0 [265,266,267,268,269,270,271,19] x 267 rfl (hsl 267 (by decide))).trans d2;have ev269:=(Z5 a0 [265,266,267,268,269,270,271,19] x 269 rfl (hsl 269 (by decide))).trans d4;refine Za rfl rfl (Yi (N:=53) rfl (fun _ _=>by go_simp) #[.pointer (some ⟨c.g,0,none⟩),.int .i64 (M:Int)] (by simp only [List.map_toArray,List.map_cons,List.map_nil,ev267,ev269]) ?_);have hb5:L.getD 5 false=false:=by have h9:=(Y9 hsL hi).2;rw [Array.getD_eq_getD_getElem?,h9];rfl
    rw [hb5] at hS;have hS0:c.N w' d X:=hS;refine Calls.mono (DC.N.pick hS0 hc M (by omega) (by omega) (by omega)) ?_;rw [<-HPD.out];rintro e w2 ⟨rfl,hd⟩;refine ⟨_,rfl,?_⟩;exact ⟨_,Zd _ _ _ 270 _ rfl,(by rw [J4 (hlt 5 (by decide))];exact hd),ke h0 (hlt 5 (by decide)) (by decide) (by decide),ke h1 (hlt 5 (by decide)) (by decide) (by decide),ke h2 (hlt 5 (by decide)) (by decide) (by decide),ke h3 (hlt 5 (by decide)) (by decide) (by decide),ke h4 (hlt 5 (by decide)) (by decide) (by decide),fun h=>Zh _ _ _,ke h6 (hlt 5 (by decide)) (by decide) (by decide),ke h7 (hlt 5 (by decide)) (by decide) (by decide)⟩
   ·have d1:=h1 (Z7 hi (by decide))
    have d5:=h5 (Z7 hi (by decide));have ev266:(frame a0 [265,266,267,268,269,270,271,19] x).tmps[266]?.getD undef=.int .i64 d.n.nw:=by have h:=(Z5 a0 [265,266,267,268,269,270,271,19] x 266 rfl (hsl 266 (by decide))).trans d1;simpa [Act.eval] using h
    have ev270:(frame a0 [265,266,267,268,269,270,271,19] x).tmps[270]?.getD undef=.int .i64 (pD:Int):=by have h:=(Z5 a0 [265,266,267,268,269,270,271,19] x 270 rfl (hsl 270 (by decide))).trans d5;simpa [Act.eval] using h
    refine Za rfl rfl (Zl (v:=.int .i64 (d.n.nw-(pD:Int))) ?_ ?_)
    ·obtain ⟨aa,haa⟩:∃ aa,aa=frame a0 [265,266,267,268,269,270,271,19] x:=⟨_,rfl⟩
     rw [<-haa] at ev266 ev270 ⊢;clear haa;go_simp;rw [IntKind.wrap_i64];omega
    exact ⟨_,Zd _ _ _ 271 _ rfl,(by rw [Y4 (hlt 6 (by decide)) (by decide)];exact hS),ke h0 (hlt 6 (by decide)) (by decide) (by decide),ke h1 (hlt 6 (by decide)) (by decide) (by decide),ke h2 (hlt 6 (by decide)) (by decide) (by decide),ke h3 (hlt 6 (by decide)) (by decide) (by decide),ke h4 (hlt 6 (by decide)) (by decide) (by decide),ke h5 (hlt 6 (by decide)) (by decide) (by decide),fun h=>Zh _ _ _,ke h7 (hlt 6 (by decide)) (by decide) (by decide)⟩
   ·have d6:=h6 (Z7 hi (by decide))
    have ev271:(frame a0 [265,266,267,268,269,270,271,19] x).tmps[271]?.getD undef=.int .i64 (d.n.nw-(pD:Int)):=by have h:=(Z5 a0 [265,266,267,268,269,270,271,19] x 271 rfl (hsl 271 (by decide))).trans d6;simpa [Act.eval] using h
    refine Za rfl rfl (Zl (v:=.int .i64 (d.n.nw-(pD:Int))) ?_ ?_)
    ·obtain ⟨aa,haa⟩:∃ aa,aa=frame a0 [265,266,267,268,269,270,271,19] x:=⟨_,rfl⟩
     rw [<-haa] at ev271 ⊢;clear haa;go_simp
    exact ⟨_,Zd _ _ _ 19 _ rfl,(by rw [Y4 (hlt 7 (by decide)) (by decide)];exact hS),ke h0 (hlt 7 (by decide)) (by decide) (by decide),ke h1 (hlt 7 (by decide)) (by decide) (by decide),ke h2 (hlt 7 (by decide)) (by decide) (by decide),ke h3 (hlt 7 (by decide)) (by decide) (by decide),ke h4 (hlt 7 (by decide)) (by decide) (by decide),ke h5 (hlt 7 (by decide)) (by decide) (by decide),ke h6 (hlt 7 (by decide)) (by decide) (by decide),fun h=>Zh _ _ _⟩
  ·rintro L a w' hsL hr ⟨x,rfl,hS,h0,h1,h2,h3,h4,h5,h6,h7⟩
   have hall:=Xi hsL hr (by decide);replace h0:=h0 (hall 0 (by decide));replace h1:=h1 (hall 1 (by decide));replace h2:=h2 (hall 2 (by decide));replace h3:=h3 (hall 3 (by decide));replace h4:=h4 (hall 4 (by decide));replace h5:=h5 (hall 5 (by decide));replace h6:=h6 (hall 6 (by decide));replace h7:=h7 (hall 7 (by decide));rw [hall 5 (by decide)] at hS;exact ⟨rfl,x,rfl,⟨hS,h7⟩⟩
 ·rintro a' w' ⟨x,rfl,hFin⟩
  exact hP _ _ (hF.frame _ _ (by decide)) ((Zm a [265,266,267,268,269,270,271,19] x 15 rfl).trans h15) ((Zm a [265,266,267,268,269,270,271,19] x 16 rfl).trans h16) ((Zm a [265,266,267,268,269,270,271,19] x 17 rfl).trans h17) ((Zm a [265,266,267,268,269,270,271,19] x 18 rfl).trans h18) ((Z5 a [265,266,267,268,269,270,271,19] x 19 rfl (by rw [hF.sz];decide)).trans hFin.2) hFin.1
theorem dnL64 (hc:c.Ok){m:Nat}(hm0:m<=899000000)(hb:DB d m){e:Int}(hle:d.n.nx.length<=1000){e15:Value}(h15:a.eval (.tmp 15)=e15){e17:Value}(h17:a.eval (.tmp 17)=e17){e18:Value}(h18:a.eval (.tmp 18)=e18){e19:Value}(h19:a.eval (.tmp 19)=e19)(h16:a.eval (.tmp 16)=.int .i64 e)(hF:c.Fr a)(hS:c.N w d X)(hP:∀ a' w' x',c.Fr a'->a'.eval (.tmp 15)=e15->a'.eval (.tmp 17)=e17->a'.eval (.tmp 18)=e18->a'.eval (.tmp 19)=e19->c.N w' ⟨{ d.n with nx:=d.n.nx ++ [e] },d.k⟩ x'->K a' w'):(Z2 2 (Zf (Z2 1 (Zy (Zf (Z1 4 (Zo (Z1 1 (Z2 18 (Z9 Tryz.f51)))))))))).wp Tryz.prog (Exit.then K Q) a w:=by
 obtain ⟨t,rfl⟩:=hF.opened;have hsz:=hc.sz;have hel:=hc.el;have hid:=hc.id;have hnw:=hb.nw;have hkb:=hb.k;have hlg:=hb.lg;clear hF;have HS:Hid (c.N w d X):=hS;clear hS;rw [show t 16=.int .i64 e from h16];rw [show t 15=e15 from h15];rw [show t 17=e17 from h17];rw [show t 18=e18 from h18];rw [show t 19=e19 from h19];clear h16 h15 h17 h18 h19;obtain ⟨ga,gc,hvg⟩:=HS.out.nxOwn.shape;have Hv:Hid (X.vn=.slice ga d.n.nx.length gc):=hvg;have c13:w.cell? ⟨c.b9,14,none⟩=some (.slice ga d.n.nx.length gc):=by rw [<-Hv.out];exact HS.out.blk.cell 14
 have HO:Hid (Zg inC 1 3 w c.w0.heap.size (.slice ga d.n.nx.length gc) d.n.nx):=by unfold Hid;rw [<-Hv.out];exact HS.out.nxOwn
 have hw0:=HS.out.wsize;clear hvg
 conv=>arg 2;whnf
 go_wp2_with (at_builtin;refine Xr Z0b rfl (.tmp 273) (.tmp 275) rfl e (HO.out.below ((Below.refl _ _).alloc (Nat.le_refl _) _)) rfl (w.heap.size) 1 (Blk.new _ _ _).range rfl (by omega) (by simp;omega) ?_;intro v2 w2 ho2 hg2;obtain ⟨a2,n2,c2,hv2⟩:∃ a n c,v2=.slice a n c:=(by obtain ⟨a,c,e⟩:=ho2.shape;exact ⟨a,_,c,e⟩);subst hv2;have HO2:Hid (Zg inC 1 3 w2 c.w0.heap.size (.slice a2 n2 c2) (d.n.nx ++ [e])):=ho2;have HG2:Hid (Xa (w.alloc (.cells #[.int .i64 e] 3)) X.vn w2 (.slice a2 n2 c2)):=(by unfold Hid;rw [Hv.out];exact hg2);have hB:=HS.out.nxBlk ((Below.refl _ _).alloc (Nat.le_refl _) _) ho2 HG2.out;have cb2:w2.cell? ⟨c.b9,14,none⟩=some (.slice ga d.n.nx.length gc):=(by rw [<-Hv.out];exact hB.cell 14);have fb2:w2.frozen? ⟨c.b9,14,none⟩=false:=hB.free 14;clear ho2 hg2 hB)
 exact hP _ _ _ ⟨rfl,rfl,rfl,rfl,rfl,rfl,rfl,rfl,rfl⟩ rfl rfl rfl rfl (HS.out.nxNew ((Below.refl _ _).alloc (Nat.le_refl _) _) HO2.out HG2.out)
theorem dnL65 (hc:c.Ok){m:Nat}(hm0:m<=899000000)(hb:DB d m){e:Int}(hle:d.n.mt.length<=1000){e15:Value}(h15:a.eval (.tmp 15)=e15){e18:Value}(h18:a.eval (.tmp 18)=e18){e19:Value}(h19:a.eval (.tmp 19)=e19)(h17:a.eval (.tmp 17)=.int .i64 e)(hF:c.Fr a)(hS:c.N w d X)(hP:∀ a' w' x',c.Fr a'->a'.eval (.tmp 15)=e15->a'.eval (.tmp 18)=e18->a'.eval (.tmp 19)=e19->c.N w' ⟨{ d.n with mt:=d.n.mt ++ [e] },d.k⟩ x'->K a' w'):(Z2 3 (Zf (Z2 1 (Zy (Zf (Z1 4 (Zo (Z1 1 (Z2 18 (Z9 Tryz.f51)))))))))).wp Tryz.prog (Exit.then K Q) a w:=by
 obtain ⟨t,rfl⟩:=hF.opened;have hsz:=hc.sz;have hel:=hc.el;have hid:=hc.id;have hnw:=hb.nw;have hkb:=hb.k;have hlg:=hb.lg;clear hF;have HS:Hid (c.N w d X):=hS;clear hS;rw [show t 17=.int .i64 e from h17];rw [show t 15=e15 from h15];rw [show t 18=e18 from h18];rw [show t 19=e19 from h19];clear h17 h15 h18 h19;obtain ⟨ga,gc,hvg⟩:=HS.out.mtOwn.shape;have Hv:Hid (X.vm=.slice ga d.n.mt.length gc):=hvg;have c13:w.cell? ⟨c.b9,15,none⟩=some (.slice ga d.n.mt.length gc):=by rw [<-Hv.out];exact HS.out.blk.cell 15
 have HO:Hid (Zg inC 1 3 w c.w0.heap.size (.slice ga d.n.mt.length gc) d.n.mt):=by unfold Hid;rw [<-Hv.out];exact HS.out.mtOwn
 have hw0:=HS.out.wsize;clear hvg
 conv=>arg 2;whnf
 go_wp2_with (at_builtin;refine Xr Z0b rfl (.tmp 279) (.tmp 281) rfl e (HO.out.below ((Below.refl _ _).alloc (Nat.le_refl _) _)) rfl (w.heap.size) 1 (Blk.new _ _ _).range rfl (by omega) (by simp;omega) ?_;intro v2 w2 ho2 hg2;obtain ⟨a2,n2,c2,hv2⟩:∃ a n c,v2=.slice a n c:=(by obtain ⟨a,c,e⟩:=ho2.shape;exact ⟨a,_,c,e⟩);subst hv2;have HO2:Hid (Zg inC 1 3 w2 c.w0.heap.size (.slice a2 n2 c2) (d.n.mt ++ [e])):=ho2;have HG2:Hid (Xa (w.alloc (.cells #[.int .i64 e] 3)) X.vm w2 (.slice a2 n2 c2)):=(by unfold Hid;rw [Hv.out];exact hg2);have hB:=HS.out.mtBlk ((Below.refl _ _).alloc (Nat.le_refl _) _) ho2 HG2.out;have cb2:w2.cell? ⟨c.b9,15,none⟩=some (.slice ga d.n.mt.length gc):=(by rw [<-Hv.out];exact hB.cell 15);have fb2:w2.frozen? ⟨c.b9,15,none⟩=false:=hB.free 15;clear ho2 hg2 hB)
 exact hP _ _ _ ⟨rfl,rfl,rfl,rfl,rfl,rfl,rfl,rfl,rfl⟩ rfl rfl rfl (HS.out.mtNew ((Below.refl _ _).alloc (Nat.le_refl _) _) HO2.out HG2.out)
theorem dnL66 (hc:c.Ok){m:Nat}(hm0:m<=899000000)(hb:DB d m){e:Int}(hle:d.n.se.length<=1000){e15:Value}(h15:a.eval (.tmp 15)=e15){e19:Value}(h19:a.eval (.tmp 19)=e19)(h18:a.eval (.tmp 18)=.int .i64 e)(hF:c.Fr a)(hS:c.N w d X)(hP:∀ a' w' x',c.Fr a'->a'.eval (.tmp 15)=e15->a'.eval (.tmp 19)=e19->c.N w' ⟨{ d.n with se:=d.n.se ++ [e] },d.k⟩ x'->K a' w'):(Z2 4 (Zf (Z2 1 (Zy (Zf (Z1 4 (Zo (Z1 1 (Z2 18 (Z9 Tryz.f51)))))))))).wp Tryz.prog (Exit.then K Q) a w:=by
 obtain ⟨t,rfl⟩:=hF.opened;have hsz:=hc.sz;have hel:=hc.el;have hid:=hc.id;have hnw:=hb.nw;have hkb:=hb.k;have hlg:=hb.lg;clear hF;have HS:Hid (c.N w d X):=hS;clear hS;rw [show t 18=.int .i64 e from h18];rw [show t 15=e15 from h15];rw [show t 19=e19 from h19];clear h18 h15 h19;obtain ⟨ga,gc,hvg⟩:=HS.out.seOwn.shape;have Hv:Hid (X.vs=.slice ga d.n.se.length gc):=hvg;have c13:w.cell? ⟨c.b9,16,none⟩=some (.slice ga d.n.se.length gc):=by rw [<-Hv.out];exact HS.out.blk.cell 16
 have HO:Hid (Zg inC 1 3 w c.w0.heap.size (.slice ga d.n.se.length gc) d.n.se):=by unfold Hid;rw [<-Hv.out];exact HS.out.seOwn
 have hw0:=HS.out.wsize;clear hvg
 conv=>arg 2;whnf
 go_wp2_with (at_builtin;refine Xr Z0b rfl (.tmp 285) (.tmp 287) rfl e (HO.out.below ((Below.refl _ _).alloc (Nat.le_refl _) _)) rfl (w.heap.size) 1 (Blk.new _ _ _).range rfl (by omega) (by simp;omega) ?_;intro v2 w2 ho2 hg2;obtain ⟨a2,n2,c2,hv2⟩:∃ a n c,v2=.slice a n c:=(by obtain ⟨a,c,e⟩:=ho2.shape;exact ⟨a,_,c,e⟩);subst hv2;have HO2:Hid (Zg inC 1 3 w2 c.w0.heap.size (.slice a2 n2 c2) (d.n.se ++ [e])):=ho2;have HG2:Hid (Xa (w.alloc (.cells #[.int .i64 e] 3)) X.vs w2 (.slice a2 n2 c2)):=(by unfold Hid;rw [Hv.out];exact hg2);have hB:=HS.out.seBlk ((Below.refl _ _).alloc (Nat.le_refl _) _) ho2 HG2.out;have cb2:w2.cell? ⟨c.b9,16,none⟩=some (.slice ga d.n.se.length gc):=(by rw [<-Hv.out];exact hB.cell 16);have fb2:w2.frozen? ⟨c.b9,16,none⟩=false:=hB.free 16;clear ho2 hg2 hB)
 exact hP _ _ _ ⟨rfl,rfl,rfl,rfl,rfl,rfl,rfl,rfl,rfl⟩ rfl rfl (HS.out.seNew ((Below.refl _ _).alloc (Nat.le_refl _) _) HO2.out HG2.out)
theorem dnL67 (hc:c.Ok){m:Nat}(hm0:m<=899000000)(hb:DB d m){e:Int}(hle:d.n.st.length<=1000){e15:Value}(h15:a.eval (.tmp 15)=e15)(h19:a.eval (.tmp 19)=.int .i64 e)(hF:c.Fr a)(hS:c.N w d X)(hP:∀ a' w' x',c.Fr a'->a'.eval (.tmp 15)=e15->c.N w' ⟨{ d.n with st:=d.n.st ++ [e] },d.k⟩ x'->K a' w'):(Z1 5 (Zf (Z2 1 (Zy (Zf (Z1 4 (Zo (Z1 1 (Z2 18 (Z9 Tryz.f51)))))))))).wp Tryz.prog (Exit.then K Q) a w:=by
 obtain ⟨t,rfl⟩:=hF.opened;have hsz:=hc.sz;have hel:=hc.el;have hid:=hc.id;have hnw:=hb.nw;have hkb:=hb.k;have hlg:=hb.lg;clear hF;have HS:Hid (c.N w d X):=hS;clear hS;rw [show t 19=.int .i64 e from h19];rw [show t 15=e15 from h15];clear h19 h15;obtain ⟨ga,gc,hvg⟩:=HS.out.stOwn.shape;have Hv:Hid (X.vt=.slice ga d.n.st.length gc):=hvg;have c13:w.cell? ⟨c.b9,17,none⟩=some (.slice ga d.n.st.length gc):=by rw [<-Hv.out];exact HS.out.blk.cell 17
 have HO:Hid (Zg inC 1 3 w c.w0.heap.size (.slice ga d.n.st.length gc) d.n.st):=by unfold Hid;rw [<-Hv.out];exact HS.out.stOwn
 have hw0:=HS.out.wsize;clear hvg
 conv=>arg 2;whnf
 go_wp2_with (at_builtin;refine Xr Z0b rfl (.tmp 291) (.tmp 293) rfl e (HO.out.below ((Below.refl _ _).alloc (Nat.le_refl _) _)) rfl (w.heap.size) 1 (Blk.new _ _ _).range rfl (by omega) (by simp;omega) ?_;intro v2 w2 ho2 hg2;obtain ⟨a2,n2,c2,hv2⟩:∃ a n c,v2=.slice a n c:=(by obtain ⟨a,c,e⟩:=ho2.shape;exact ⟨a,_,c,e⟩);subst hv2;have HO2:Hid (Zg inC 1 3 w2 c.w0.heap.size (.slice a2 n2 c2) (d.n.st ++ [e])):=ho2;have HG2:Hid (Xa (w.alloc (.cells #[.int .i64 e] 3)) X.vt w2 (.slice a2 n2 c2)):=(by unfold Hid;rw [Hv.out];exact hg2);have hB:=HS.out.stBlk ((Below.refl _ _).alloc (Nat.le_refl _) _) ho2 HG2.out;have cb2:w2.cell? ⟨c.b9,17,none⟩=some (.slice ga d.n.st.length gc):=(by rw [<-Hv.out];exact hB.cell 17);have fb2:w2.frozen? ⟨c.b9,17,none⟩=false:=hB.free 17;clear ho2 hg2 hB)
 exact hP _ _ _ ⟨rfl,rfl,rfl,rfl,rfl,rfl,rfl,rfl,rfl⟩ rfl (HS.out.stNew ((Below.refl _ _).alloc (Nat.le_refl _) _) HO2.out HG2.out)
theorem dnL54 (hc:c.Ok){m:Nat}(hm0:m<=899000000)(hb:DB d m){j:Nat}(hj:j<c.SZ)(h15:a.eval (.tmp 15)=.int .i64 ((j:Int)+1))(hF:c.Fr a)(hS:c.N w d X)(hP:∀ a' w',c.Fr a'->a'.eval (.tmp 15)=.int .i64 ((j:Int)+1+1)->c.N w' d X->K a' w'):(Z1 2 (Zy (Zf (Z1 4 (Zo (Z1 1 (Z2 18 (Z9 Tryz.f51)))))))).wp Tryz.prog (Exit.then K Q) a w:=by
 obtain ⟨t,rfl⟩:=hF.opened;have hsz:=hc.sz;have hel:=hc.el;have hid:=hc.id;have hnw:=hb.nw;have hkb:=hb.k;have hlg:=hb.lg;clear hF;have HS:Hid (c.N w d X):=hS;clear hS;rw [show t 15=.int .i64 ((j:Int)+1) from h15];clear h15
 conv=>arg 2;whnf
 go_wp2_with fail
 exact hP _ _ ⟨rfl,rfl,rfl,rfl,rfl,rfl,rfl,rfl,rfl⟩ rfl HS.out
end
end Go.Proofs.YtmmpoppgabadmaaGreat
