import Derived.Test.YtmmpoppgabadmaaGreatG25
import Derived.Test.YtmmpoppgabadmaaGreatG23
set_option linter.unusedVariables false
set_option linter.unusedSimpArgs false
set_option maxRecDepth 100000
set_option maxHeartbeats 16000000
namespace Go.Proofs.YtmmpoppgabadmaaGreat
open Go.RowKit
theorem rise_len (most:Int):∀(l:List Int) (last:Int),last<=most->Yw most last l=true->last+(l.length:Int)<=most
 | [],last,h,_=>by simpa using h
 | x :: l,last,h,hr=>by
  simp only [Yw,Bool.and_eq_true,Zs] at hr;have:=rise_len most l x hr.1.2 hr.2;simp only [List.length_cons]
  push_cast
  omega
def Yo (n:Nd):Int:=Ys n.id n.sz n.el n.bt n.tm n.vo n.ro n.ld n.cm n.nw n.dl n.hd n.log n.gr n.nx n.mt n.se n.st
theorem Jv (n:Nd)(h:Yo n=0):NdB n/\0<=n.tm/\n.tm<=1073741824/\n.sz%2=1/\n.gr.length<=1000/\0<=n.cm/\Yp n.ro n.sz n.id n.gr=true/\Yr n.ro n.sz n.id n.log.length n.nw n.nx n.mt n.se n.st=true:=by
 unfold Yo Ys at h;split at h
 ·simp at h
 rename_i h1;split at h
 ·simp at h
 rename_i h2;split at h
 ·simp at h
 split at h
 ·simp at h
 rename_i h4;split at h
 ·simp at h
 split at h
 ·simp at h
 rename_i h5;split at h
 ·simp at h
 rename_i h6;split at h
 ·simp at h
 rename_i h7;split at h
 ·simp at h
 rename_i h8;have k1:Y0 n.id n.sz n.el n.bt=true:=by simpa using h1
 have k2:Yu n.sz n.tm n.vo=true:=by simpa using h2
 have k5:inB n.cm 0 n.log.length=true:=by simpa using h5
 have k6:Y7 n.el n.nw n.dl n.hd=true:=by simpa using h6
 have k7:Yp n.ro n.sz n.id n.gr=true:=by simpa using h7
 have k8:Yr n.ro n.sz n.id n.log.length n.nw n.nx n.mt n.se n.st=true:=by simpa using h8
 obtain ⟨s1,s2,s3,s4⟩:=Xb k1;have hs:n.sz=3∨n.sz=5∨n.sz=7:=by simpa [sizB,or_assoc] using s1
 unfold Yu at k2;simp only [Bool.and_eq_true,Zs] at k2;unfold Y7 at k6;simp only [Bool.and_eq_true,Zs] at k6;rw [Zs] at k5;refine ⟨⟨k6.1.1,k6.1.2,k6.2.2.1,k6.2.2.2,s2.1,s2.2,s3.1,s3.2,by omega⟩,k2.1.1,k2.1.2,by omega,?_,k5.1,k7,k8⟩;have k9:=k7;unfold Yp at k9;split at k9
 ·have:(n.gr.length:Int)=0:=by simpa using k9
  omega
 ·simp only [Bool.and_eq_true] at k9
  have:=rise_len n.sz n.gr 0 (by omega) k9.1;omega
theorem Z28 {l:List Int}{j:Nat}(h:j<l.length):l.getD j 0=l[j]:=by rw [List.getD_eq_getElem?_getD,List.getElem?_eq_getElem h];rfl
theorem progs_at {id ln nw:Int}{l14 l15 l16 l17:List Int}{n:Nat}(h:Yq id ln nw l14 l15 l16 l17 n 0=true)(j:Nat)(hj:j<n):Yc ((j:Int)+1) id ln nw (l14.getD j 0) (l15.getD j 0) (l16.getD j 0) (l17.getD j 0)=true:=by
 unfold Yq at h;exact List.all_eq_true.1 h j (by rw [List.mem_range'_1];omega)
theorem Z1q (n:Nd)(hro:n.ro=3)(hsz:0<=n.sz)(hnw:0<=n.nw)(h:Yr n.ro n.sz n.id n.log.length n.nw n.nx n.mt n.se n.st=true):LdM n n.sz.toNat/\LdT n n.sz.toNat:=by
 unfold Yr at h;rw [if_pos hro,Bool.and_eq_true,Xj] at h;obtain ⟨⟨e1,e2,e3,e4⟩,hp⟩:=h;have hat:=progs_at hp
 have hldb:LdB n n.sz.toNat:=by
  refine ⟨by omega,by omega,?_⟩;intro J hJ hne;have h9:=hat J (by omega);unfold Yc at h9;rw [if_neg hne,Z28 hJ] at h9;simp only [Bool.and_eq_true,Zs] at h9;exact ⟨(n.nx[J]-1).toNat,by omega,by omega⟩
 have hall:∀ j,j<n.sz.toNat->(0<=n.se.getD j 0/\n.se.getD j 0<=n.nw)/\(0<=n.st.getD j 0/\n.st.getD j 0<=n.nw):=by
  intro j hj;have h9:=hat j hj;unfold Yc at h9;split at h9
  ·simp only [Bool.and_eq_true,beq_iff_eq] at h9
   omega
  ·simp only [Bool.and_eq_true,Zs] at h9
   omega
 refine ⟨⟨hldb,by omega,by omega,?_⟩,⟨hldb,by omega,?_,?_⟩⟩
 ·intro J h1 h2 hne
  have h9:=hat J (by omega);unfold Yc at h9;rw [if_neg hne,Z28 h1,Z28 h2] at h9;simp only [Bool.and_eq_true,Zs] at h9;omega
 ·intro y hy
  obtain ⟨j,hj,rfl⟩:=List.mem_iff_getElem.1 hy;have:=(hall j (by omega)).1
  rwa [Z28 hj] at this
 ·intro y hy
  obtain ⟨j,hj,rfl⟩:=List.mem_iff_getElem.1 hy;have:=(hall j (by omega)).2
  rwa [Z28 hj] at this
section
variable {Q:Exit->Act->World->Prop} {K:Act->World->Prop} {c:DC} {d:DnS} {X:RV} {a:Act} {w:World}
theorem dnR14 (hc:c.Ok){m:Nat}(hm0:m<=899000000)(hb:DB d m)(hF:c.Fr a)(hS:c.N w d X)(hK:∀ a' w',c.Fr a'->c.N w' ⟨{ d.n with dl:=d.n.nw+(Z4 c.l d.k (2*c.EL+1):Nat) },d.k+Zn (2*c.EL+1)⟩ X->K a' w'):(Z2 11 (Z9 Tryz.f51)).wp Tryz.prog (Exit.then K Q) a w:=by
 obtain ⟨M,HM⟩:∃ q,q=2*c.EL+1:=⟨_,rfl⟩;rw [<-HM] at hK;have hM1:=HM;obtain ⟨pD,hpD⟩:∃ p,p=Z4 c.l d.k M:=⟨_,rfl⟩;rw [<-hpD] at hK;have HPD:Hid (pD=Z4 c.l d.k M):=hpD;have bD:pD<M:=by rw [hpD];exact Zi _ _ _ (by omega)
 clear hpD;have hsz:=hc.sz;have hel:=hc.el;have hid:=hc.id;have hnw:=hb.nw;have hkb:=hb.k
 conv=>arg 2;whnf
 refine Z00 (fun a0=>a0.tmps.size=297/\a0.eval (.tmp 0)=.pointer (some ⟨c.g,0,none⟩)/\a0.eval (.tmp 7)=.int .i64 (c.EL:Int)/\a0.eval (.tmp 9)=.pointer (some ⟨c.b9,0,none⟩)) (fun a0 aF w'=>∃ x:Nat->Value,aF=frame a0 [68,69,70,71,72,73,74,75,76] x/\c.N w' ⟨{ d.n with dl:=d.n.nw+(pD:Int) },d.k+Zn M⟩ X) ?_ ⟨hF.sz,hF.e0,hF.e7,hF.e9⟩ ?_
 ·rintro a0 ⟨hsz0,e0,e7,e9⟩
  refine Yv (by kernel_rfl) (fun L aF w'=>∃ x:Nat->Value,aF=frame a0 [68,69,70,71,72,73,74,75,76] x/\(St3 (fun W=>c.N W d X) (fun W=>c.N W ⟨d.n,d.k+Zn M⟩ X) (fun W=>c.N W ⟨{ d.n with dl:=d.n.nw+(pD:Int) },d.k+Zn M⟩ X)) (L.getD 6 false) (L.getD 9 false) w'/\(L.getD 0 false=true->x 68=.pointer (some ⟨c.b9,9,none⟩))/\(L.getD 1 false=true->x 69=.int .i64 d.n.nw)/\(L.getD 2 false=true->x 70=.pointer (some ⟨c.g,0,none⟩))/\(L.getD 3 false=true->x 71=.int .i64 (c.EL:Int))/\(L.getD 4 false=true->x 72=.int .i64 (2*(c.EL:Int)))/\(L.getD 5 false=true->x 73=.int .i64 (M:Int))/\(L.getD 6 false=true->x 74=.int .i64 (pD:Int))/\(L.getD 7 false=true->x 75=.int .i64 (d.n.nw+(pD:Int))/\L.getD 6 false=true)/\(L.getD 8 false=true->x 76=.pointer (some ⟨c.b9,10,none⟩))/\(L.getD 9 false=true->True)) ?_ ?_ ?_
  ·refine ⟨_,Xn a0 [68,69,70,71,72,73,74,75,76],?_,fun h=>(Zt h).elim,fun h=>(Zt h).elim,fun h=>(Zt h).elim,fun h=>(Zt h).elim,fun h=>(Zt h).elim,fun h=>(Zt h).elim,fun h=>(Zt h).elim,fun h=>(Zt h).elim,fun h=>(Zt h).elim,fun h=>(Zt h).elim⟩
   rw [bit0,bit0];exact hS.drew
  ·rintro L a w' i hsL hi ⟨x,rfl,hS,h0,h1,h2,h3,h4,h5,h6,h7,h8,h9⟩
   have hlt:∀ j,j<10->j<L.size:=fun j hj=>by rw [hsL];exact hj
   have hsl:∀ j,j<297->j<a0.tmps.size:=fun j hj=>by rw [hsz0];exact hj
   have hiL:i<10:=(Y9 hsL hi).1;have hLz:L.size=10:=hsL;have X6:w'.cell? ⟨c.b9,9,none⟩=some (.int .i64 d.n.nw):=by refine St3.any (P:=fun W=>W.cell? ⟨c.b9,9,none⟩=some (.int .i64 d.n.nw)) ?_ ?_ ?_ hS <;> intro W h <;> exact (DC.N.blk h).cell 9
   rcases (show i=0∨i=1∨i=2∨i=3∨i=4∨i=5∨i=6∨i=7∨i=8∨i=9 by omega) with rfl | rfl | rfl | rfl | rfl | rfl | rfl | rfl | rfl | rfl
   ·skip
    have ev9:(frame a0 [68,69,70,71,72,73,74,75,76] x).tmps[9]?.getD undef=.pointer (some ⟨c.b9,0,none⟩):=by have h:=(Zm a0 [68,69,70,71,72,73,74,75,76] x 9 rfl).trans e9;simpa [Act.eval] using h
    refine Za rfl rfl (Zl (v:=.pointer (some ⟨c.b9,9,none⟩)) ?_ ?_)
    ·obtain ⟨aa,haa⟩:∃ aa,aa=frame a0 [68,69,70,71,72,73,74,75,76] x:=⟨_,rfl⟩
     rw [<-haa] at ev9 ⊢;clear haa;go_simp
    exact ⟨_,Zd _ _ _ 68 _ rfl,(by rw [Y4 (hlt 0 (by decide)) (by decide),Y4 (hlt 0 (by decide)) (by decide)];exact hS),fun h=>Zh _ _ _,ke h1 (hlt 0 (by decide)) (by decide) (by decide),ke h2 (hlt 0 (by decide)) (by decide) (by decide),ke h3 (hlt 0 (by decide)) (by decide) (by decide),ke h4 (hlt 0 (by decide)) (by decide) (by decide),ke h5 (hlt 0 (by decide)) (by decide) (by decide),ke h6 (hlt 0 (by decide)) (by decide) (by decide),fun h=>⟨(Z3 _ _ _ _ (by decide)).trans (h7 (Z0 h (hlt 0 (by decide)) (by decide))).1,Y3 (h7 (Z0 h (hlt 0 (by decide)) (by decide))).2 (hlt 0 (by decide))⟩,ke h8 (hlt 0 (by decide)) (by decide) (by decide),fun h=>trivial⟩
   ·have d0:=h0 (Z7 hi (by decide))
    have ev68:(frame a0 [68,69,70,71,72,73,74,75,76] x).tmps[68]?.getD undef=.pointer (some ⟨c.b9,9,none⟩):=by have h:=(Z5 a0 [68,69,70,71,72,73,74,75,76] x 68 rfl (hsl 68 (by decide))).trans d0;simpa [Act.eval] using h
    refine Za rfl rfl (Zl (v:=.int .i64 d.n.nw) ?_ ?_)
    ·obtain ⟨aa,haa⟩:∃ aa,aa=frame a0 [68,69,70,71,72,73,74,75,76] x:=⟨_,rfl⟩
     rw [<-haa] at ev68 ⊢;clear haa;go_simp
    exact ⟨_,Zd _ _ _ 69 _ rfl,(by rw [Y4 (hlt 1 (by decide)) (by decide),Y4 (hlt 1 (by decide)) (by decide)];exact hS),ke h0 (hlt 1 (by decide)) (by decide) (by decide),fun h=>Zh _ _ _,ke h2 (hlt 1 (by decide)) (by decide) (by decide),ke h3 (hlt 1 (by decide)) (by decide) (by decide),ke h4 (hlt 1 (by decide)) (by decide) (by decide),ke h5 (hlt 1 (by decide)) (by decide) (by decide),ke h6 (hlt 1 (by decide)) (by decide) (by decide),fun h=>⟨(Z3 _ _ _ _ (by decide)).trans (h7 (Z0 h (hlt 1 (by decide)) (by decide))).1,Y3 (h7 (Z0 h (hlt 1 (by decide)) (by decide))).2 (hlt 1 (by decide))⟩,ke h8 (hlt 1 (by decide)) (by decide) (by decide),fun h=>trivial⟩
   ·skip
    refine Za rfl rfl (Y2 (.tmp 0) (Or.inl rfl) ?_);rw [Zm _ _ _ 0 rfl,e0];exact ⟨_,Zd _ _ _ 70 _ rfl,(by rw [Y4 (hlt 2 (by decide)) (by decide),Y4 (hlt 2 (by decide)) (by decide)];exact hS),ke h0 (hlt 2 (by decide)) (by decide) (by decide),ke h1 (hlt 2 (by decide)) (by decide) (by decide),fun h=>Zh _ _ _,ke h3 (hlt 2 (by decide)) (by decide) (by decide),ke h4 (hlt 2 (by decide)) (by decide) (by decide),ke h5 (hlt 2 (by decide)) (by decide) (by decide),ke h6 (hlt 2 (by decide)) (by decide) (by decide),fun h=>⟨(Z3 _ _ _ _ (by decide)).trans (h7 (Z0 h (hlt 2 (by decide)) (by decide))).1,Y3 (h7 (Z0 h (hlt 2 (by decide)) (by decide))).2 (hlt 2 (by decide))⟩,ke h8 (hlt 2 (by decide)) (by decide) (by decide),fun h=>trivial⟩
   ·skip
    refine Za rfl rfl (Y2 (.tmp 7) (Or.inl rfl) ?_);rw [Zm _ _ _ 7 rfl,e7];exact ⟨_,Zd _ _ _ 71 _ rfl,(by rw [Y4 (hlt 3 (by decide)) (by decide),Y4 (hlt 3 (by decide)) (by decide)];exact hS),ke h0 (hlt 3 (by decide)) (by decide) (by decide),ke h1 (hlt 3 (by decide)) (by decide) (by decide),ke h2 (hlt 3 (by decide)) (by decide) (by decide),fun h=>Zh _ _ _,ke h4 (hlt 3 (by decide)) (by decide) (by decide),ke h5 (hlt 3 (by decide)) (by decide) (by decide),ke h6 (hlt 3 (by decide)) (by decide) (by decide),fun h=>⟨(Z3 _ _ _ _ (by decide)).trans (h7 (Z0 h (hlt 3 (by decide)) (by decide))).1,Y3 (h7 (Z0 h (hlt 3 (by decide)) (by decide))).2 (hlt 3 (by decide))⟩,ke h8 (hlt 3 (by decide)) (by decide) (by decide),fun h=>trivial⟩
   ·have d3:=h3 (Z7 hi (by decide))
    have ev71:(frame a0 [68,69,70,71,72,73,74,75,76] x).tmps[71]?.getD undef=.int .i64 (c.EL:Int):=by have h:=(Z5 a0 [68,69,70,71,72,73,74,75,76] x 71 rfl (hsl 71 (by decide))).trans d3;simpa [Act.eval] using h
    refine Za rfl rfl (Zl (v:=.int .i64 (2*(c.EL:Int))) ?_ ?_)
    ·obtain ⟨aa,haa⟩:∃ aa,aa=frame a0 [68,69,70,71,72,73,74,75,76] x:=⟨_,rfl⟩
     rw [<-haa] at ev71 ⊢;clear haa;go_simp;rw [IntKind.wrap_i64];omega
    exact ⟨_,Zd _ _ _ 72 _ rfl,(by rw [Y4 (hlt 4 (by decide)) (by decide),Y4 (hlt 4 (by decide)) (by decide)];exact hS),ke h0 (hlt 4 (by decide)) (by decide) (by decide),ke h1 (hlt 4 (by decide)) (by decide) (by decide),ke h2 (hlt 4 (by decide)) (by decide) (by decide),ke h3 (hlt 4 (by decide)) (by decide) (by decide),fun h=>Zh _ _ _,ke h5 (hlt 4 (by decide)) (by decide) (by decide),ke h6 (hlt 4 (by decide)) (by decide) (by decide),fun h=>⟨(Z3 _ _ _ _ (by decide)).trans (h7 (Z0 h (hlt 4 (by decide)) (by decide))).1,Y3 (h7 (Z0 h (hlt 4 (by decide)) (by decide))).2 (hlt 4 (by decide))⟩,ke h8 (hlt 4 (by decide)) (by decide) (by decide),fun h=>trivial⟩
   ·have d4:=h4 (Z7 hi (by decide))
    have ev72:(frame a0 [68,69,70,71,72,73,74,75,76] x).tmps[72]?.getD undef=.int .i64 (2*(c.EL:Int)):=by have h:=(Z5 a0 [68,69,70,71,72,73,74,75,76] x 72 rfl (hsl 72 (by decide))).trans d4;simpa [Act.eval] using h
    refine Za rfl rfl (Zl (v:=.int .i64 (M:Int)) ?_ ?_)
    ·obtain ⟨aa,haa⟩:∃ aa,aa=frame a0 [68,69,70,71,72,73,74,75,76] x:=⟨_,rfl⟩
     rw [<-haa] at ev72 ⊢;clear haa;go_simp;rw [IntKind.wrap_i64];omega
    exact ⟨_,Zd _ _ _ 73 _ rfl,(by rw [Y4 (hlt 5 (by decide)) (by decide),Y4 (hlt 5 (by decide)) (by decide)];exact hS),ke h0 (hlt 5 (by decide)) (by decide) (by decide),ke h1 (hlt 5 (by decide)) (by decide) (by decide),ke h2 (hlt 5 (by decide)) (by decide) (by decide),ke h3 (hlt 5 (by decide)) (by decide) (by decide),ke h4 (hlt 5 (by decide)) (by decide) (by decide),fun h=>Zh _ _ _,ke h6 (hlt 5 (by decide)) (by decide) (by decide),fun h=>⟨(Z3 _ _ _ _ (by decide)).trans (h7 (Z0 h (hlt 5 (by decide)) (by decide))).1,Y3 (h7 (Z0 h (hlt 5 (by decide)) (by decide))).2 (hlt 5 (by decide))⟩,ke h8 (hlt 5 (by decide)) (by decide) (by decide),fun h=>trivial⟩
   ·have d2:=h2 (Z7 hi (by decide))
    have d5:=h5 (Z7 hi (by decide));have ev70:=(Z5 a0 [68,69,70,71,72,73,74,75,76] x 70 rfl (hsl 70 (by decide))).trans d2;have ev73:=(Z5 a0 [68,69,70,71,72,73,74,75,76] x 73 rfl (hsl 73 (by decide))).trans d5;refine Za rfl rfl (Yi (N:=53) rfl (fun _ _=>by go_simp) #[.pointer (some ⟨c.g,0,none⟩),.int .i64 (M:Int)] (by simp only [List.map_toArray,List.map_cons,List.map_nil,ev70,ev73]) ?_);have hb6:L.getD 6 false=false:=by have h9:=(Y9 hsL hi).2;rw [Array.getD_eq_getD_getElem?,h9];rfl
    rw [hb6] at hS;obtain ⟨hb9,hS0⟩:=hS.fst;refine Calls.mono (DC.N.pick hS0 hc M (by omega) (by omega) (by omega)) ?_;rw [<-HPD.out];rintro e w2 ⟨rfl,hd⟩;refine ⟨_,rfl,?_⟩;exact ⟨_,Zd _ _ _ 74 _ rfl,(by rw [J4 (hlt 6 (by decide)),Y4 (hlt 6 (by decide)) (by decide),hb9];exact hd),ke h0 (hlt 6 (by decide)) (by decide) (by decide),ke h1 (hlt 6 (by decide)) (by decide) (by decide),ke h2 (hlt 6 (by decide)) (by decide) (by decide),ke h3 (hlt 6 (by decide)) (by decide) (by decide),ke h4 (hlt 6 (by decide)) (by decide) (by decide),ke h5 (hlt 6 (by decide)) (by decide) (by decide),fun h=>Zh _ _ _,fun h=>⟨(Z3 _ _ _ _ (by decide)).trans (h7 (Z0 h (hlt 6 (by decide)) (by decide))).1,Y3 (h7 (Z0 h (hlt 6 (by decide)) (by decide))).2 (hlt 6 (by decide))⟩,ke h8 (hlt 6 (by decide)) (by decide) (by decide),fun h=>trivial⟩
   ·have d1:=h1 (Z7 hi (by decide))
    have d6:=h6 (Z7 hi (by decide));have ev69:(frame a0 [68,69,70,71,72,73,74,75,76] x).tmps[69]?.getD undef=.int .i64 d.n.nw:=by have h:=(Z5 a0 [68,69,70,71,72,73,74,75,76] x 69 rfl (hsl 69 (by decide))).trans d1;simpa [Act.eval] using h
    have ev74:(frame a0 [68,69,70,71,72,73,74,75,76] x).tmps[74]?.getD undef=.int .i64 (pD:Int):=by have h:=(Z5 a0 [68,69,70,71,72,73,74,75,76] x 74 rfl (hsl 74 (by decide))).trans d6;simpa [Act.eval] using h
    refine Za rfl rfl (Zl (v:=.int .i64 (d.n.nw+(pD:Int))) ?_ ?_)
    ·obtain ⟨aa,haa⟩:∃ aa,aa=frame a0 [68,69,70,71,72,73,74,75,76] x:=⟨_,rfl⟩
     rw [<-haa] at ev69 ev74 ⊢;clear haa;go_simp;rw [IntKind.wrap_i64];omega
    exact ⟨_,Zd _ _ _ 75 _ rfl,(by rw [Y4 (hlt 7 (by decide)) (by decide),Y4 (hlt 7 (by decide)) (by decide)];exact hS),ke h0 (hlt 7 (by decide)) (by decide) (by decide),ke h1 (hlt 7 (by decide)) (by decide) (by decide),ke h2 (hlt 7 (by decide)) (by decide) (by decide),ke h3 (hlt 7 (by decide)) (by decide) (by decide),ke h4 (hlt 7 (by decide)) (by decide) (by decide),ke h5 (hlt 7 (by decide)) (by decide) (by decide),ke h6 (hlt 7 (by decide)) (by decide) (by decide),fun h=>⟨Zh _ _ _,Y3 (Z7 hi (j:=6) (by decide)) (hlt 7 (by decide))⟩,ke h8 (hlt 7 (by decide)) (by decide) (by decide),fun h=>trivial⟩
   ·skip
    have ev9:(frame a0 [68,69,70,71,72,73,74,75,76] x).tmps[9]?.getD undef=.pointer (some ⟨c.b9,0,none⟩):=by have h:=(Zm a0 [68,69,70,71,72,73,74,75,76] x 9 rfl).trans e9;simpa [Act.eval] using h
    refine Za rfl rfl (Zl (v:=.pointer (some ⟨c.b9,10,none⟩)) ?_ ?_)
    ·obtain ⟨aa,haa⟩:∃ aa,aa=frame a0 [68,69,70,71,72,73,74,75,76] x:=⟨_,rfl⟩
     rw [<-haa] at ev9 ⊢;clear haa;go_simp
    exact ⟨_,Zd _ _ _ 76 _ rfl,(by rw [Y4 (hlt 8 (by decide)) (by decide),Y4 (hlt 8 (by decide)) (by decide)];exact hS),ke h0 (hlt 8 (by decide)) (by decide) (by decide),ke h1 (hlt 8 (by decide)) (by decide) (by decide),ke h2 (hlt 8 (by decide)) (by decide) (by decide),ke h3 (hlt 8 (by decide)) (by decide) (by decide),ke h4 (hlt 8 (by decide)) (by decide) (by decide),ke h5 (hlt 8 (by decide)) (by decide) (by decide),ke h6 (hlt 8 (by decide)) (by decide) (by decide),fun h=>⟨(Z3 _ _ _ _ (by decide)).trans (h7 (Z0 h (hlt 8 (by decide)) (by decide))).1,Y3 (h7 (Z0 h (hlt 8 (by decide)) (by decide))).2 (hlt 8 (by decide))⟩,fun h=>Zh _ _ _,fun h=>trivial⟩
   ·have d7:=h7 (Z7 hi (by decide))
    have d8:=h8 (Z7 hi (by decide));have hb9:L.getD 9 false=false:=by have h9:=(Y9 hsL hi).2;rw [Array.getD_eq_getD_getElem?,h9];rfl
    have evp:=(Z5 a0 [68,69,70,71,72,73,74,75,76] x 76 rfl (hsl 76 (by decide))).trans d8;have evs:=(Z5 a0 [68,69,70,71,72,73,74,75,76] x 75 rfl (hsl 75 (by decide))).trans d7.1;have ha6:L.getD 6 false=true:=d7.2;rw [ha6,hb9] at hS;refine Za rfl rfl (wp_st1 (.tmp 76) (.tmp 75) rfl evp evs ((DC.N.blk hS).cell 10) ((DC.N.blk hS).free 10) rfl ?_);exact ⟨_,rfl,(by rw [Y4 (hlt 9 (by decide)) (by decide),ha6,J4 (hlt 9 (by decide))];exact DC.N.set (d:=⟨d.n,d.k+Zn M⟩) hS 10 (by omega) _ rfl rfl rfl rfl rfl rfl rfl),ku h0 (hlt 9 (by decide)) (by decide),ku h1 (hlt 9 (by decide)) (by decide),ku h2 (hlt 9 (by decide)) (by decide),ku h3 (hlt 9 (by decide)) (by decide),ku h4 (hlt 9 (by decide)) (by decide),ku h5 (hlt 9 (by decide)) (by decide),ku h6 (hlt 9 (by decide)) (by decide),fun h=>⟨(h7 (Z0 h (hlt 9 (by decide)) (by decide))).1,Y3 (h7 (Z0 h (hlt 9 (by decide)) (by decide))).2 (hlt 9 (by decide))⟩,ku h8 (hlt 9 (by decide)) (by decide),fun h=>trivial⟩
  ·rintro L a w' hsL hr ⟨x,rfl,hS,h0,h1,h2,h3,h4,h5,h6,h7,h8,h9⟩
   have hall:=Xi hsL hr (by decide);replace h0:=h0 (hall 0 (by decide));replace h1:=h1 (hall 1 (by decide));replace h2:=h2 (hall 2 (by decide));replace h3:=h3 (hall 3 (by decide));replace h4:=h4 (hall 4 (by decide));replace h5:=h5 (hall 5 (by decide));replace h6:=h6 (hall 6 (by decide));replace h7:=h7 (hall 7 (by decide));replace h8:=h8 (hall 8 (by decide));replace h9:=h9 (hall 9 (by decide));rw [hall 6 (by decide),hall 9 (by decide)] at hS;exact ⟨rfl,x,rfl,hS⟩
 ·rintro a' w' ⟨x,rfl,hFin⟩
  exact hK _ _ (hF.frame _ _ (by decide)) hFin
theorem dnR16 (hc:c.Ok){m:Nat}(hm0:m<=899000000)(hb:DB d m)(hF:c.Fr a)(hS:c.N w d X)(hK:∀ a' w',c.Fr a'->c.N w' ⟨{ d.n with dl:=d.n.nw+(Z4 c.l d.k 2:Nat) },d.k+1⟩ X->K a' w'):(Zo (Z1 1 (Z2 12 (Z9 Tryz.f51)))).wp Tryz.prog (Exit.then K Q) a w:=by
 obtain ⟨pD,hpD⟩:∃ p,p=Z4 c.l d.k 2:=⟨_,rfl⟩;rw [<-hpD] at hK;have HPD:Hid (pD=Z4 c.l d.k 2):=hpD;have bD:pD<2:=by rw [hpD];exact Zi _ _ _ (by omega)
 clear hpD;have hsz:=hc.sz;have hel:=hc.el;have hid:=hc.id;have hnw:=hb.nw;have hkb:=hb.k
 conv=>arg 2;whnf
 refine Z00 (fun a0=>a0.tmps.size=297/\a0.eval (.tmp 0)=.pointer (some ⟨c.g,0,none⟩)/\a0.eval (.tmp 9)=.pointer (some ⟨c.b9,0,none⟩)) (fun a0 aF w'=>∃ x:Nat->Value,aF=frame a0 [80,81,82,83,84,85] x/\c.N w' ⟨{ d.n with dl:=d.n.nw+(pD:Int) },d.k+1⟩ X) ?_ ⟨hF.sz,hF.e0,hF.e9⟩ ?_
 ·rintro a0 ⟨hsz0,e0,e9⟩
  refine Yv (by kernel_rfl) (fun L aF w'=>∃ x:Nat->Value,aF=frame a0 [80,81,82,83,84,85] x/\(St3 (fun W=>c.N W d X) (fun W=>c.N W ⟨d.n,d.k+1⟩ X) (fun W=>c.N W ⟨{ d.n with dl:=d.n.nw+(pD:Int) },d.k+1⟩ X)) (L.getD 3 false) (L.getD 6 false) w'/\(L.getD 0 false=true->x 80=.pointer (some ⟨c.b9,9,none⟩))/\(L.getD 1 false=true->x 81=.int .i64 d.n.nw)/\(L.getD 2 false=true->x 82=.pointer (some ⟨c.g,0,none⟩))/\(L.getD 3 false=true->x 83=.int .i64 (pD:Int))/\(L.getD 4 false=true->x 84=.int .i64 (d.n.nw+(pD:Int))/\L.getD 3 false=true)/\(L.getD 5 false=true->x 85=.pointer (some ⟨c.b9,10,none⟩))/\(L.getD 6 false=true->True)) ?_ ?_ ?_
  ·refine ⟨_,Xn a0 [80,81,82,83,84,85],?_,fun h=>(Zt h).elim,fun h=>(Zt h).elim,fun h=>(Zt h).elim,fun h=>(Zt h).elim,fun h=>(Zt h).elim,fun h=>(Zt h).elim,fun h=>(Zt h).elim⟩
   rw [bit0,bit0];exact hS.drew
  ·rintro L a w' i hsL hi ⟨x,rfl,hS,h0,h1,h2,h3,h4,h5,h6⟩
   have hlt:∀ j,j<7->j<L.size:=fun j hj=>by rw [hsL];exact hj
   have hsl:∀ j,j<297->j<a0.tmps.size:=fun j hj=>by rw [hsz0];exact hj
   have hiL:i<7:=(Y9 hsL hi).1;have hLz:L.size=7:=hsL;have X6:w'.cell? ⟨c.b9,9,none⟩=some (.int .i64 d.n.nw):=by refine St3.any (P:=fun W=>W.cell? ⟨c.b9,9,none⟩=some (.int .i64 d.n.nw)) ?_ ?_ ?_ hS <;> intro W h <;> exact (DC.N.blk h).cell 9
   rcases (show i=0∨i=1∨i=2∨i=3∨i=4∨i=5∨i=6 by omega) with rfl | rfl | rfl | rfl | rfl | rfl | rfl
   ·skip
    have ev9:(frame a0 [80,81,82,83,84,85] x).tmps[9]?.getD undef=.pointer (some ⟨c.b9,0,none⟩):=by have h:=(Zm a0 [80,81,82,83,84,85] x 9 rfl).trans e9;simpa [Act.eval] using h
    refine Za rfl rfl (Zl (v:=.pointer (some ⟨c.b9,9,none⟩)) ?_ ?_)
    ·obtain ⟨aa,haa⟩:∃ aa,aa=frame a0 [80,81,82,83,84,85] x:=⟨_,rfl⟩
     rw [<-haa] at ev9 ⊢;clear haa;go_simp
    exact ⟨_,Zd _ _ _ 80 _ rfl,(by rw [Y4 (hlt 0 (by decide)) (by decide),Y4 (hlt 0 (by decide)) (by decide)];exact hS),fun h=>Zh _ _ _,ke h1 (hlt 0 (by decide)) (by decide) (by decide),ke h2 (hlt 0 (by decide)) (by decide) (by decide),ke h3 (hlt 0 (by decide)) (by decide) (by decide),fun h=>⟨(Z3 _ _ _ _ (by decide)).trans (h4 (Z0 h (hlt 0 (by decide)) (by decide))).1,Y3 (h4 (Z0 h (hlt 0 (by decide)) (by decide))).2 (hlt 0 (by decide))⟩,ke h5 (hlt 0 (by decide)) (by decide) (by decide),fun h=>trivial⟩
   ·have d0:=h0 (Z7 hi (by decide))
    have ev80:(frame a0 [80,81,82,83,84,85] x).tmps[80]?.getD undef=.pointer (some ⟨c.b9,9,none⟩):=by have h:=(Z5 a0 [80,81,82,83,84,85] x 80 rfl (hsl 80 (by decide))).trans d0;simpa [Act.eval] using h
    refine Za rfl rfl (Zl (v:=.int .i64 d.n.nw) ?_ ?_)
    ·obtain ⟨aa,haa⟩:∃ aa,aa=frame a0 [80,81,82,83,84,85] x:=⟨_,rfl⟩
     rw [<-haa] at ev80 ⊢;clear haa;go_simp
    exact ⟨_,Zd _ _ _ 81 _ rfl,(by rw [Y4 (hlt 1 (by decide)) (by decide),Y4 (hlt 1 (by decide)) (by decide)];exact hS),ke h0 (hlt 1 (by decide)) (by decide) (by decide),fun h=>Zh _ _ _,ke h2 (hlt 1 (by decide)) (by decide) (by decide),ke h3 (hlt 1 (by decide)) (by decide) (by decide),fun h=>⟨(Z3 _ _ _ _ (by decide)).trans (h4 (Z0 h (hlt 1 (by decide)) (by decide))).1,Y3 (h4 (Z0 h (hlt 1 (by decide)) (by decide))).2 (hlt 1 (by decide))⟩,ke h5 (hlt 1 (by decide)) (by decide) (by decide),fun h=>trivial⟩
   ·skip
    refine Za rfl rfl (Y2 (.tmp 0) (Or.inl rfl) ?_);rw [Zm _ _ _ 0 rfl,e0];exact ⟨_,Zd _ _ _ 82 _ rfl,(by rw [Y4 (hlt 2 (by decide)) (by decide),Y4 (hlt 2 (by decide)) (by decide)];exact hS),ke h0 (hlt 2 (by decide)) (by decide) (by decide),ke h1 (hlt 2 (by decide)) (by decide) (by decide),fun h=>Zh _ _ _,ke h3 (hlt 2 (by decide)) (by decide) (by decide),fun h=>⟨(Z3 _ _ _ _ (by decide)).trans (h4 (Z0 h (hlt 2 (by decide)) (by decide))).1,Y3 (h4 (Z0 h (hlt 2 (by decide)) (by decide))).2 (hlt 2 (by decide))⟩,ke h5 (hlt 2 (by decide)) (by decide) (by decide),fun h=>trivial⟩
   ·have d2:=h2 (Z7 hi (by decide))
    have ev82:=(Z5 a0 [80,81,82,83,84,85] x 82 rfl (hsl 82 (by decide))).trans d2;refine Za rfl rfl (Yi (N:=53) rfl (fun _ _=>by go_simp) #[.pointer (some ⟨c.g,0,none⟩),.int .i64 2] (by simp only [List.map_toArray,List.map_cons,List.map_nil,ev82,eval_c]) ?_);have hb3:L.getD 3 false=false:=by have h9:=(Y9 hsL hi).2;rw [Array.getD_eq_getD_getElem?,h9];rfl
    rw [hb3] at hS;obtain ⟨hb9,hS0⟩:=hS.fst;refine Calls.mono (DC.N.pick1 hS0 hc 2 (by omega) (by omega) (by omega)) ?_;rw [<-HPD.out];rintro e w2 ⟨rfl,hd⟩;refine ⟨_,rfl,?_⟩;exact ⟨_,Zd _ _ _ 83 _ rfl,(by rw [J4 (hlt 3 (by decide)),Y4 (hlt 3 (by decide)) (by decide),hb9];exact hd),ke h0 (hlt 3 (by decide)) (by decide) (by decide),ke h1 (hlt 3 (by decide)) (by decide) (by decide),ke h2 (hlt 3 (by decide)) (by decide) (by decide),fun h=>Zh _ _ _,fun h=>⟨(Z3 _ _ _ _ (by decide)).trans (h4 (Z0 h (hlt 3 (by decide)) (by decide))).1,Y3 (h4 (Z0 h (hlt 3 (by decide)) (by decide))).2 (hlt 3 (by decide))⟩,ke h5 (hlt 3 (by decide)) (by decide) (by decide),fun h=>trivial⟩
   ·have d1:=h1 (Z7 hi (by decide))
    have d3:=h3 (Z7 hi (by decide));have ev81:(frame a0 [80,81,82,83,84,85] x).tmps[81]?.getD undef=.int .i64 d.n.nw:=by have h:=(Z5 a0 [80,81,82,83,84,85] x 81 rfl (hsl 81 (by decide))).trans d1;simpa [Act.eval] using h
    have ev83:(frame a0 [80,81,82,83,84,85] x).tmps[83]?.getD undef=.int .i64 (pD:Int):=by have h:=(Z5 a0 [80,81,82,83,84,85] x 83 rfl (hsl 83 (by decide))).trans d3;simpa [Act.eval] using h
    refine Za rfl rfl (Zl (v:=.int .i64 (d.n.nw+(pD:Int))) ?_ ?_)
    ·obtain ⟨aa,haa⟩:∃ aa,aa=frame a0 [80,81,82,83,84,85] x:=⟨_,rfl⟩
     rw [<-haa] at ev81 ev83 ⊢;clear haa;go_simp;rw [IntKind.wrap_i64];omega
    exact ⟨_,Zd _ _ _ 84 _ rfl,(by rw [Y4 (hlt 4 (by decide)) (by decide),Y4 (hlt 4 (by decide)) (by decide)];exact hS),ke h0 (hlt 4 (by decide)) (by decide) (by decide),ke h1 (hlt 4 (by decide)) (by decide) (by decide),ke h2 (hlt 4 (by decide)) (by decide) (by decide),ke h3 (hlt 4 (by decide)) (by decide) (by decide),fun h=>⟨Zh _ _ _,Y3 (Z7 hi (j:=3) (by decide)) (hlt 4 (by decide))⟩,ke h5 (hlt 4 (by decide)) (by decide) (by decide),fun h=>trivial⟩
   ·skip
    have ev9:(frame a0 [80,81,82,83,84,85] x).tmps[9]?.getD undef=.pointer (some ⟨c.b9,0,none⟩):=by have h:=(Zm a0 [80,81,82,83,84,85] x 9 rfl).trans e9;simpa [Act.eval] using h
    refine Za rfl rfl (Zl (v:=.pointer (some ⟨c.b9,10,none⟩)) ?_ ?_)
    ·obtain ⟨aa,haa⟩:∃ aa,aa=frame a0 [80,81,82,83,84,85] x:=⟨_,rfl⟩
     rw [<-haa] at ev9 ⊢;clear haa;go_simp
    exact ⟨_,Zd _ _ _ 85 _ rfl,(by rw [Y4 (hlt 5 (by decide)) (by decide),Y4 (hlt 5 (by decide)) (by decide)];exact hS),ke h0 (hlt 5 (by decide)) (by decide) (by decide),ke h1 (hlt 5 (by decide)) (by decide) (by decide),ke h2 (hlt 5 (by decide)) (by decide) (by decide),ke h3 (hlt 5 (by decide)) (by decide) (by decide),fun h=>⟨(Z3 _ _ _ _ (by decide)).trans (h4 (Z0 h (hlt 5 (by decide)) (by decide))).1,Y3 (h4 (Z0 h (hlt 5 (by decide)) (by decide))).2 (hlt 5 (by decide))⟩,fun h=>Zh _ _ _,fun h=>trivial⟩
   ·have d4:=h4 (Z7 hi (by decide))
    have d5:=h5 (Z7 hi (by decide));have hb6:L.getD 6 false=false:=by have h9:=(Y9 hsL hi).2;rw [Array.getD_eq_getD_getElem?,h9];rfl
    have evp:=(Z5 a0 [80,81,82,83,84,85] x 85 rfl (hsl 85 (by decide))).trans d5;have evs:=(Z5 a0 [80,81,82,83,84,85] x 84 rfl (hsl 84 (by decide))).trans d4.1;have ha6:L.getD 3 false=true:=d4.2;rw [ha6,hb6] at hS;refine Za rfl rfl (wp_st1 (.tmp 85) (.tmp 84) rfl evp evs ((DC.N.blk hS).cell 10) ((DC.N.blk hS).free 10) rfl ?_);exact ⟨_,rfl,(by rw [Y4 (hlt 6 (by decide)) (by decide),ha6,J4 (hlt 6 (by decide))];exact DC.N.set (d:=⟨d.n,d.k+1⟩) hS 10 (by omega) _ rfl rfl rfl rfl rfl rfl rfl),ku h0 (hlt 6 (by decide)) (by decide),ku h1 (hlt 6 (by decide)) (by decide),ku h2 (hlt 6 (by decide)) (by decide),ku h3 (hlt 6 (by decide)) (by decide),fun h=>⟨(h4 (Z0 h (hlt 6 (by decide)) (by decide))).1,Y3 (h4 (Z0 h (hlt 6 (by decide)) (by decide))).2 (hlt 6 (by decide))⟩,ku h5 (hlt 6 (by decide)) (by decide),fun h=>trivial⟩
  ·rintro L a w' hsL hr ⟨x,rfl,hS,h0,h1,h2,h3,h4,h5,h6⟩
   have hall:=Xi hsL hr (by decide);replace h0:=h0 (hall 0 (by decide));replace h1:=h1 (hall 1 (by decide));replace h2:=h2 (hall 2 (by decide));replace h3:=h3 (hall 3 (by decide));replace h4:=h4 (hall 4 (by decide));replace h5:=h5 (hall 5 (by decide));replace h6:=h6 (hall 6 (by decide));rw [hall 3 (by decide),hall 6 (by decide)] at hS;exact ⟨rfl,x,rfl,hS⟩
 ·rintro a' w' ⟨x,rfl,hFin⟩
  exact hK _ _ (hF.frame _ _ (by decide)) hFin
theorem dnR17 (hc:c.Ok){m:Nat}(hm0:m<=899000000)(hb:DB d m)(hF:c.Fr a)(hS:c.N w d X)(hK:∀ a' w',c.Fr a'->c.N w' (Jo c.l c.EL d) X->K a' w'):(Z2 13 (Z9 Tryz.f51)).wp Tryz.prog (Exit.then K Q) a w:=by
 obtain ⟨mi,hm⟩:∃ q,q=min d.n.nw (2*(c.EL:Int)):=⟨_,rfl⟩;have HMi:Hid (mi=min d.n.nw (2*(c.EL:Int))):=hm;obtain ⟨M,HM⟩:∃ q,q=min d.n.nw.toNat (2*c.EL)+1:=⟨_,rfl⟩;rw [show Jo c.l c.EL d=⟨{ d.n with hd:=d.n.nw-(Z4 c.l d.k (min d.n.nw.toNat (2*c.EL)+1):Nat) },d.k+Zn (min d.n.nw.toNat (2*c.EL)+1)⟩ from rfl,<-HM] at hK;have hM1:(M:Int)=mi+1:=by have:=hb.nw;omega
 have hM2:M<=2*c.EL+1:=by omega
 obtain ⟨pD,hpD⟩:∃ p,p=Z4 c.l d.k M:=⟨_,rfl⟩;rw [<-hpD] at hK;have HPD:Hid (pD=Z4 c.l d.k M):=hpD;have bD:pD<M:=by rw [hpD];exact Zi _ _ _ (by omega)
 clear hpD hm;have hsz:=hc.sz;have hel:=hc.el;have hid:=hc.id;have hnw:=hb.nw;have hkb:=hb.k
 conv=>arg 2;whnf
 refine Z00 (fun a0=>a0.tmps.size=297/\a0.eval (.tmp 0)=.pointer (some ⟨c.g,0,none⟩)/\a0.eval (.tmp 7)=.int .i64 (c.EL:Int)/\a0.eval (.tmp 9)=.pointer (some ⟨c.b9,0,none⟩)) (fun a0 aF w'=>∃ x:Nat->Value,aF=frame a0 [86,87,88,89,90,91,92,93,94,95,96,97] x/\c.N w' ⟨{ d.n with hd:=d.n.nw-(pD:Int) },d.k+Zn M⟩ X) ?_ ⟨hF.sz,hF.e0,hF.e7,hF.e9⟩ ?_
 ·rintro a0 ⟨hsz0,e0,e7,e9⟩
  refine Yv (by kernel_rfl) (fun L aF w'=>∃ x:Nat->Value,aF=frame a0 [86,87,88,89,90,91,92,93,94,95,96,97] x/\(St3 (fun W=>c.N W d X) (fun W=>c.N W ⟨d.n,d.k+Zn M⟩ X) (fun W=>c.N W ⟨{ d.n with hd:=d.n.nw-(pD:Int) },d.k+Zn M⟩ X)) (L.getD 9 false) (L.getD 12 false) w'/\(L.getD 0 false=true->x 86=.pointer (some ⟨c.b9,9,none⟩))/\(L.getD 1 false=true->x 87=.int .i64 d.n.nw)/\(L.getD 2 false=true->x 88=.pointer (some ⟨c.g,0,none⟩))/\(L.getD 3 false=true->x 89=.pointer (some ⟨c.b9,9,none⟩))/\(L.getD 4 false=true->x 90=.int .i64 d.n.nw)/\(L.getD 5 false=true->x 91=.int .i64 (c.EL:Int))/\(L.getD 6 false=true->x 92=.int .i64 (2*(c.EL:Int)))/\(L.getD 7 false=true->x 93=.int .i64 mi)/\(L.getD 8 false=true->x 94=.int .i64 (M:Int))/\(L.getD 9 false=true->x 95=.int .i64 (pD:Int))/\(L.getD 10 false=true->x 96=.int .i64 (d.n.nw-(pD:Int))/\L.getD 9 false=true)/\(L.getD 11 false=true->x 97=.pointer (some ⟨c.b9,11,none⟩))/\(L.getD 12 false=true->True)) ?_ ?_ ?_
  ·refine ⟨_,Xn a0 [86,87,88,89,90,91,92,93,94,95,96,97],?_,fun h=>(Zt h).elim,fun h=>(Zt h).elim,fun h=>(Zt h).elim,fun h=>(Zt h).elim,fun h=>(Zt h).elim,fun h=>(Zt h).elim,fun h=>(Zt h).elim,fun h=>(Zt h).elim,fun h=>(Zt h).elim,fun h=>(Zt h).elim,fun h=>(Zt h).elim,fun h=>(Zt h).elim,fun h=>(Zt h).elim⟩
   rw [bit0,bit0];exact hS.drew
  ·rintro L a w' i hsL hi ⟨x,rfl,hS,h0,h1,h2,h3,h4,h5,h6,h7,h8,h9,h10,h11,h12⟩
   have hlt:∀ j,j<13->j<L.size:=fun j hj=>by rw [hsL];exact hj
   have hsl:∀ j,j<297->j<a0.tmps.size:=fun j hj=>by rw [hsz0];exact hj
   have hiL:i<13:=(Y9 hsL hi).1;have hLz:L.size=13:=hsL;have X6:w'.cell? ⟨c.b9,9,none⟩=some (.int .i64 d.n.nw):=by refine St3.any (P:=fun W=>W.cell? ⟨c.b9,9,none⟩=some (.int .i64 d.n.nw)) ?_ ?_ ?_ hS <;> intro W h <;> exact (DC.N.blk h).cell 9
   rcases (show i=0∨i=1∨i=2∨i=3∨i=4∨i=5∨i=6∨i=7∨i=8∨i=9∨i=10∨i=11∨i=12 by omega) with rfl | rfl | rfl | rfl | rfl | rfl | rfl | rfl | rfl | rfl | rfl | rfl | rfl
   ·skip
    have ev9:(frame a0 [86,87,88,89,90,91,92,93,94,95,96,97] x).tmps[9]?.getD undef=.pointer (some ⟨c.b9,0,none⟩):=by have h:=(Zm a0 [86,87,88,89,90,91,92,93,94,95,96,97] x 9 rfl).trans e9;simpa [Act.eval] using h
    refine Za rfl rfl (Zl (v:=.pointer (some ⟨c.b9,9,none⟩)) ?_ ?_)
    ·obtain ⟨aa,haa⟩:∃ aa,aa=frame a0 [86,87,88,89,90,91,92,93,94,95,96,97] x:=⟨_,rfl⟩
     rw [<-haa] at ev9 ⊢;clear haa;go_simp
    exact ⟨_,Zd _ _ _ 86 _ rfl,(by rw [Y4 (hlt 0 (by decide)) (by decide),Y4 (hlt 0 (by decide)) (by decide)];exact hS),fun h=>Zh _ _ _,ke h1 (hlt 0 (by decide)) (by decide) (by decide),ke h2 (hlt 0 (by decide)) (by decide) (by decide),ke h3 (hlt 0 (by decide)) (by decide) (by decide),ke h4 (hlt 0 (by decide)) (by decide) (by decide),ke h5 (hlt 0 (by decide)) (by decide) (by decide),ke h6 (hlt 0 (by decide)) (by decide) (by decide),ke h7 (hlt 0 (by decide)) (by decide) (by decide),ke h8 (hlt 0 (by decide)) (by decide) (by decide),ke h9 (hlt 0 (by decide)) (by decide) (by decide),fun h=>⟨(Z3 _ _ _ _ (by decide)).trans (h10 (Z0 h (hlt 0 (by decide)) (by decide))).1,Y3 (h10 (Z0 h (hlt 0 (by decide)) (by decide))).2 (hlt 0 (by decide))⟩,ke h11 (hlt 0 (by decide)) (by decide) (by decide),fun h=>trivial⟩
   ·have d0:=h0 (Z7 hi (by decide))
    have ev86:(frame a0 [86,87,88,89,90,91,92,93,94,95,96,97] x).tmps[86]?.getD undef=.pointer (some ⟨c.b9,9,none⟩):=by have h:=(Z5 a0 [86,87,88,89,90,91,92,93,94,95,96,97] x 86 rfl (hsl 86 (by decide))).trans d0;simpa [Act.eval] using h
    refine Za rfl rfl (Zl (v:=.int .i64 d.n.nw) ?_ ?_)
    ·obtain ⟨aa,haa⟩:∃ aa,aa=frame a0 [86,87,88,89,90,91,92,93,94,95,96,97] x:=⟨_,rfl⟩
     rw [<-haa] at ev86 ⊢;clear haa;go_simp
    exact ⟨_,Zd _ _ _ 87 _ rfl,(by rw [Y4 (hlt 1 (by decide)) (by decide),Y4 (hlt 1 (by decide)) (by decide)];exact hS),ke h0 (hlt 1 (by decide)) (by decide) (by decide),fun h=>Zh _ _ _,ke h2 (hlt 1 (by decide)) (by decide) (by decide),ke h3 (hlt 1 (by decide)) (by decide) (by decide),ke h4 (hlt 1 (by decide)) (by decide) (by decide),ke h5 (hlt 1 (by decide)) (by decide) (by decide),ke h6 (hlt 1 (by decide)) (by decide) (by decide),ke h7 (hlt 1 (by decide)) (by decide) (by decide),ke h8 (hlt 1 (by decide)) (by decide) (by decide),ke h9 (hlt 1 (by decide)) (by decide) (by decide),fun h=>⟨(Z3 _ _ _ _ (by decide)).trans (h10 (Z0 h (hlt 1 (by decide)) (by decide))).1,Y3 (h10 (Z0 h (hlt 1 (by decide)) (by decide))).2 (hlt 1 (by decide))⟩,ke h11 (hlt 1 (by decide)) (by decide) (by decide),fun h=>trivial⟩
   ·skip
    refine Za rfl rfl (Y2 (.tmp 0) (Or.inl rfl) ?_);rw [Zm _ _ _ 0 rfl,e0];exact ⟨_,Zd _ _ _ 88 _ rfl,(by rw [Y4 (hlt 2 (by decide)) (by decide),Y4 (hlt 2 (by decide)) (by decide)];exact hS),ke h0 (hlt 2 (by decide)) (by decide) (by decide),ke h1 (hlt 2 (by decide)) (by decide) (by decide),fun h=>Zh _ _ _,ke h3 (hlt 2 (by decide)) (by decide) (by decide),ke h4 (hlt 2 (by decide)) (by decide) (by decide),ke h5 (hlt 2 (by decide)) (by decide) (by decide),ke h6 (hlt 2 (by decide)) (by decide) (by decide),ke h7 (hlt 2 (by decide)) (by decide) (by decide),ke h8 (hlt 2 (by decide)) (by decide) (by decide),ke h9 (hlt 2 (by decide)) (by decide) (by decide),fun h=>⟨(Z3 _ _ _ _ (by decide)).trans (h10 (Z0 h (hlt 2 (by decide)) (by decide))).1,Y3 (h10 (Z0 h (hlt 2 (by decide)) (by decide))).2 (hlt 2 (by decide))⟩,ke h11 (hlt 2 (by decide)) (by decide) (by decide),fun h=>trivial⟩
   ·skip
    have ev9:(frame a0 [86,87,88,89,90,91,92,93,94,95,96,97] x).tmps[9]?.getD undef=.pointer (some ⟨c.b9,0,none⟩):=by have h:=(Zm a0 [86,87,88,89,90,91,92,93,94,95,96,97] x 9 rfl).trans e9;simpa [Act.eval] using h
    refine Za rfl rfl (Zl (v:=.pointer (some ⟨c.b9,9,none⟩)) ?_ ?_)
    ·obtain ⟨aa,haa⟩:∃ aa,aa=frame a0 [86,87,88,89,90,91,92,93,94,95,96,97] x:=⟨_,rfl⟩
     rw [<-haa] at ev9 ⊢;clear haa;go_simp
    exact ⟨_,Zd _ _ _ 89 _ rfl,(by rw [Y4 (hlt 3 (by decide)) (by decide),Y4 (hlt 3 (by decide)) (by decide)];exact hS),ke h0 (hlt 3 (by decide)) (by decide) (by decide),ke h1 (hlt 3 (by decide)) (by decide) (by decide),ke h2 (hlt 3 (by decide)) (by decide) (by decide),fun h=>Zh _ _ _,ke h4 (hlt 3 (by decide)) (by decide) (by decide),ke h5 (hlt 3 (by decide)) (by decide) (by decide),ke h6 (hlt 3 (by decide)) (by decide) (by decide),ke h7 (hlt 3 (by decide)) (by decide) (by decide),ke h8 (hlt 3 (by decide)) (by decide) (by decide),ke h9 (hlt 3 (by decide)) (by decide) (by decide),fun h=>⟨(Z3 _ _ _ _ (by decide)).trans (h10 (Z0 h (hlt 3 (by decide)) (by decide))).1,Y3 (h10 (Z0 h (hlt 3 (by decide)) (by decide))).2 (hlt 3 (by decide))⟩,ke h11 (hlt 3 (by decide)) (by decide) (by decide),fun h=>trivial⟩
   ·have d3:=h3 (Z7 hi (by decide))
    have ev89:(frame a0 [86,87,88,89,90,91,92,93,94,95,96,97] x).tmps[89]?.getD undef=.pointer (some ⟨c.b9,9,none⟩):=by have h:=(Z5 a0 [86,87,88,89,90,91,92,93,94,95,96,97] x 89 rfl (hsl 89 (by decide))).trans d3;simpa [Act.eval] using h
    refine Za rfl rfl (Zl (v:=.int .i64 d.n.nw) ?_ ?_)
    ·obtain ⟨aa,haa⟩:∃ aa,aa=frame a0 [86,87,88,89,90,91,92,93,94,95,96,97] x:=⟨_,rfl⟩
     rw [<-haa] at ev89 ⊢;clear haa;go_simp
    exact ⟨_,Zd _ _ _ 90 _ rfl,(by rw [Y4 (hlt 4 (by decide)) (by decide),Y4 (hlt 4 (by decide)) (by decide)];exact hS),ke h0 (hlt 4 (by decide)) (by decide) (by decide),ke h1 (hlt 4 (by decide)) (by decide) (by decide),ke h2 (hlt 4 (by decide)) (by decide) (by decide),ke h3 (hlt 4 (by decide)) (by decide) (by decide),fun h=>Zh _ _ _,ke h5 (hlt 4 (by decide)) (by decide) (by decide),ke h6 (hlt 4 (by decide)) (by decide) (by decide),ke h7 (hlt 4 (by decide)) (by decide) (by decide),ke h8 (hlt 4 (by decide)) (by decide) (by decide),ke h9 (hlt 4 (by decide)) (by decide) (by decide),fun h=>⟨(Z3 _ _ _ _ (by decide)).trans (h10 (Z0 h (hlt 4 (by decide)) (by decide))).1,Y3 (h10 (Z0 h (hlt 4 (by decide)) (by decide))).2 (hlt 4 (by decide))⟩,ke h11 (hlt 4 (by decide)) (by decide) (by decide),fun h=>trivial⟩
   ·skip
    refine Za rfl rfl (Y2 (.tmp 7) (Or.inl rfl) ?_);rw [Zm _ _ _ 7 rfl,e7];exact ⟨_,Zd _ _ _ 91 _ rfl,(by rw [Y4 (hlt 5 (by decide)) (by decide),Y4 (hlt 5 (by decide)) (by decide)];exact hS),ke h0 (hlt 5 (by decide)) (by decide) (by decide),ke h1 (hlt 5 (by decide)) (by decide) (by decide),ke h2 (hlt 5 (by decide)) (by decide) (by decide),ke h3 (hlt 5 (by decide)) (by decide) (by decide),ke h4 (hlt 5 (by decide)) (by decide) (by decide),fun h=>Zh _ _ _,ke h6 (hlt 5 (by decide)) (by decide) (by decide),ke h7 (hlt 5 (by decide)) (by decide) (by decide),ke h8 (hlt 5 (by decide)) (by decide) (by decide),ke h9 (hlt 5 (by decide)) (by decide) (by decide),fun h=>⟨(Z3 _ _ _ _ (by decide)).trans (h10 (Z0 h (hlt 5 (by decide)) (by decide))).1,Y3 (h10 (Z0 h (hlt 5 (by decide)) (by decide))).2 (hlt 5 (by decide))⟩,ke h11 (hlt 5 (by decide)) (by decide) (by decide),fun h=>trivial⟩
   ·have d5:=h5 (Z7 hi (by decide))
    have ev91:(frame a0 [86,87,88,89,90,91,92,93,94,95,96,97] x).tmps[91]?.getD undef=.int .i64 (c.EL:Int):=by have h:=(Z5 a0 [86,87,88,89,90,91,92,93,94,95,96,97] x 91 rfl (hsl 91 (by decide))).trans d5;simpa [Act.eval] using h
    refine Za rfl rfl (Zl (v:=.int .i64 (2*(c.EL:Int))) ?_ ?_)
    ·obtain ⟨aa,haa⟩:∃ aa,aa=frame a0 [86,87,88,89,90,91,92,93,94,95,96,97] x:=⟨_,rfl⟩
     rw [<-haa] at ev91 ⊢;clear haa;go_simp;rw [IntKind.wrap_i64];omega
    exact ⟨_,Zd _ _ _ 92 _ rfl,(by rw [Y4 (hlt 6 (by decide)) (by decide),Y4 (hlt 6 (by decide)) (by decide)];exact hS),ke h0 (hlt 6 (by decide)) (by decide) (by decide),ke h1 (hlt 6 (by decide)) (by decide) (by decide),ke h2 (hlt 6 (by decide)) (by decide) (by decide),ke h3 (hlt 6 (by decide)) (by decide) (by decide),ke h4 (hlt 6 (by decide)) (by decide) (by decide),ke h5 (hlt 6 (by decide)) (by decide) (by decide),fun h=>Zh _ _ _,ke h7 (hlt 6 (by decide)) (by decide) (by decide),ke h8 (hlt 6 (by decide)) (by decide) (by decide),ke h9 (hlt 6 (by decide)) (by decide) (by decide),fun h=>⟨(Z3 _ _ _ _ (by decide)).trans (h10 (Z0 h (hlt 6 (by decide)) (by decide))).1,Y3 (h10 (Z0 h (hlt 6 (by decide)) (by decide))).2 (hlt 6 (by decide))⟩,ke h11 (hlt 6 (by decide)) (by decide) (by decide),fun h=>trivial⟩
   ·have d4:=h4 (Z7 hi (by decide))
    have d6:=h6 (Z7 hi (by decide));have ev90:=(Z5 a0 [86,87,88,89,90,91,92,93,94,95,96,97] x 90 rfl (hsl 90 (by decide))).trans d4;have ev92:=(Z5 a0 [86,87,88,89,90,91,92,93,94,95,96,97] x 92 rfl (hsl 92 (by decide))).trans d6;refine Za rfl rfl (Yi (N:=55) rfl (fun _ _=>by go_simp) #[.int .i64 d.n.nw,.int .i64 (2*(c.EL:Int))] (by simp only [List.map_toArray,List.map_cons,List.map_nil,ev90,ev92]) ?_);refine Calls.mono (Z17 _ _ _) ?_;rw [<-HMi.out];rintro e w2 ⟨rfl,rfl⟩;refine ⟨_,rfl,?_⟩;exact ⟨_,Zd _ _ _ 93 _ rfl,(by rw [Y4 (hlt 7 (by decide)) (by decide),Y4 (hlt 7 (by decide)) (by decide)];exact hS),ke h0 (hlt 7 (by decide)) (by decide) (by decide),ke h1 (hlt 7 (by decide)) (by decide) (by decide),ke h2 (hlt 7 (by decide)) (by decide) (by decide),ke h3 (hlt 7 (by decide)) (by decide) (by decide),ke h4 (hlt 7 (by decide)) (by decide) (by decide),ke h5 (hlt 7 (by decide)) (by decide) (by decide),ke h6 (hlt 7 (by decide)) (by decide) (by decide),fun h=>Zh _ _ _,ke h8 (hlt 7 (by decide)) (by decide) (by decide),ke h9 (hlt 7 (by decide)) (by decide) (by decide),fun h=>⟨(Z3 _ _ _ _ (by decide)).trans (h10 (Z0 h (hlt 7 (by decide)) (by decide))).1,Y3 (h10 (Z0 h (hlt 7 (by decide)) (by decide))).2 (hlt 7 (by decide))⟩,ke h11 (hlt 7 (by decide)) (by decide) (by decide),fun h=>trivial⟩
   ·have d7:=h7 (Z7 hi (by decide))
    have ev93:(frame a0 [86,87,88,89,90,91,92,93,94,95,96,97] x).tmps[93]?.getD undef=.int .i64 mi:=by have h:=(Z5 a0 [86,87,88,89,90,91,92,93,94,95,96,97] x 93 rfl (hsl 93 (by decide))).trans d7;simpa [Act.eval] using h
    refine Za rfl rfl (Zl (v:=.int .i64 (M:Int)) ?_ ?_)
    ·obtain ⟨aa,haa⟩:∃ aa,aa=frame a0 [86,87,88,89,90,91,92,93,94,95,96,97] x:=⟨_,rfl⟩
     rw [<-haa] at ev93 ⊢;clear haa;go_simp;rw [IntKind.wrap_i64];omega
    exact ⟨_,Zd _ _ _ 94 _ rfl,(by rw [Y4 (hlt 8 (by decide)) (by decide),Y4 (hlt 8 (by decide)) (by decide)];exact hS),ke h0 (hlt 8 (by decide)) (by decide) (by decide),ke h1 (hlt 8 (by decide)) (by decide) (by decide),ke h2 (hlt 8 (by decide)) (by decide) (by decide),ke h3 (hlt 8 (by decide)) (by decide) (by decide),ke h4 (hlt 8 (by decide)) (by decide) (by decide),ke h5 (hlt 8 (by decide)) (by decide) (by decide),ke h6 (hlt 8 (by decide)) (by decide) (by decide),ke h7 (hlt 8 (by decide)) (by decide) (by decide),fun h=>Zh _ _ _,ke h9 (hlt 8 (by decide)) (by decide) (by decide),fun h=>⟨(Z3 _ _ _ _ (by decide)).trans (h10 (Z0 h (hlt 8 (by decide)) (by decide))).1,Y3 (h10 (Z0 h (hlt 8 (by decide)) (by decide))).2 (hlt 8 (by decide))⟩,ke h11 (hlt 8 (by decide)) (by decide) (by decide),fun h=>trivial⟩
   ·have d2:=h2 (Z7 hi (by decide))
    have d8:=h8 (Z7 hi (by decide));have ev88:=(Z5 a0 [86,87,88,89,90,91,92,93,94,95,96,97] x 88 rfl (hsl 88 (by decide))).trans d2;have ev94:=(Z5 a0 [86,87,88,89,90,91,92,93,94,95,96,97] x 94 rfl (hsl 94 (by decide))).trans d8;refine Za rfl rfl (Yi (N:=53) rfl (fun _ _=>by go_simp) #[.pointer (some ⟨c.g,0,none⟩),.int .i64 (M:Int)] (by simp only [List.map_toArray,List.map_cons,List.map_nil,ev88,ev94]) ?_);have hb9:L.getD 9 false=false:=by have h9:=(Y9 hsL hi).2;rw [Array.getD_eq_getD_getElem?,h9];rfl
    rw [hb9] at hS;obtain ⟨hb12,hS0⟩:=hS.fst;refine Calls.mono (DC.N.pick hS0 hc M (by omega) (by omega) (by omega)) ?_;rw [<-HPD.out];rintro e w2 ⟨rfl,hd⟩;refine ⟨_,rfl,?_⟩;exact ⟨_,Zd _ _ _ 95 _ rfl,(by rw [J4 (hlt 9 (by decide)),Y4 (hlt 9 (by decide)) (by decide),hb12];exact hd),ke h0 (hlt 9 (by decide)) (by decide) (by decide),ke h1 (hlt 9 (by decide)) (by decide) (by decide),ke h2 (hlt 9 (by decide)) (by decide) (by decide),ke h3 (hlt 9 (by decide)) (by decide) (by decide),ke h4 (hlt 9 (by decide)) (by decide) (by decide),ke h5 (hlt 9 (by decide)) (by decide) (by decide),ke h6 (hlt 9 (by decide)) (by decide) (by decide),ke h7 (hlt 9 (by decide)) (by decide) (by decide),ke h8 (hlt 9 (by decide)) (by decide) (by decide),fun h=>Zh _ _ _,fun h=>⟨(Z3 _ _ _ _ (by decide)).trans (h10 (Z0 h (hlt 9 (by decide)) (by decide))).1,Y3 (h10 (Z0 h (hlt 9 (by decide)) (by decide))).2 (hlt 9 (by decide))⟩,ke h11 (hlt 9 (by decide)) (by decide) (by decide),fun h=>trivial⟩
   ·have d1:=h1 (Z7 hi (by decide))
    have d9:=h9 (Z7 hi (by decide));have ev87:(frame a0 [86,87,88,89,90,91,92,93,94,95,96,97] x).tmps[87]?.getD undef=.int .i64 d.n.nw:=by have h:=(Z5 a0 [86,87,88,89,90,91,92,93,94,95,96,97] x 87 rfl (hsl 87 (by decide))).trans d1;simpa [Act.eval] using h
    have ev95:(frame a0 [86,87,88,89,90,91,92,93,94,95,96,97] x).tmps[95]?.getD undef=.int .i64 (pD:Int):=by have h:=(Z5 a0 [86,87,88,89,90,91,92,93,94,95,96,97] x 95 rfl (hsl 95 (by decide))).trans d9;simpa [Act.eval] using h
    refine Za rfl rfl (Zl (v:=.int .i64 (d.n.nw-(pD:Int))) ?_ ?_)
    ·obtain ⟨aa,haa⟩:∃ aa,aa=frame a0 [86,87,88,89,90,91,92,93,94,95,96,97] x:=⟨_,rfl⟩
     rw [<-haa] at ev87 ev95 ⊢;clear haa;go_simp;rw [IntKind.wrap_i64];omega
    exact ⟨_,Zd _ _ _ 96 _ rfl,(by rw [Y4 (hlt 10 (by decide)) (by decide),Y4 (hlt 10 (by decide)) (by decide)];exact hS),ke h0 (hlt 10 (by decide)) (by decide) (by decide),ke h1 (hlt 10 (by decide)) (by decide) (by decide),ke h2 (hlt 10 (by decide)) (by decide) (by decide),ke h3 (hlt 10 (by decide)) (by decide) (by decide),ke h4 (hlt 10 (by decide)) (by decide) (by decide),ke h5 (hlt 10 (by decide)) (by decide) (by decide),ke h6 (hlt 10 (by decide)) (by decide) (by decide),ke h7 (hlt 10 (by decide)) (by decide) (by decide),ke h8 (hlt 10 (by decide)) (by decide) (by decide),ke h9 (hlt 10 (by decide)) (by decide) (by decide),fun h=>⟨Zh _ _ _,Y3 (Z7 hi (j:=9) (by decide)) (hlt 10 (by decide))⟩,ke h11 (hlt 10 (by decide)) (by decide) (by decide),fun h=>trivial⟩
   ·skip
    have ev9:(frame a0 [86,87,88,89,90,91,92,93,94,95,96,97] x).tmps[9]?.getD undef=.pointer (some ⟨c.b9,0,none⟩):=by have h:=(Zm a0 [86,87,88,89,90,91,92,93,94,95,96,97] x 9 rfl).trans e9;simpa [Act.eval] using h
    refine Za rfl rfl (Zl (v:=.pointer (some ⟨c.b9,11,none⟩)) ?_ ?_)
    ·obtain ⟨aa,haa⟩:∃ aa,aa=frame a0 [86,87,88,89,90,91,92,93,94,95,96,97] x:=⟨_,rfl⟩
     rw [<-haa] at ev9 ⊢;clear haa;go_simp
    exact ⟨_,Zd _ _ _ 97 _ rfl,(by rw [Y4 (hlt 11 (by decide)) (by decide),Y4 (hlt 11 (by decide)) (by decide)];exact hS),ke h0 (hlt 11 (by decide)) (by decide) (by decide),ke h1 (hlt 11 (by decide)) (by decide) (by decide),ke h2 (hlt 11 (by decide)) (by decide) (by decide),ke h3 (hlt 11 (by decide)) (by decide) (by decide),ke h4 (hlt 11 (by decide)) (by decide) (by decide),ke h5 (hlt 11 (by decide)) (by decide) (by decide),ke h6 (hlt 11 (by decide)) (by decide) (by decide),ke h7 (hlt 11 (by decide)) (by decide) (by decide),ke h8 (hlt 11 (by decide)) (by decide) (by decide),ke h9 (hlt 11 (by decide)) (by decide) (by decide),fun h=>⟨(Z3 _ _ _ _ (by decide)).trans (h10 (Z0 h (hlt 11 (by decide)) (by decide))).1,Y3 (h10 (Z0 h (hlt 11 (by decide)) (by decide))).2 (hlt 11 (by decide))⟩,fun h=>Zh _ _ _,fun h=>trivial⟩
   ·have d10:=h10 (Z7 hi (by decide))
    have d11:=h11 (Z7 hi (by decide));have hb12:L.getD 12 false=false:=by have h9:=(Y9 hsL hi).2;rw [Array.getD_eq_getD_getElem?,h9];rfl
    have evp:=(Z5 a0 [86,87,88,89,90,91,92,93,94,95,96,97] x 97 rfl (hsl 97 (by decide))).trans d11;have evs:=(Z5 a0 [86,87,88,89,90,91,92,93,94,95,96,97] x 96 rfl (hsl 96 (by decide))).trans d10.1;have ha6:L.getD 9 false=true:=d10.2;rw [ha6,hb12] at hS;refine Za rfl rfl (wp_st1 (.tmp 97) (.tmp 96) rfl evp evs ((DC.N.blk hS).cell 11) ((DC.N.blk hS).free 11) rfl ?_);exact ⟨_,rfl,(by rw [Y4 (hlt 12 (by decide)) (by decide),ha6,J4 (hlt 12 (by decide))];exact DC.N.set (d:=⟨d.n,d.k+Zn M⟩) hS 11 (by omega) _ rfl rfl rfl rfl rfl rfl rfl),ku h0 (hlt 12 (by decide)) (by decide),ku h1 (hlt 12 (by decide)) (by decide),ku h2 (hlt 12 (by decide)) (by decide),ku h3 (hlt 12 (by decide)) (by decide),ku h4 (hlt 12 (by decide)) (by decide),ku h5 (hlt 12 (by decide)) (by decide),ku h6 (hlt 12 (by decide)) (by decide),ku h7 (hlt 12 (by decide)) (by decide),ku h8 (hlt 12 (by decide)) (by decide),ku h9 (hlt 12 (by decide)) (by decide),fun h=>⟨(h10 (Z0 h (hlt 12 (by decide)) (by decide))).1,Y3 (h10 (Z0 h (hlt 12 (by decide)) (by decide))).2 (hlt 12 (by decide))⟩,ku h11 (hlt 12 (by decide)) (by decide),fun h=>trivial⟩
  ·rintro L a w' hsL hr ⟨x,rfl,hS,h0,h1,h2,h3,h4,h5,h6,h7,h8,h9,h10,h11,h12⟩
   have hall:=Xi hsL hr (by decide);replace h0:=h0 (hall 0 (by decide));replace h1:=h1 (hall 1 (by decide));replace h2:=h2 (hall 2 (by decide));replace h3:=h3 (hall 3 (by decide));replace h4:=h4 (hall 4 (by decide));replace h5:=h5 (hall 5 (by decide));replace h6:=h6 (hall 6 (by decide));replace h7:=h7 (hall 7 (by decide));replace h8:=h8 (hall 8 (by decide));replace h9:=h9 (hall 9 (by decide));replace h10:=h10 (hall 10 (by decide));replace h11:=h11 (hall 11 (by decide));replace h12:=h12 (hall 12 (by decide));rw [hall 9 (by decide),hall 12 (by decide)] at hS;exact ⟨rfl,x,rfl,hS⟩
 ·rintro a' w' ⟨x,rfl,hFin⟩
  exact hK _ _ (hF.frame _ _ (by decide)) hFin
end
section
variable {Q:Exit->Act->World->Prop} {K:Act->World->Prop} {c:DC} {d:DnS} {X:RV} {a:Act} {w:World}
theorem dnR15 (hc:c.Ok){m:Nat}(hm0:m<=899000000)(hb:DB d m)(hF:c.Fr a)(hS:c.N w d X)(hK:∀ a' w',c.Fr a'->c.N w' ⟨d.n,d.k+1⟩ X/\a'.eval (.tmp 79)=.bool (decide (Z4 c.l d.k 3=0))->K a' w'):(Z2 0 (Z2 12 (Z9 Tryz.f51))).wp Tryz.prog (Exit.then K Q) a w:=by
 obtain ⟨t,rfl⟩:=hF.opened;have hsz:=hc.sz;have hel:=hc.el;have hid:=hc.id;have hnw:=hb.nw;have hkb:=hb.k;have hlg:=hb.lg;clear hF;have HS:Hid (c.N w d X):=hS;clear hS;obtain ⟨p,hp⟩:∃ p,p=Z4 c.l d.k 3:=⟨_,rfl⟩;have Hp:Hid (p=Z4 c.l d.k 3):=hp;rw [<-hp] at hK;have bp:p<3:=by rw [hp];exact Zi _ _ _ (by omega)
 clear hp
 conv=>arg 2;whnf
 go_wp2_with (go_at_call 53;go_loud (refine (HS.out.pick1 hc 3 (by omega) (by omega) (by omega)).mono ?_;rw [<-Hp.out];rintro r w9 ⟨rfl,hd⟩;have HS9:Hid _:=hd;clear hd))
 exact hK _ _ ⟨rfl,rfl,rfl,rfl,rfl,rfl,rfl,rfl,rfl⟩ ⟨HS9.out,by simp [Act.eval,beq0]⟩
theorem dnI12 (hc:c.Ok){m:Nat}(hm0:m<=898999000)(hb:DB d m)(hF:c.Fr a)(hS:c.N w d X)(hK:∀ a' w',c.Fr a'->c.N w' (if Z4 c.l d.k 3=0 then ⟨{ d.n with dl:=d.n.nw+(Z4 c.l (d.k+1) 2:Nat) },d.k+1+1⟩ else ⟨d.n,d.k+1⟩) X->K a' w'):(Z2 12 (Z9 Tryz.f51)).wp Tryz.prog (Exit.then K Q) a w:=by
 rw [show Z2 12 (Z9 Tryz.f51)=.seq (Z2 0 (Z2 12 (Z9 Tryz.f51))) (.cond (.tmp 79) (Zo (Z1 1 (Z2 12 (Z9 Tryz.f51)))) .skip) from rfl];refine wp_seq_k ?_;intro K2 hK2;refine dnR15 hc (by omega) hb hF hS fun a' w' h1 h2=>hK2 _ _ ?_
 refine wp_cond h2.2 ?_;by_cases h:Z4 c.l d.k 3=0
 ·simp only [h,decide_true,if_true] at hK ⊢
  exact dnR16 (d:=⟨d.n,d.k+1⟩) hc (m:=m+1) (by omega) (hb.step 1 (Nat.le_refl _) rfl rfl rfl) h1 h2.1 hK
 ·simp only [h,decide_false,if_false,Bool.false_eq_true] at hK ⊢
  exact wp_skip (hK _ _ h1 h2.1)
theorem dnR18 (hc:c.Ok){m:Nat}(hm0:m<=899000000)(hb:DB d m)(hF:c.Fr a)(hS:c.N w d X)(hK:∀ a' w',c.Fr a'->c.N w' (Z07 c.l d) X->K a' w'):(Z2 14 (Z9 Tryz.f51)).wp Tryz.prog (Exit.then K Q) a w:=by
 obtain ⟨t,rfl⟩:=hF.opened;have hsz:=hc.sz;have hel:=hc.el;have hid:=hc.id;have hnw:=hb.nw;have hkb:=hb.k;have hlg:=hb.lg;clear hF;have HS:Hid (c.N w d X):=hS;clear hS;rw [show Z07 c.l d=⟨{ d.n with cm:=(Z4 c.l d.k (d.n.log.length+1):Nat) },d.k+Zn (d.n.log.length+1)⟩ from rfl] at hK;obtain ⟨p,hp⟩:∃ p,p=Z4 c.l d.k (d.n.log.length+1):=⟨_,rfl⟩;have Hp:Hid (p=Z4 c.l d.k (d.n.log.length+1)):=hp;rw [<-hp] at hK;have bp:p<(d.n.log.length+1):=by rw [hp];exact Zi _ _ _ (by omega)
 clear hp;obtain ⟨ra,rc,hvl⟩:=HS.out.vl;have c12:w.cell? ⟨c.b9,12,none⟩=some (.slice ra d.n.log.length rc):=by rw [<-hvl];exact HS.out.blk.cell 12
 clear hvl;obtain ⟨N,hN⟩:∃ N,N=d.n.log.length:=⟨_,rfl⟩;rw [<-hN] at c12 Hp bp hlg hK;have HN:Hid (N=d.n.log.length):=hN;clear hN
 conv=>arg 2;whnf
 go_wp2_with (go_at_call 53;go_loud (refine (HS.out.pick hc (N+1) (by omega) (by omega) (by omega)).mono ?_;rw [<-Hp.out];rintro r w9 ⟨rfl,hd⟩;have HS9:Hid _:=hd;have c8:w9.cell? ⟨c.b9,8,none⟩=some (.int .i64 d.n.cm):=(DC.N.blk (d:=⟨d.n,d.k+Zn (N+1)⟩) hd).cell 8;have f8:w9.frozen? ⟨c.b9,8,none⟩=false:=(DC.N.blk (d:=⟨d.n,d.k+Zn (N+1)⟩) hd).free 8;clear hd))
 exact hK _ _ ⟨rfl,rfl,rfl,rfl,rfl,rfl,rfl,rfl,rfl⟩ (DC.N.set (d:=⟨d.n,d.k+Zn (N+1)⟩) HS9.out 8 (by omega) _ rfl rfl rfl rfl rfl rfl rfl)
theorem dnR19 (hc:c.Ok){m:Nat}(hm0:m<=899000000)(hb:DB d m)(hF:c.Fr a)(hS:c.N w d X)(hK:∀ a' w',c.Fr a'->c.N w' ⟨d.n,d.k+1⟩ X/\a'.eval (.tmp 10)=.int .i64 (Z4 c.l d.k 8:Nat)->K a' w'):(Z2 15 (Z9 Tryz.f51)).wp Tryz.prog (Exit.then K Q) a w:=by
 obtain ⟨t,rfl⟩:=hF.opened;have hsz:=hc.sz;have hel:=hc.el;have hid:=hc.id;have hnw:=hb.nw;have hkb:=hb.k;have hlg:=hb.lg;clear hF;have HS:Hid (c.N w d X):=hS;clear hS;obtain ⟨p,hp⟩:∃ p,p=Z4 c.l d.k 8:=⟨_,rfl⟩;have Hp:Hid (p=Z4 c.l d.k 8):=hp;rw [<-hp] at hK;have bp:p<8:=by rw [hp];exact Zi _ _ _ (by omega)
 clear hp
 conv=>arg 2;whnf
 go_wp2_with (go_at_call 53;go_loud (refine (HS.out.pick1 hc 8 (by omega) (by omega) (by omega)).mono ?_;rw [<-Hp.out];rintro r w9 ⟨rfl,hd⟩;have HS9:Hid _:=hd;clear hd))
 exact hK _ _ ⟨rfl,rfl,rfl,rfl,rfl,rfl,rfl,rfl,rfl⟩ ⟨HS9.out,rfl⟩
theorem dnI16a (hc:c.Ok){m:Nat}(hm0:m<=899000000)(hb:DB d m)(q0:Z4 c.l d.k 8=0)(h10:a.eval (.tmp 10)=.int .i64 (Z4 c.l d.k 8:Nat))(hF:c.Fr a)(hS:c.N w ⟨d.n,d.k+1⟩ X)(hK:∀ a' w',c.Fr a'->c.N w' (Jn c.l c.h c.T d) X->K a' w'):(Z2 16 (Z9 Tryz.f51)).wp Tryz.prog (Exit.then K Q) a w:=by
 obtain ⟨t,rfl⟩:=hF.opened;have hsz:=hc.sz;have hel:=hc.el;have hid:=hc.id;have hnw:=hb.nw;have hkb:=hb.k;have hlg:=hb.lg;clear hF;have HS:Hid (c.N w ⟨d.n,d.k+1⟩ X):=hS;clear hS;have ht:t 10=.int .i64 (Z4 c.l d.k 8:Nat):=h10;rw [ht];clear ht h10;rw [show Jn c.l c.h c.T d=⟨{ d.n with ld:=if 1+(((c.ID:Int)+(Z4 c.l (d.k+1) (c.SZ-1):Nat))%(c.SZ:Int))=c.ID then 0 else 1+(((c.ID:Int)+(Z4 c.l (d.k+1) (c.SZ-1):Nat))%(c.SZ:Int)) },d.k+1+1⟩ by unfold Jn;rw [if_pos q0];rfl] at hK;rw [q0];obtain ⟨p,hp⟩:∃ p,p=Z4 c.l (d.k+1) (c.SZ-1):=⟨_,rfl⟩;have Hp:Hid (p=Z4 c.l (d.k+1) (c.SZ-1)):=hp;rw [<-hp] at hK;have bp:p<(c.SZ-1):=by rw [hp];exact Zi _ _ _ (by omega)
 clear hp;obtain ⟨M,hM⟩:∃ M,M=c.SZ-1:=⟨_,rfl⟩;rw [<-hM] at Hp bp;have hy1:=Int.emod_nonneg ((c.ID:Int)+(p:Int)) (b:=(c.SZ:Int)) (by omega);have hy2:=Int.emod_lt_of_pos ((c.ID:Int)+(p:Int)) (b:=(c.SZ:Int)) (by omega)
 conv=>arg 2;whnf
 go_wp2_with (go_at_call 53;rw [show ((c.SZ:Int)-1)=(M:Int) by omega];go_loud (refine (HS.out.pick1 hc M (by show d.k+1<=_;omega) (by omega) (by omega)).mono ?_;rw [<-Hp.out];rintro r w9 ⟨rfl,hd⟩;have HS9:Hid (c.N w9 ⟨d.n,d.k+1+1⟩ X):=hd;have c7:w9.cell? ⟨c.b9,7,none⟩=some (.int .i64 d.n.ld):=HS9.out.blk.cell 7;have f7:w9.frozen? ⟨c.b9,7,none⟩=false:=HS9.out.blk.free 7;clear hd))
 ·rename_i hz
  have heq:1+((c.ID:Int)+(p:Int))%(c.SZ:Int)=c.ID:=by simpa using hz
  rw [if_pos heq] at hK;exact hK _ _ ⟨rfl,rfl,rfl,rfl,rfl,rfl,rfl,rfl,rfl⟩ (DC.N.set (HS9.out.set (n':={ d.n with ld:=1+((c.ID:Int)+(p:Int))%(c.SZ:Int) }) 7 (by omega) _ rfl rfl rfl rfl rfl rfl rfl) 7 (by omega) _ rfl rfl rfl rfl rfl rfl rfl)
 ·rename_i hz
  have hne:¬ 1+((c.ID:Int)+(p:Int))%(c.SZ:Int)=c.ID:=by simpa using hz
  rw [if_neg hne] at hK;exact hK _ _ ⟨rfl,rfl,rfl,rfl,rfl,rfl,rfl,rfl,rfl⟩ (HS9.out.set 7 (by omega) _ rfl rfl rfl rfl rfl rfl rfl)
theorem dnI16b (hc:c.Ok){m:Nat}(hm0:m<=899000000)(hb:DB d m)(q0:¬ Z4 c.l d.k 8=0)(h10:a.eval (.tmp 10)=.int .i64 (Z4 c.l d.k 8:Nat))(hF:c.Fr a)(hS:c.N w ⟨d.n,d.k+1⟩ X)(hK:∀ a' w',c.Fr a'->c.N w' (Jn c.l c.h c.T d) X->K a' w'):(Z2 16 (Z9 Tryz.f51)).wp Tryz.prog (Exit.then K Q) a w:=by
 obtain ⟨t,rfl⟩:=hF.opened;have hsz:=hc.sz;have hel:=hc.el;have hid:=hc.id;have hnw:=hb.nw;have hkb:=hb.k;have hlg:=hb.lg;clear hF;have HS:Hid (c.N w ⟨d.n,d.k+1⟩ X):=hS;clear hS;have ht:t 10=.int .i64 (Z4 c.l d.k 8:Nat):=h10;rw [ht];clear ht h10;have hr:Jn c.l c.h c.T d=if Z4 c.l d.k 8<3 then ⟨{ d.n with ro:=1 },d.k+1⟩ else if Z4 c.l d.k 8<5/\0<c.T then ⟨{ d.n with ro:=2,vo:=c.ID },d.k+1⟩ else if 4<Z4 c.l d.k 8/\0<c.T then ⟨{ d.n with ro:=3,vo:=c.ID,ld:=c.ID },d.k+1⟩ else ⟨d.n,d.k+1⟩:=by unfold Jn;rw [if_neg q0];rfl
 rw [hr] at hK;clear hr;obtain ⟨q,hq⟩:∃ q,q=Z4 c.l d.k 8:=⟨_,rfl⟩;rw [<-hq] at hK q0 ⊢;have bq:q<8:=by rw [hq];exact Zi _ _ _ (by omega)
 clear hq;obtain ⟨T,hT⟩:∃ T,T=c.T:=⟨_,rfl⟩;have c50:w.cell? ⟨c.b5,0,none⟩=some (.int .i64 T):=by rw [hT];exact HS.out.stb.cell 0
 rw [<-hT] at hK;clear hT;have c5:w.cell? ⟨c.b9,5,none⟩=some (.int .i64 d.n.vo):=HS.out.blk.cell 5;have f5:w.frozen? ⟨c.b9,5,none⟩=false:=HS.out.blk.free 5;have c6:w.cell? ⟨c.b9,6,none⟩=some (.int .i64 d.n.ro):=HS.out.blk.cell 6;have f6:w.frozen? ⟨c.b9,6,none⟩=false:=HS.out.blk.free 6;have c7:w.cell? ⟨c.b9,7,none⟩=some (.int .i64 d.n.ld):=HS.out.blk.cell 7;have f7:w.frozen? ⟨c.b9,7,none⟩=false:=HS.out.blk.free 7
 conv=>arg 2;whnf
 by_cases h3:q<3
 ·rw [if_pos h3] at hK
  go_wp2_with fail
  exact hK _ _ ⟨rfl,rfl,rfl,rfl,rfl,rfl,rfl,rfl,rfl⟩ (HS.out.set 6 (by omega) _ rfl rfl rfl rfl rfl rfl rfl)
 ·rw [if_neg h3] at hK
  by_cases hTp:0<T
  ·by_cases h5:q<5
   ·rw [if_pos ⟨h5,hTp⟩] at hK
    go_wp2_with fail
    exact hK _ _ ⟨rfl,rfl,rfl,rfl,rfl,rfl,rfl,rfl,rfl⟩ (DC.N.set (HS.out.set (n':={ d.n with ro:=2 }) 6 (by omega) _ rfl rfl rfl rfl rfl rfl rfl) 5 (by omega) _ rfl rfl rfl rfl rfl rfl rfl)
   ·rw [if_neg (fun h=>h5 h.1),if_pos ⟨by omega,hTp⟩] at hK
    go_wp2_with fail
    exact hK _ _ ⟨rfl,rfl,rfl,rfl,rfl,rfl,rfl,rfl,rfl⟩ (DC.N.set (DC.N.set (HS.out.set (n':={ d.n with ro:=3 }) 6 (by omega) _ rfl rfl rfl rfl rfl rfl rfl) (n':={ d.n with ro:=3,vo:=c.ID }) 5 (by omega) _ rfl rfl rfl rfl rfl rfl rfl) 7 (by omega) _ rfl rfl rfl rfl rfl rfl rfl)
  ·rw [if_neg (fun h=>hTp h.2),if_neg (fun h=>hTp h.2)] at hK
   by_cases h5:q<5
   ·go_wp2_with fail
    exact hK _ _ ⟨rfl,rfl,rfl,rfl,rfl,rfl,rfl,rfl,rfl⟩ HS.out
   ·go_wp2_with fail
    exact hK _ _ ⟨rfl,rfl,rfl,rfl,rfl,rfl,rfl,rfl,rfl⟩ HS.out
theorem dnI16 (hc:c.Ok){m:Nat}(hm0:m<=899000000)(hb:DB d m)(h10:a.eval (.tmp 10)=.int .i64 (Z4 c.l d.k 8:Nat))(hF:c.Fr a)(hS:c.N w ⟨d.n,d.k+1⟩ X)(hK:∀ a' w',c.Fr a'->c.N w' (Jn c.l c.h c.T d) X->K a' w'):(Z2 16 (Z9 Tryz.f51)).wp Tryz.prog (Exit.then K Q) a w:=by
 by_cases q0:Z4 c.l d.k 8=0
 ·exact dnI16a hc hm0 hb q0 h10 hF hS hK
 ·exact dnI16b hc hm0 hb q0 h10 hF hS hK
end
section
variable {Q:Exit->Act->World->Prop} {K:Act->World->Prop} {c:DC} {d:DnS} {X:RV} {a:Act} {w:World}
def dnGrS (l:List Int)(id:Nat)(r:DnG)(j:Nat):DnG:=
 if j+1=id then ⟨r.gr ++ [(j:Int)+1],r.ex,r.k⟩
 else if 0<r.ex then (if Z4 l r.k 2=0 then ⟨r.gr ++ [(j:Int)+1],r.ex-1,r.k+1⟩ else ⟨r.gr,r.ex,r.k+1⟩)
 else r
theorem dnGrK_succ (l:List Int)(id:Nat)(s:DnG)(j:Nat):Xt l id s (j+1)=dnGrS l id (Xt l id s j) j:=rfl
theorem dnGrK_le (l:List Int)(id:Nat)(s:DnG):∀ j,(Xt l id s j).gr.length<=s.gr.length+j/\(Xt l id s j).k<=s.k+j/\(Xt l id s j).ex<=s.ex
 | 0=>⟨Nat.le_refl _,Nat.le_refl _,Nat.le_refl _⟩
 | j+1=>by
  have ih:=dnGrK_le l id s j;rw [dnGrK_succ];unfold dnGrS;split
  ·simp;omega
  ·split
   ·split
    ·simp;omega
    ·dsimp only;omega
   ·omega
theorem dnR33 (hc:c.Ok){m:Nat}(hm0:m<=899000000)(hb:DB d m)(hF:c.Fr a)(hS:c.N w d X)(hK:∀ a' w',c.Fr a'->c.N w' d X/\a'.eval (.tmp 156)=.bool (decide (d.n.ro=1∨d.n.ro=2))->K a' w'):(Z2 0 (Z2 17 (Z9 Tryz.f51))).wp Tryz.prog (Exit.then K Q) a w:=by
 obtain ⟨t,rfl⟩:=hF.opened;have hsz:=hc.sz;have hel:=hc.el;have hid:=hc.id;have hnw:=hb.nw;have hkb:=hb.k;have hlg:=hb.lg;clear hF;have HS:Hid (c.N w d X):=hS;clear hS;obtain ⟨r,hr⟩:∃ r,r=d.n.ro:=⟨_,rfl⟩;have c6:w.cell? ⟨c.b9,6,none⟩=some (.int .i64 r):=by rw [hr];exact HS.out.blk.cell 6
 rw [<-hr] at hK;clear hr
 conv=>arg 2;whnf
 by_cases h1:r=1
 ·go_wp2_with fail
  exact hK _ _ ⟨rfl,rfl,rfl,rfl,rfl,rfl,rfl,rfl,rfl⟩ ⟨HS.out,by simp [Act.eval,h1]⟩
 ·by_cases h2:r=2
  ·go_wp2_with fail
   exact hK _ _ ⟨rfl,rfl,rfl,rfl,rfl,rfl,rfl,rfl,rfl⟩ ⟨HS.out,by simp [Act.eval,h2]⟩
  ·go_wp2_with fail
   exact hK _ _ ⟨rfl,rfl,rfl,rfl,rfl,rfl,rfl,rfl,rfl⟩ ⟨HS.out,by simp [Act.eval,h1,h2]⟩
theorem dnR34 (hc:c.Ok){m:Nat}(hm0:m<=899000000)(hb:DB d m)(hF:c.Fr a)(hS:c.N w d X)(hK:∀ a' w',c.Fr a'->c.N w' ⟨d.n,d.k+1⟩ X/\a'.eval (.tmp 11)=.int .i64 (Z4 c.l d.k (c.SZ / 2):Nat)->K a' w'):(Z2 0 (Zo (Z1 1 (Z2 17 (Z9 Tryz.f51))))).wp Tryz.prog (Exit.then K Q) a w:=by
 obtain ⟨t,rfl⟩:=hF.opened;have hsz:=hc.sz;have hel:=hc.el;have hid:=hc.id;have hnw:=hb.nw;have hkb:=hb.k;have hlg:=hb.lg;clear hF;have HS:Hid (c.N w d X):=hS;clear hS;obtain ⟨p,hp⟩:∃ p,p=Z4 c.l d.k (c.SZ / 2):=⟨_,rfl⟩;have Hp:Hid (p=Z4 c.l d.k (c.SZ / 2)):=hp;rw [<-hp] at hK;have bp:p<(c.SZ / 2):=by rw [hp];exact Zi _ _ _ (by omega)
 clear hp;obtain ⟨M,hM⟩:∃ M,M=c.SZ / 2:=⟨_,rfl⟩;rw [<-hM] at Hp bp
 conv=>arg 2;whnf
 go_wp2_with (go_at_call 53;rw [show ((c.SZ:Int) / 2)=(M:Int) by omega];go_loud (refine (HS.out.pick1 hc M (by omega) (by omega) (by omega)).mono ?_;rw [<-Hp.out];rintro r w9 ⟨rfl,hd⟩;have HS9:Hid (c.N w9 ⟨d.n,d.k+1⟩ X):=hd;clear hd))
 exact hK _ _ ⟨rfl,rfl,rfl,rfl,rfl,rfl,rfl,rfl,rfl⟩ ⟨HS9.out,rfl⟩
theorem dnR35 (hc:c.Ok){m:Nat}(hm0:m<=899000000)(hb:DB d m){e11:Value}(h11:a.eval (.tmp 11)=e11)(hF:c.Fr a)(hS:c.N w d X)(hK:∀ a' w',c.Fr a'->c.N w' d X/\a'.eval (.tmp 11)=e11/\a'.eval (.tmp 12)=.int .i64 1->K a' w'):(Z2 1 (Zo (Z1 1 (Z2 17 (Z9 Tryz.f51))))).wp Tryz.prog (Exit.then K Q) a w:=by
 obtain ⟨t,rfl⟩:=hF.opened;have hsz:=hc.sz;have hel:=hc.el;have hid:=hc.id;have hnw:=hb.nw;have hkb:=hb.k;have hlg:=hb.lg;clear hF;have HS:Hid (c.N w d X):=hS;clear hS;have ht:t 11=e11:=h11
 conv=>arg 2;whnf
 go_wp2_with fail
 exact hK _ _ ⟨rfl,rfl,rfl,rfl,rfl,rfl,rfl,rfl,rfl⟩ ⟨HS.out,rfl,rfl⟩
theorem dnG1 {s:DnG}{j:Nat}(hc:c.Ok){m:Nat}(hm0:m<=899000000)(hb:DB d m)(hj:j<c.SZ)(hsk:s.k<=899000000)(hgl:s.gr.length<=1000)(hex:s.ex<=1000)(hF:c.Fr a)(h12:a.eval (.tmp 12)=.int .i64 ((j:Int)+1))(h11:a.eval (.tmp 11)=.int .i64 (s.ex:Nat))(hS:c.N w ⟨{ d.n with gr:=s.gr },s.k⟩ X)(hP:∀ a' w' x',c.Fr a'->a'.eval (.tmp 12)=.int .i64 ((j:Int)+1+1)->a'.eval (.tmp 11)=.int .i64 ((dnGrS c.l c.ID s j).ex:Nat)->c.N w' ⟨{ d.n with gr:=(dnGrS c.l c.ID s j).gr },(dnGrS c.l c.ID s j).k⟩ x'->K a' w'):(Zy (Zf (Z1 2 (Zo (Z1 1 (Z2 17 (Z9 Tryz.f51))))))).wp Tryz.prog (Exit.then K Q) a w:=by
 obtain ⟨t,rfl⟩:=hF.opened;have hsz:=hc.sz;have hel:=hc.el;have hid:=hc.id;have hnw:=hb.nw;have hkb:=hb.k;have hlg:=hb.lg;clear hF;have HS:Hid (c.N w ⟨{ d.n with gr:=s.gr },s.k⟩ X):=hS;clear hS;have ht:t 12=.int .i64 ((j:Int)+1):=h12;have ht2:t 11=.int .i64 (s.ex:Nat):=h11;rw [ht,ht2];clear ht ht2 h11 h12;obtain ⟨ga,gc,hvg⟩:=HS.out.grOwn.shape;have Hvg:Hid (X.vg=.slice ga s.gr.length gc):=hvg;have c13:w.cell? ⟨c.b9,13,none⟩=some (.slice ga s.gr.length gc):=by rw [<-Hvg.out];exact HS.out.blk.cell 13
 have f13:w.frozen? ⟨c.b9,13,none⟩=false:=HS.out.blk.free 13;have HO:Hid (Zg inC 1 3 w c.w0.heap.size (.slice ga s.gr.length gc) s.gr):=by unfold Hid;rw [<-Hvg.out];exact HS.out.grOwn
 have hw0:=HS.out.wsize;clear hvg;obtain ⟨p,hp⟩:∃ p,p=Z4 c.l s.k 2:=⟨_,rfl⟩;have Hp:Hid (p=Z4 c.l s.k 2):=hp;have hGS:dnGrS c.l c.ID s j=if j+1=c.ID then ⟨s.gr ++ [(j:Int)+1],s.ex,s.k⟩ else if 0<s.ex then (if p=0 then ⟨s.gr ++ [(j:Int)+1],s.ex-1,s.k+1⟩ else ⟨s.gr,s.ex,s.k+1⟩) else s:=by rw [hp];rfl
 rw [hGS] at hP;have bp:p<2:=by rw [hp];exact Zi _ _ _ (by omega)
 clear hp hGS
 conv=>arg 2;whnf
 by_cases hi:j+1=c.ID
 ·rw [if_pos hi] at hP
  go_wp2_with (at_builtin;refine Xr Z0b rfl (.tmp 170) (.tmp 172) rfl (((j:Int)+1)) (HO.out.below ((Below.refl _ _).alloc (Nat.le_refl _) _)) rfl (w.heap.size) 1 (Blk.new _ _ _).range rfl (by omega) (by simp;omega) ?_;intro v2 w2 ho2 hg2;obtain ⟨a2,n2,c2,hv2⟩:∃ a n c,v2=.slice a n c:=(by obtain ⟨a,c,e⟩:=ho2.shape;exact ⟨a,_,c,e⟩);subst hv2;have HO2:Hid (Zg inC 1 3 w2 c.w0.heap.size (.slice a2 n2 c2) (s.gr ++ [((j:Int)+1)])):=ho2;have HG2:Hid (Xa (w.alloc (.cells #[.int .i64 (((j:Int)+1))] 3)) X.vg w2 (.slice a2 n2 c2)):=(by unfold Hid;rw [Hvg.out];exact hg2);have hB:=HS.out.grBlk ((Below.refl _ _).alloc (Nat.le_refl _) _) ho2 HG2.out;have cb2:w2.cell? ⟨c.b9,13,none⟩=some (.slice ga s.gr.length gc):=(by rw [<-Hvg.out];exact hB.cell 13);have fb2:w2.frozen? ⟨c.b9,13,none⟩=false:=hB.free 13;clear ho2 hg2 hB)
  exact hP _ _ _ ⟨rfl,rfl,rfl,rfl,rfl,rfl,rfl,rfl,rfl⟩ rfl rfl (HS.out.grNew ((Below.refl _ _).alloc (Nat.le_refl _) _) HO2.out HG2.out)
 ·rw [if_neg hi] at hP
  by_cases hx:0<s.ex
  ·rw [if_pos hx] at hP
   by_cases hp0:p=0
   ·rw [if_pos hp0] at hP
    obtain ⟨ex1,hex1⟩:∃ q,s.ex=q+1:=⟨s.ex-1,by omega⟩;rw [hex1] at hP ⊢
    go_wp2_with (first
     |(go_at_call 53;go_loud (refine (HS.out.pick1 hc 2 (by show s.k<=_;omega) (by omega) (by omega)).mono ?_;rw [<-Hp.out];rintro r w9 ⟨rfl,hd⟩;have HS9:Hid (c.N w9 ⟨{ d.n with gr:=s.gr },s.k+1⟩ X):=hd;have c139:w9.cell? ⟨c.b9,13,none⟩=some (.slice ga s.gr.length gc):=(by rw [<-Hvg.out];exact HS9.out.blk.cell 13);have f139:w9.frozen? ⟨c.b9,13,none⟩=false:=HS9.out.blk.free 13;have HO9:Hid (Zg inC 1 3 w9 c.w0.heap.size (.slice ga s.gr.length gc) s.gr):=(by unfold Hid;rw [<-Hvg.out];exact HS9.out.grOwn);have hw9:c.w0.heap.size<=w9.heap.size:=HS9.out.wsize;clear hd))
     |(at_builtin;refine Xr Z0b rfl (.tmp 183) (.tmp 185) rfl (((j:Int)+1)) (HO9.out.below ((Below.refl _ _).alloc (Nat.le_refl _) _)) rfl (w9.heap.size) 1 (Blk.new _ _ _).range rfl (by omega) (by simp;omega) ?_;intro v2 w2 ho2 hg2;obtain ⟨a2,n2,c2,hv2⟩:∃ a n c,v2=.slice a n c:=(by obtain ⟨a,c,e⟩:=ho2.shape;exact ⟨a,_,c,e⟩);subst hv2;have HO2:Hid (Zg inC 1 3 w2 c.w0.heap.size (.slice a2 n2 c2) (s.gr ++ [((j:Int)+1)])):=ho2;have HG2:Hid (Xa (w9.alloc (.cells #[.int .i64 (((j:Int)+1))] 3)) X.vg w2 (.slice a2 n2 c2)):=(by unfold Hid;rw [Hvg.out];exact hg2);have hB:=HS9.out.grBlk ((Below.refl _ _).alloc (Nat.le_refl _) _) ho2 HG2.out;have cb2:w2.cell? ⟨c.b9,13,none⟩=some (.slice ga s.gr.length gc):=(by rw [<-Hvg.out];exact hB.cell 13);have fb2:w2.frozen? ⟨c.b9,13,none⟩=false:=hB.free 13;clear ho2 hg2 hB))
    exact hP _ _ _ ⟨rfl,rfl,rfl,rfl,rfl,rfl,rfl,rfl,rfl⟩ rfl (by simp [Act.eval]) (HS9.out.grNew ((Below.refl _ _).alloc (Nat.le_refl _) _) HO2.out HG2.out)
   ·rw [if_neg hp0] at hP
    go_wp2_with (go_at_call 53;go_loud (refine (HS.out.pick1 hc 2 (by show s.k<=_;omega) (by omega) (by omega)).mono ?_;rw [<-Hp.out];rintro r w9 ⟨rfl,hd⟩;have HS9:Hid (c.N w9 ⟨{ d.n with gr:=s.gr },s.k+1⟩ X):=hd;have c139:w9.cell? ⟨c.b9,13,none⟩=some (.slice ga s.gr.length gc):=(by rw [<-Hvg.out];exact HS9.out.blk.cell 13);have f139:w9.frozen? ⟨c.b9,13,none⟩=false:=HS9.out.blk.free 13;have HO9:Hid (Zg inC 1 3 w9 c.w0.heap.size (.slice ga s.gr.length gc) s.gr):=(by unfold Hid;rw [<-Hvg.out];exact HS9.out.grOwn);have hw9:c.w0.heap.size<=w9.heap.size:=HS9.out.wsize;clear hd))
    exact hP _ _ _ ⟨rfl,rfl,rfl,rfl,rfl,rfl,rfl,rfl,rfl⟩ rfl rfl HS9.out
  ·rw [if_neg hx] at hP
   go_wp2_with fail
   exact hP _ _ _ ⟨rfl,rfl,rfl,rfl,rfl,rfl,rfl,rfl,rfl⟩ rfl rfl HS.out
theorem dnG2 {R:Exit->Act->World->Prop}{e11:Value}(hc:c.Ok){m:Nat}(hm0:m<=899000000)(hb:DB d m)(hF:c.Fr a)(h12:a.eval (.tmp 12)=.int .i64 ((c.SZ:Int)+1))(hS:c.N w d X)(hP:∀ a',c.Fr a'->R (.exit 0) a' w):(Zy (Zf (Z1 2 (Zo (Z1 1 (Z2 17 (Z9 Tryz.f51))))))).wp Tryz.prog (Exit.then K R) a w:=by
 obtain ⟨t,rfl⟩:=hF.opened;have hsz:=hc.sz;have hel:=hc.el;have hid:=hc.id;have hnw:=hb.nw;have hkb:=hb.k;have hlg:=hb.lg;clear hF;have HS:Hid (c.N w d X):=hS;clear hS;have ht:t 12=.int .i64 ((c.SZ:Int)+1):=h12;rw [ht];clear ht h12;have HP:Hid (∀ a',c.Fr a'->R (.exit 0) a' w):=hP;clear hP
 conv=>arg 2;whnf
 go_wp2_with fail
 exact HP.out _ ⟨rfl,rfl,rfl,rfl,rfl,rfl,rfl,rfl,rfl⟩
end
end Go.Proofs.YtmmpoppgabadmaaGreat
