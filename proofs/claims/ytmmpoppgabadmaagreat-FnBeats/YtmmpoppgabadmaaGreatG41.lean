import Derived.Test.YtmmpoppgabadmaaGreatG39
import Derived.ArgAppend
import Derived.Test.YtmmpoppgabadmaaGreatG31
set_option linter.unusedVariables false
set_option linter.unusedSimpArgs false
set_option maxRecDepth 100000
set_option maxHeartbeats 16000000
namespace Go.Proofs.YtmmpoppgabadmaaGreat
open Go.RowKit Go.Maps
end Go.Proofs.YtmmpoppgabadmaaGreat
namespace Go.Proofs.YtmmpoppgabadmaaGreat
open Go.RowKit Go.Maps
end Go.Proofs.YtmmpoppgabadmaaGreat
namespace Go.Proofs.YtmmpoppgabadmaaGreat
open Go.RowKit Go.Maps
end Go.Proofs.YtmmpoppgabadmaaGreat
namespace Go.Proofs.YtmmpoppgabadmaaGreat
open Go.RowKit Go.Maps
theorem rise_pw (most:Int):∀(l:List Int) (last:Int),Yw most last l=true->l.Pairwise (· < ·)/\∀ y∈l,last<y/\y<=most
 | [],last,_=>⟨List.Pairwise.nil,fun y h=>by cases h⟩
 | x :: l,last,hr=>by
  simp only [Yw,Bool.and_eq_true,Zs] at hr;obtain ⟨h1,h2⟩:=rise_pw most l x hr.2;refine ⟨List.Pairwise.cons (fun y hy=>(h2 y hy).1) h1,fun y hy=>?_⟩;rcases List.mem_cons.1 hy with rfl | hy
  ·omega
  ·have:=h2 y hy;omega
theorem fit_pw (high:Int):∀(l:List Ent) (low:Int),Xf high low l=true->l.Pairwise (fun a c=>a.t<=c.t)/\∀ e∈l,low<=e.t/\e.t<=high
 | [],low,_=>⟨List.Pairwise.nil,fun y h=>by cases h⟩
 | x :: l,low,hr=>by
  simp only [Xf,Bool.and_eq_true,Zs] at hr;obtain ⟨h1,h2⟩:=fit_pw high l x.t hr.2;refine ⟨List.Pairwise.cons (fun y hy=>(h2 y hy).1) h1,fun y hy=>?_⟩;rcases List.mem_cons.1 hy with rfl | hy
  ·omega
  ·have:=h2 y hy;omega
theorem nodeN_log (n:Nd)(h:Yo n=0):LogR n/\n.log.length<=4096:=by
 unfold Yo Ys at h;split at h
 ·simp at h
 split at h
 ·simp at h
 split at h
 ·simp at h
 split at h
 ·simp at h
 rename_i h4;split at h
 ·simp at h
 rename_i h5;have k5:Xf n.tm 1 n.log=true:=by simpa using h5
 obtain ⟨h1,h2⟩:=fit_pw n.tm n.log 1 k5;exact ⟨⟨h1,fun e he=>(h2 e he).2⟩,by omega⟩
theorem nodeN_ci (n:Nd)(h:Yo n=0):CI n:=by
 obtain ⟨hb,t0,t1,ho,hgl,hcm,hg,hl⟩:=Jv n h
 have hgr:n.gr.Pairwise (· < ·)/\∀ y∈n.gr,1<=y/\y<=n.sz:=by
  unfold Yp at hg;split at hg
  ·have:n.gr = []:=List.length_eq_zero_iff.1 (by have h9:(n.gr.length:Int)=0:=(by simpa using hg);omega)
   rw [this];exact ⟨List.Pairwise.nil,fun y h=>by cases h⟩
  ·simp only [Bool.and_eq_true] at hg
   obtain ⟨h1,h2⟩:=rise_pw n.sz n.gr 0 hg.1;exact ⟨h1,fun y hy=>by have:=h2 y hy;omega⟩
 have hz:=hb.sz0;have hz1:=hb.sz1;have hi0:=hb.id0;have hi1:=hb.id1;refine ⟨hz,hz1,ho,hi0,hi1,hgr.1,hgr.2,fun hro=>?_,fun hro=>?_⟩
 ·unfold Yr at hl
  rw [if_pos hro,Bool.and_eq_true,Xj] at hl;obtain ⟨⟨e1,e2,e3,e4⟩,hp⟩:=hl;have h9:=progs_at hp (n.id-1).toNat (by omega);unfold Yc at h9;rw [if_pos (by omega)] at h9;simp only [Bool.and_eq_true,beq_iff_eq] at h9;exact ⟨⟨by omega,by omega,by omega,by omega⟩,h9.1,h9.2.1,h9.2.2.1,h9.2.2.2⟩
 ·unfold Yr at hl
  rw [if_neg hro,Bool.and_eq_true,Xj] at hl;obtain ⟨⟨e1,e2,e3,e4⟩,hp⟩:=hl;exact ⟨List.length_eq_zero_iff.1 (by omega),List.length_eq_zero_iff.1 (by omega),List.length_eq_zero_iff.1 (by omega),List.length_eq_zero_iff.1 (by omega)⟩
end Go.Proofs.YtmmpoppgabadmaaGreat
namespace Go.Proofs.YtmmpoppgabadmaaGreat
open Go.RowKit
theorem Z02 {n:Nd}(h1:Y0 n.id n.sz n.el n.bt=true)(h2:Yu n.sz n.tm n.vo=true)(h3:Y8 n.id n.sz n.tm n.vo n.ro n.ld=true)(h4:n.log.length<=4096)(h5:Xf n.tm 1 n.log=true)(h6:inB n.cm 0 n.log.length=true)(h7:Y7 n.el n.nw n.dl n.hd=true)(h8:Yp n.ro n.sz n.id n.gr=true)(h9:Yr n.ro n.sz n.id n.log.length n.nw n.nx n.mt n.se n.st=true):Yo n=0:=by
 have h4':¬(4096:Int)<n.log.length:=by omega
 unfold Yo Ys;simp only [h1,h2,h3,h5,h6,h7,h8,h9,h4',Bool.true_eq_false,if_false]
theorem fitL_of (H:Int):∀(L:List Ent) (low:Int),L.Pairwise (fun a c=>a.t<=c.t)->(∀ e∈L,entB e=true/\low<=e.t/\e.t<=H)->Xf H low L=true
 | [],_,_,_=>rfl
 | x :: L,low,hp,ha=>by
  have hx:=ha x (by simp);obtain ⟨p1,p2⟩:=List.pairwise_cons.1 hp;have:=fitL_of H L x.t p2 (fun e he=>⟨(ha e (by simp [he])).1,p1 e he,(ha e (by simp [he])).2.2⟩);simp only [Xf,Bool.and_eq_true,Zs];exact ⟨⟨hx.1,hx.2⟩,this⟩
theorem entE_ok (l:List Int)(k:Nat)(t:Int)(h0:1<=t)(h1:t<=1073741824):entB (entE l k t)=true/\(entE l k t).t=entT l k t:=by
 have ht:=entT_le l k t (by omega) h1;have hc:=cmd_facts l (k+1+1);have hi:inB (entT l k t) 1 1073741824=true:=by rw [Zs];omega
 unfold entE;split
 ·refine ⟨?_,rfl⟩
  unfold entB;simp only [hi,Bool.true_and];rfl
 ·refine ⟨?_,rfl⟩
  obtain ⟨c1,c2,s1,s2,o1,o2,k1,k2,v1,l1,v2,l2⟩:=hc;unfold entB;simp only [hi,Bool.true_and,beq_iff_eq];unfold cmdF;rw [if_neg (by omega),if_neg (by omega),if_neg (by omega),if_neg (by omega),if_neg (by omega),if_neg ?_,if_neg ?_]
  ·split <;> omega
  ·split <;> omega
theorem entT_lt (l:List Int)(k:Nat)(t:Int):entT l k t<=t+1:=by unfold entT;split <;> omega
theorem entsD_all (l:List Int)(k:Nat)(t:Int)(h0:1<=t)(n:Nat)(h1:t+n<=1073741824):(Yb l k t n).1.Pairwise (fun a c=>a.t<=c.t)/\(∀ e∈(Yb l k t n).1,entB e=true/\t<=e.t/\e.t<=(Yb l k t n).2.2)/\t<=(Yb l k t n).2.2/\(Yb l k t n).2.2<=t+n:=by
 induction n with
 | zero=>exact ⟨List.Pairwise.nil,(fun e h=>by simp [Yb] at h),Int.le_refl _,by simp [Yb]⟩
 | succ n ih=>
  obtain ⟨i1,i2,i3,i4⟩:=ih (by omega);rw [Yb];dsimp only;have hE:=entE_ok l (Yb l k t n).2.1 (Yb l k t n).2.2 (by omega) (by omega);have hT:=entT_le l (Yb l k t n).2.1 (Yb l k t n).2.2 (by omega) (by omega);have hT2:=entT_lt l (Yb l k t n).2.1 (Yb l k t n).2.2;refine ⟨?_,?_,by omega,by push_cast;omega⟩
  ·rw [List.pairwise_append]
   refine ⟨i1,List.pairwise_singleton _ _,fun a ha b hb=>?_⟩;simp only [List.mem_singleton] at hb;subst hb;rw [hE.2];have:=(i2 a ha).2.2;omega
  ·intro e he
   rcases List.mem_append.1 he with he | he
   ·have:=i2 e he
    exact ⟨this.1,this.2.1,by omega⟩
   ·simp only [List.mem_singleton] at he
    subst he;rw [hE.2];exact ⟨hE.1,by omega,Int.le_refl _⟩
theorem stD_wf (l:List Int)(k n:Nat)(hn:n<=200):0<=(stD l k n).1/\(stD l k n).1<=1073741824/\0<=(stD l k n).2.1/\(stD l k n).2.1<=7/\((stD l k n).1=0->(stD l k n).2.1=0)/\(stD l k n).2.2.1.length<=n/\Xf (stD l k n).1 1 (stD l k n).2.2.1=true:=by
 unfold stD;split
 ·exact ⟨Int.le_refl _,(by omega:(0:Int)<=1073741824),Int.le_refl _,(by omega:(0:Int)<=7),fun _=>rfl,Nat.zero_le _,rfl⟩
 ·have h1:=Zi l (k+1) (n+1) (by omega)
  have h2:=Zi l (k+1+1) 3 (by omega);have h3:=Zi l ((stE l k n).2.1+1+1) 8 (by omega);have h4:=Zi l (stE l k n).2.1 3 (by omega);have hE:=entsD_all l (k+1+1+1) (1+((Z4 l (k+1+1) 3:Nat):Int)) (by omega) (Z4 l (k+1) (n+1)) (by omega);have hlen:(stE l k n).1.length=Z4 l (k+1) (n+1):=Z0d _ _ _ _;obtain ⟨e1,e2,e3,e4⟩:=hE
  change (stE l k n).1.Pairwise _ at e1
  change ∀ e∈(stE l k n).1,_/\_/\e.t<=(stE l k n).2.2 at e2
  change _<=(stE l k n).2.2 at e3
  change (stE l k n).2.2<=_ at e4
  have hlo:1<=lowV (stE l k n).1 (stE l k n).1.length/\lowV (stE l k n).1 (stE l k n).1.length<=300/\∀ e∈(stE l k n).1,e.t<=lowV (stE l k n).1 (stE l k n).1.length:=by
   generalize (stE l k n).1=L at *;generalize (stE l k n).2.2=TT at *;rcases List.eq_nil_or_concat L with rfl | ⟨L',x,hLx⟩
   ·exact ⟨(by decide),by simp [lowV],fun e h=>by cases h⟩
   ·rw [List.concat_eq_append] at hLx
    subst hLx;have hx:=e2 x (by simp);have hv:lowV (L' ++ [x]) (L' ++ [x]).length=x.t:=by unfold lowV;simp
    rw [hv];refine ⟨by omega,by omega,fun e he=>?_⟩;rcases List.mem_append.1 he with he | he
    ·exact (List.pairwise_append.1 e1).2.2 e he x (by simp)
    ·simp only [List.mem_singleton] at he
     subst he;exact Int.le_refl _
  have hT:lowV (stE l k n).1 (stE l k n).1.length<=stT l k n/\stT l k n<=1073741824:=by
   unfold stT;split <;> omega
  refine ⟨by show 0<=stT l k n;omega,hT.2,by show (0:Int)<=(Z4 _ _ 8:Nat);omega,by show ((Z4 _ _ 8:Nat):Int)<=7;omega,fun h=>?_,by show (stE l k n).1.length<=n;omega,?_⟩
  ·have h':stT l k n=0:=h
   omega
  ·show Xf (stT l k n) 1 (stE l k n).1=true
   refine fitL_of _ _ _ e1 fun e he=>⟨(e2 e he).1,?_,?_⟩
   ·have:=(e2 e he).2.1;omega
   ·have:=hlo.2.2 e he;omega
structure NdW (n:Nd) (T V:Int):Prop where
 pl:Y0 n.id n.sz n.el n.bt=true
 tm:n.tm=T
 vo:n.vo=V
 vt:Yu n.sz n.tm n.vo=true
 lg:n.log.length<=4096
 ft:Xf n.tm 1 n.log=true
 cm:inB n.cm 0 n.log.length=true
 ck:Y7 n.el n.nw n.dl n.hd=true
 ro:n.ro=0
 ld:n.ld=0
 gr:n.gr = []
 nx:n.nx = []
 mt:n.mt = []
 se:n.se = []
 st:n.st = []
theorem toutW (el dr:Int)(h1:1<=el)(h2:el<=1000):0<=Xg el dr/\Xg el dr<=2*el:=by
 rw [toutC_in dr (by rw [Zs];omega)];unfold modI;have h3:=Int.emod_nonneg dr (b:=el) (by omega);have h4:=Int.emod_lt_of_pos dr (b:=el) (by omega);omega
theorem dn0_w (l:List Int)(k n:Nat)(hn:n<=200):NdW (dn0 l k n).n (stD l k n).1 ((stD l k n).2.1%((dnH l (stD l k n).2.2.2).sz+1))/\(dn0 l k n).n.nw=0/\(dn0 l k n).n.id=(dnH l (stD l k n).2.2.2).id/\(dn0 l k n).n.sz=(dnH l (stD l k n).2.2.2).sz/\(dn0 l k n).n.el=(dnH l (stD l k n).2.2.2).el/\(dn0 l k n).n.log.length<=n:=by
 obtain ⟨t0,t1,v0,v1,vt,ln,ft⟩:=stD_wf l k n hn;obtain ⟨z1,z2,e1,e2,i1,i2⟩:=dnH_le l (stD l k n).2.2.2
 have hz:(dnH l (stD l k n).2.2.2).sz=3∨(dnH l (stD l k n).2.2.2).sz=5∨(dnH l (stD l k n).2.2.2).sz=7:=by
  have h1:=Zi l (stD l k n).2.2.2 3 (by omega);unfold dnH;dsimp only;split <;> omega
 have hb:=Zi l (dnH l (stD l k n).2.2.2).k (dnH l (stD l k n).2.2.2).el (by omega);have m0:=Int.emod_nonneg (stD l k n).2.1 (b:=((dnH l (stD l k n).2.2.2).sz:Int)+1) (by omega);have m1:=Int.emod_lt_of_pos (stD l k n).2.1 (b:=((dnH l (stD l k n).2.2.2).sz:Int)+1) (by omega);have mz:(stD l k n).1=0->(stD l k n).2.1%(((dnH l (stD l k n).2.2.2).sz:Int)+1)=0:=fun h=>by rw [vt h];exact Int.zero_emod _
 have hp:Y0 (dnH l (stD l k n).2.2.2).id (dnH l (stD l k n).2.2.2).sz (dnH l (stD l k n).2.2.2).el (1+(Z4 l (dnH l (stD l k n).2.2.2).k (dnH l (stD l k n).2.2.2).el:Nat))=true:=by
  simp only [Y0,Bool.and_eq_true,Zs];refine ⟨?_,by omega,by omega,by omega,by omega⟩;rcases hz with h | h | h <;> (rw [h];rfl)
 have hq:=toutW ((dnH l (stD l k n).2.2.2).el:Int) (Yk l ((dnH l (stD l k n).2.2.2).k+Zn (dnH l (stD l k n).2.2.2).el)) (by omega) (by omega)
 have hvb:Yu ((dnH l (stD l k n).2.2.2).sz:Int) (stD l k n).1 ((stD l k n).2.1%(((dnH l (stD l k n).2.2.2).sz:Int)+1))=true:=by
  simp only [Yu,Bool.and_eq_true,Bool.or_eq_true,Zs,beq_iff_eq,decide_eq_true_eq];refine ⟨⟨t0,t1⟩,⟨m0,by omega⟩,?_⟩;rcases Int.lt_or_eq_of_le t0 with h | h
  ·exact .inr h
  ·exact .inl (mz h.symm)
 have hnew:newB (dnH l (stD l k n).2.2.2).id (dnH l (stD l k n).2.2.2).sz (dnH l (stD l k n).2.2.2).el (1+(Z4 l (dnH l (stD l k n).2.2.2).k (dnH l (stD l k n).2.2.2).el:Nat)) (stD l k n).1 ((stD l k n).2.1%(((dnH l (stD l k n).2.2.2).sz:Int)+1)) (stD l k n).2.2.1=true:=by
  unfold newB stB;simp only [hp,ft,Bool.true_and,Bool.and_true,Bool.and_eq_true,decide_eq_true_eq];refine ⟨⟨?_,by omega⟩,by omega⟩;simp only [Z1h,Bool.and_eq_true,Bool.or_eq_true,Zs,beq_iff_eq,decide_eq_true_eq];refine ⟨⟨t0,t1⟩,⟨m0,by omega⟩,?_⟩;rcases Int.lt_or_eq_of_le t0 with h | h
  ·exact .inl h
  ·exact .inr (mz h.symm)
 have hd:(dn0 l k n).n=⟨(dnH l (stD l k n).2.2.2).id,(dnH l (stD l k n).2.2.2).sz,(dnH l (stD l k n).2.2.2).el,1+(Z4 l (dnH l (stD l k n).2.2.2).k (dnH l (stD l k n).2.2.2).el:Nat),(stD l k n).1,(stD l k n).2.1%(((dnH l (stD l k n).2.2.2).sz:Int)+1),0,0,0,0,Xg (dnH l (stD l k n).2.2.2).el (Yk l ((dnH l (stD l k n).2.2.2).k+Zn (dnH l (stD l k n).2.2.2).el)),0,(stD l k n).2.2.1,[],[],[],[],[]⟩:=by
  show newN _ _ _ _ _ _ _ _=_;unfold newN;rw [if_pos hnew]
 rw [hd];refine ⟨⟨hp,rfl,rfl,hvb,by show (stD l k n).2.2.1.length<=4096;omega,ft,by rw [Zs];dsimp only;omega,?_,rfl,rfl,rfl,rfl,rfl,rfl,rfl⟩,rfl,rfl,rfl,rfl,ln⟩;simp only [Y7,Bool.and_eq_true,Zs];omega
theorem dnNow_w {d:DnS}{T V:Int}(l:List Int)(h:NdW d.n T V)(h0:d.n.nw=0):NdW (J8 l d).n T V/\0<=(J8 l d).n.nw/\(J8 l d).n.id=d.n.id/\(J8 l d).n.sz=d.n.sz/\(J8 l d).n.el=d.n.el/\(J8 l d).n.log=d.n.log:=by
 have h1:=Zi l (d.k+1+1) 2 (by omega);have h2:=Zi l d.k 40 (by omega);have hc:=h.ck;simp only [Y7,Bool.and_eq_true,Zs] at hc;unfold J8;split
 ·refine ⟨⟨h.pl,h.tm,h.vo,h.vt,h.lg,h.ft,h.cm,?_,h.ro,h.ld,h.gr,h.nx,h.mt,h.se,h.st⟩,?_,rfl,rfl,rfl,rfl⟩
  ·simp only [Y7,Bool.and_eq_true,Zs];omega
  ·dsimp only;omega
 ·refine ⟨⟨h.pl,h.tm,h.vo,h.vt,h.lg,h.ft,h.cm,?_,h.ro,h.ld,h.gr,h.nx,h.mt,h.se,h.st⟩,?_,rfl,rfl,rfl,rfl⟩
  ·simp only [Y7,Bool.and_eq_true,Zs];omega
  ·dsimp only;omega
theorem dnDl_w {d:DnS}{T V:Int}(l:List Int)(el:Nat)(h:NdW d.n T V)(he:d.n.el=el)(he2:2<=el):NdW (Ja l el d).n T V/\(Ja l el d).n.nw=d.n.nw/\(Ja l el d).n.id=d.n.id/\(Ja l el d).n.sz=d.n.sz/\(Ja l el d).n.el=d.n.el/\(Ja l el d).n.log=d.n.log:=by
 have h1:=Zi l (d.k+Zn (2*el+1)+1) 2 (by omega);have h2:=Zi l d.k (2*el+1) (by omega);have hc:=h.ck;simp only [Y7,Bool.and_eq_true,Zs] at hc;unfold Ja;dsimp only;split
 ·refine ⟨⟨h.pl,h.tm,h.vo,h.vt,h.lg,h.ft,h.cm,?_,h.ro,h.ld,h.gr,h.nx,h.mt,h.se,h.st⟩,rfl,rfl,rfl,rfl,rfl⟩
  simp only [Y7,Bool.and_eq_true,Zs];omega
 ·refine ⟨⟨h.pl,h.tm,h.vo,h.vt,h.lg,h.ft,h.cm,?_,h.ro,h.ld,h.gr,h.nx,h.mt,h.se,h.st⟩,rfl,rfl,rfl,rfl,rfl⟩
  simp only [Y7,Bool.and_eq_true,Zs];omega
theorem dnHd_w {d:DnS}{T V:Int}(l:List Int)(el:Nat)(h:NdW d.n T V):NdW (Jo l el d).n T V/\(Jo l el d).n.nw=d.n.nw/\(Jo l el d).n.id=d.n.id/\(Jo l el d).n.sz=d.n.sz/\(Jo l el d).n.el=d.n.el/\(Jo l el d).n.log=d.n.log:=by
 have h2:=Zi l d.k (min d.n.nw.toNat (2*el)+1) (by omega);have hc:=h.ck;simp only [Y7,Bool.and_eq_true,Zs] at hc;unfold Jo;refine ⟨⟨h.pl,h.tm,h.vo,h.vt,h.lg,h.ft,h.cm,?_,h.ro,h.ld,h.gr,h.nx,h.mt,h.se,h.st⟩,rfl,rfl,rfl,rfl,rfl⟩;simp only [Y7,Bool.and_eq_true,Zs];omega
theorem dnCm_w {d:DnS}{T V:Int}(l:List Int)(h:NdW d.n T V):NdW (Z07 l d).n T V/\(Z07 l d).n.nw=d.n.nw/\(Z07 l d).n.id=d.n.id/\(Z07 l d).n.sz=d.n.sz/\(Z07 l d).n.el=d.n.el/\(Z07 l d).n.log=d.n.log:=by
 have h2:=Zi l d.k (d.n.log.length+1) (by omega);unfold Z07;refine ⟨⟨h.pl,h.tm,h.vo,h.vt,h.lg,h.ft,?_,h.ck,h.ro,h.ld,h.gr,h.nx,h.mt,h.se,h.st⟩,rfl,rfl,rfl,rfl,rfl⟩;rw [Zs];dsimp only;omega
def Jd (l:List Int)(k n:Nat):DnS:=Z07 l (Jo l (dnH l (stD l k n).2.2.2).el (Ja l (dnH l (stD l k n).2.2.2).el (J8 l (dn0 l k n))))
theorem dnPre_w (l:List Int)(k n:Nat)(hn:n<=200):NdW (Jd l k n).n (stD l k n).1 ((stD l k n).2.1%((dnH l (stD l k n).2.2.2).sz+1))/\0<=(Jd l k n).n.nw/\(Jd l k n).n.id=(dnH l (stD l k n).2.2.2).id/\(Jd l k n).n.sz=(dnH l (stD l k n).2.2.2).sz/\(Jd l k n).n.el=(dnH l (stD l k n).2.2.2).el/\(Jd l k n).n.log.length<=n:=by
 obtain ⟨a1,a2,a3,a4,a5,a6⟩:=dn0_w l k n hn;obtain ⟨b1,b2,b3,b4,b5,b6⟩:=dnNow_w l a1 a2;obtain ⟨z1,z2,e1,e2,i1,i2⟩:=dnH_le l (stD l k n).2.2.2;obtain ⟨c1,c2,c3,c4,c5,c6⟩:=dnDl_w l (dnH l (stD l k n).2.2.2).el b1 (b5.trans a5) e1;obtain ⟨d1,d2,d3,d4,d5,d6⟩:=dnHd_w l (dnH l (stD l k n).2.2.2).el c1;obtain ⟨f1,f2,f3,f4,f5,f6⟩:=dnCm_w l d1;refine ⟨f1,?_,?_,?_,?_,?_⟩
 ·unfold Jd;rw [f2,d2,c2];exact b2
 ·unfold Jd;rw [f3,d3,c3,b3];exact a3
 ·unfold Jd;rw [f4,d4,c4,b4];exact a4
 ·unfold Jd;rw [f5,d5,c5,b5];exact a5
 ·unfold Jd;rw [f6,d6,c6,b6];exact a6
theorem rise_of (most:Int):∀(l:List Int) (last:Int),l.Pairwise (· < ·)->(∀ y∈l,last<y/\y<=most)->Yw most last l=true
 | [],_,_,_=>rfl
 | x :: l,last,hp,ha=>by
  obtain ⟨p1,p2⟩:=List.pairwise_cons.1 hp;have hx:=ha x (by simp);simp only [Yw,Bool.and_eq_true,Zs];exact ⟨by omega,rise_of most l x p2 fun y hy=>⟨p1 y hy,(ha y (by simp [hy])).2⟩⟩
theorem dnGrK_ok (l:List Int)(id ex k:Nat)(hi:1<=id):∀ j,(Xt l id ⟨[],ex,k⟩ j).gr.Pairwise (· < ·)/\(∀ y∈(Xt l id ⟨[],ex,k⟩ j).gr,0<y/\y<=(j:Int))/\(id<=j->(id:Int)∈(Xt l id ⟨[],ex,k⟩ j).gr)/\(Xt l id ⟨[],ex,k⟩ j).gr.length+(Xt l id ⟨[],ex,k⟩ j).ex<=ex+(if id<=j then 1 else 0)
 | 0=>⟨List.Pairwise.nil,(fun y h=>by simp [Xt] at h),fun h=>by omega,by simp [Xt]⟩
 | j+1=>by
  obtain ⟨i1,i2,i3,i4⟩:=dnGrK_ok l id ex k hi j;rw [Xt];generalize Xt l id ⟨[],ex,k⟩ j=r at *
  have hsn:(r.gr ++ [(j:Int)+1]).Pairwise (· < ·):=by
   rw [List.pairwise_append];refine ⟨i1,List.pairwise_singleton _ _,fun a ha b hb=>?_⟩;simp only [List.mem_singleton] at hb;have:=i2 a ha;omega
  have hsm:∀ y∈r.gr ++ [(j:Int)+1],0<y/\y<=((j+1:Nat):Int):=fun y hy=>by
   rcases List.mem_append.1 hy with hy | hy
   ·have:=i2 y hy;push_cast;omega
   ·simp only [List.mem_singleton] at hy;push_cast;omega
  have hso:∀ y∈r.gr,0<y/\y<=((j+1:Nat):Int):=fun y hy=>by have:=i2 y hy;push_cast;omega
  split
  ·rename_i hj
   rw [if_neg (by omega)] at i4;refine ⟨hsn,hsm,fun _=>by simp;right;omega,?_⟩;rw [if_pos (by omega)];simp;omega
  ·rename_i hj
   have hiff:(if id<=j+1 then 1 else 0)=(if id<=j then 1 else 0):=by split <;> split <;> omega
   split
   ·rename_i hx
    split
    ·refine ⟨hsn,hsm,fun h=>List.mem_append_left _ (i3 (by omega)),?_⟩
     rw [hiff];simp;omega
    ·exact ⟨i1,hso,fun h=>i3 (by omega),by rw [hiff];exact i4⟩
   ·exact ⟨i1,hso,fun h=>i3 (by omega),by rw [hiff];exact i4⟩
theorem Z11 (a:List Int)(x:Int)(j i:Nat)(h:a.length=j):(a ++ [x]).getD i 0=if i<j then a.getD i 0 else if i=j then x else 0:=by
 subst h;simp only [List.getD_eq_getElem?_getD];split
 ·rename_i hi;rw [List.getElem?_append_left hi]
 ·rename_i hi
  rw [List.getElem?_append_right (by omega)];split
  ·rename_i he;subst he;simp
  ·rename_i he
   rw [List.getElem?_eq_none (by simp;omega)];rfl
theorem prog_snoc (id ln nw:Int)(a b c d:List Int)(x y z u:Int)(j:Nat)(ha:a.length=j)(hb:b.length=j)(hc:c.length=j)(hd:d.length=j)(h:∀ i,i<j->Yc ((i:Int)+1) id ln nw (a.getD i 0) (b.getD i 0) (c.getD i 0) (d.getD i 0)=true)(hj:Yc ((j:Int)+1) id ln nw x y z u=true):∀ i,i<j+1->Yc ((i:Int)+1) id ln nw ((a ++ [x]).getD i 0) ((b ++ [y]).getD i 0) ((c ++ [z]).getD i 0) ((d ++ [u]).getD i 0)=true:=fun i hi=>by
 rw [Z11 a x j i ha,Z11 b y j i hb,Z11 c z j i hc,Z11 d u j i hd];by_cases hlt:i<j
 ·simp only [hlt,if_true];exact h i hlt
 ·have he:i=j:=by omega
  subst he;simp only [Nat.lt_irrefl,if_true,if_false];exact hj
theorem dnRow_ok (l:List Int)(h:DnH)(LN:Nat)(nw:Int)(k:Nat)(hnw:0<=nw):∀ j,(Xh l h LN nw ⟨[],[],[],[],k⟩ j).nx.length=j/\(Xh l h LN nw ⟨[],[],[],[],k⟩ j).mt.length=j/\(Xh l h LN nw ⟨[],[],[],[],k⟩ j).se.length=j/\(Xh l h LN nw ⟨[],[],[],[],k⟩ j).st.length=j/\∀ i,i<j->Yc ((i:Int)+1) h.id LN nw ((Xh l h LN nw ⟨[],[],[],[],k⟩ j).nx.getD i 0) ((Xh l h LN nw ⟨[],[],[],[],k⟩ j).mt.getD i 0) ((Xh l h LN nw ⟨[],[],[],[],k⟩ j).se.getD i 0) ((Xh l h LN nw ⟨[],[],[],[],k⟩ j).st.getD i 0)=true
 | 0=>⟨rfl,rfl,rfl,rfl,fun i h=>by omega⟩
 | j+1=>by
  obtain ⟨i1,i2,i3,i4,i5⟩:=dnRow_ok l h LN nw k hnw j;rw [Xh];dsimp only;generalize Xh l h LN nw ⟨[],[],[],[],k⟩ j=r at *;split
  ·rename_i hj
   refine ⟨by simp [i1],by simp [i2],by simp [i3],by simp [i4],?_⟩;refine prog_snoc _ _ _ _ _ _ _ _ _ _ _ _ i1 i2 i3 i4 i5 ?_;unfold Yc;rw [if_pos (by omega)];rfl
  ·rename_i hj
   refine ⟨by simp [i1],by simp [i2],by simp [i3],by simp [i4],?_⟩;refine prog_snoc _ _ _ _ _ _ _ _ _ _ _ _ i1 i2 i3 i4 i5 ?_;have p1:=Zi l r.k (min LN 6+1) (by omega);generalize hp1:Z4 l r.k (min LN 6+1)=P1 at *;have p2:=Zi l (r.k+1) (LN+1-P1) (by omega);have p3:=Zi l (r.k+1+Zn (LN+1-P1)+1) (min nw.toNat (h.el+2)+1) (by omega);have p4:=Zi l (r.k+1+Zn (LN+1-P1)+1+Zn (min nw.toNat (h.el+2)+1)) (min nw.toNat (h.el+2)+1) (by omega);unfold Yc;rw [if_neg (by omega)];simp only [Bool.and_eq_true,Zs];refine ⟨by omega,⟨?_,?_⟩,by omega,by omega⟩
   ·split <;> omega
   ·split <;> omega
theorem dnOwn_fit (T:Int)(L:List Ent)(o:Nat)(h1:1<=T)(h2:T<=1073741824)(hf:Xf T 1 L=true):Xf T 1 (Yy T L o)=true/\(Yy T L o).length=L.length:=by
 obtain ⟨f1,f2⟩:=fit_pw T L 1 hf
 have f3:∀(L:List Ent) (low:Int),Xf T low L=true->∀ e∈L,entB e=true:=fun L=>by
  induction L with
  | nil=>intro low _ e he;cases he
  | cons x L ih=>
   intro low h e he;simp only [Xf,Bool.and_eq_true] at h;rcases List.mem_cons.1 he with rfl | he
   ·exact h.1.1
   ·exact ih _ h.2 e he
 have f4:=f3 L 1 hf;unfold Yy;refine ⟨fitL_of _ _ _ ?_ ?_,?_⟩
 ·rw [List.pairwise_append]
  refine ⟨f1.sublist (List.take_sublist _ _),?_,?_⟩
  ·rw [List.pairwise_map]
   exact List.pairwise_of_forall (fun a b=>Int.le_refl _)
  ·intro a ha b hb
   obtain ⟨c,_,rfl⟩:=List.mem_map.1 hb;exact (f2 a (List.mem_of_mem_take ha)).2
 ·intro e he
  rcases List.mem_append.1 he with he | he
  ·exact ⟨f4 e (List.mem_of_mem_take he),f2 e (List.mem_of_mem_take he)⟩
  ·obtain ⟨c,hc,rfl⟩:=List.mem_map.1 he
   have:=f4 c (List.mem_of_mem_drop hc);refine ⟨?_,h1,Int.le_refl _⟩;unfold entB at this ⊢;simp only [Bool.and_eq_true,Zs] at this ⊢;exact ⟨⟨h1,h2⟩,this.2⟩
 ·simp <;> omega
theorem dnD_ok (l:List Int)(k n:Nat)(hn:n<=200):Yo (dnD l k n).n=0:=by
 obtain ⟨hw,hnw,hid,hsz,hel,hln⟩:=dnPre_w l k n hn;obtain ⟨z1,z2,e1,e2,i1,i2⟩:=dnH_le l (stD l k n).2.2.2;obtain ⟨t0,t1,_⟩:=stD_wf l k n hn;rw [show dnD l k n=Z0a l (dnH l (stD l k n).2.2.2) (J1 l (dnH l (stD l k n).2.2.2) (Jn l (dnH l (stD l k n).2.2.2) (stD l k n).1 (Jd l k n))) from rfl];generalize dnH l (stD l k n).2.2.2=H at *;generalize (stD l k n).1=T at *;generalize hV:(stD l k n).2.1%((H.sz:Int)+1)=V at *;generalize Jd l k n=d at *;clear hV;have hg0:Yp 0 d.n.sz d.n.id []=true:=rfl;have hl0:∀ ro:Int,ro≠3->∀(ln:Int),Yr ro d.n.sz d.n.id ln d.n.nw [] [] [] []=true:=fun ro h ln=>by unfold Yr;rw [if_neg h];rfl
 have hro0:∀ x:Int,0<=x->x<=d.n.sz->x≠d.n.id->Y8 d.n.id d.n.sz d.n.tm d.n.vo 0 x=true:=fun x h1 h2 h3=>by
  unfold Y8;simp [inB,h1,h2,h3]
 have hgr:∀ e:Nat,e<H.sz / 2->∀ k ro:Int,True:=fun _ _ _ _=>trivial
 have hpk:=hw.pl;simp only [Y0,Bool.and_eq_true,Zs] at hpk
 have hG:∀(ro:Int) (kk:Nat),ro=1∨ro=2->Yp ro d.n.sz d.n.id (Xt l H.id ⟨[],Z4 l kk (H.sz / 2),kk+1⟩ H.sz).gr=true:=fun ro kk hr=>by
  have hp:=Zi l kk (H.sz / 2) (by omega);obtain ⟨g1,g2,g3,g4⟩:=dnGrK_ok l H.id (Z4 l kk (H.sz / 2)) (kk+1) i1 H.sz;rw [if_pos i2] at g4;unfold Yp;rw [if_neg (by omega)];simp only [Bool.and_eq_true,Bool.not_eq_true'];refine ⟨rise_of _ _ _ g1 fun y hy=>by have:=g2 y hy;omega,?_,?_⟩
  ·unfold hasB;rw [List.contains_iff_mem,hid];exact g3 i2
  ·unfold majB;rw [decide_eq_false_iff_not];omega
 unfold Jn;dsimp only;by_cases q0:Z4 l d.k 8=0
 ·rw [if_pos q0]
  have m0:=Int.emod_nonneg ((H.id:Int)+(Z4 l (d.k+1) (H.sz-1):Nat)) (b:=(H.sz:Int)) (by omega);have m1:=Int.emod_lt_of_pos ((H.id:Int)+(Z4 l (d.k+1) (H.sz-1):Nat)) (b:=(H.sz:Int)) (by omega);obtain ⟨x,hx⟩:∃ x,x=1+((H.id:Int)+(Z4 l (d.k+1) (H.sz-1):Nat))%(H.sz:Int):=⟨_,rfl⟩;rw [<-hx];unfold J1;dsimp only;rw [if_neg (by rw [hw.ro];omega)];unfold Z0a;dsimp only;rw [if_neg (by rw [hw.ro];omega)];refine Z02 hw.pl hw.vt ?_ hw.lg hw.ft hw.cm hw.ck ?_ ?_
  ·dsimp only
   rw [hw.ro];split
   ·exact hro0 0 (Int.le_refl _) (by omega) (by omega)
   ·exact hro0 x (by omega) (by omega) (by omega)
  ·dsimp only;rw [hw.ro,hw.gr];rfl
  ·dsimp only;rw [hw.ro,hw.nx,hw.mt,hw.se,hw.st];exact hl0 0 (by omega) _
 ·rw [if_neg q0]
  by_cases q3:Z4 l d.k 8<3
  ·rw [if_pos q3]
   unfold J1;dsimp only;rw [if_pos (Or.inl rfl),hw.gr];unfold Z0a;dsimp only;rw [if_neg (by omega)];refine Z02 hw.pl hw.vt ?_ hw.lg hw.ft hw.cm hw.ck (hG 1 _ (Or.inl rfl)) ?_
   ·dsimp only;rw [hw.ld];unfold Y8;simp [inB];omega
   ·dsimp only;rw [hw.nx,hw.mt,hw.se,hw.st];exact hl0 1 (by omega) _
  ·rw [if_neg q3]
   by_cases hT:0<T
   ·have hT':0<d.n.tm:=by rw [hw.tm];exact hT
    have hvt:Yu d.n.sz d.n.tm (H.id:Int)=true:=by
     have:=hw.vt;unfold Yu at this ⊢;simp only [Bool.and_eq_true,Bool.or_eq_true,Zs,decide_eq_true_eq] at this ⊢;exact ⟨this.1,by omega,Or.inr hT'⟩
    by_cases q5:Z4 l d.k 8<5
    ·rw [if_pos ⟨q5,hT⟩]
     unfold J1;dsimp only;rw [if_pos (Or.inr rfl),hw.gr];unfold Z0a;dsimp only;rw [if_neg (by omega)];refine Z02 hw.pl hvt ?_ hw.lg hw.ft hw.cm hw.ck (hG 2 _ (Or.inr rfl)) ?_
     ·dsimp only;rw [hw.ld];unfold Y8;simp [inB,hT',hid];omega
     ·dsimp only;rw [hw.nx,hw.mt,hw.se,hw.st];exact hl0 2 (by omega) _
    ·rw [if_neg (fun h=>q5 h.1),if_pos ⟨by omega,hT⟩]
     unfold J1;dsimp only;rw [if_neg (by omega)];unfold Z0a;dsimp only;rw [if_pos rfl,hw.nx,hw.mt,hw.se,hw.st];obtain ⟨f1,f2⟩:=dnOwn_fit d.n.tm d.n.log (Z4 l (d.k+1) 4) (by omega) (by rw [hw.tm];exact t1) hw.ft;have hcm:=hw.cm;rw [Zs] at hcm;obtain ⟨r1,r2,r3,r4,r5⟩:=dnRow_ok l H (Yy d.n.tm d.n.log (Z4 l (d.k+1) 4)).length d.n.nw (d.k+1+1+1) hnw H.sz;refine Z02 hw.pl hvt ?_ (by dsimp only;rw [f2];exact hw.lg) f1 ?_ hw.ck ?_ ?_
     ·dsimp only;unfold Y8;simp [inB,hT',hid];omega
     ·dsimp only;rw [Zs,f2];split <;> omega
     ·dsimp only;rw [hw.gr];rfl
     ·dsimp only
      unfold Yr;rw [if_pos rfl,Bool.and_eq_true,Xj];refine ⟨⟨by omega,by omega,by omega,by omega⟩,?_⟩;unfold Yq;rw [List.all_eq_true];intro i hi;rw [List.mem_range'_1] at hi;rw [hid];exact r5 i (by omega)
   ·rw [if_neg (fun h=>hT h.2),if_neg (fun h=>hT h.2)]
    unfold J1;dsimp only;rw [if_neg (by rw [hw.ro];omega)];unfold Z0a;dsimp only;rw [if_neg (by rw [hw.ro];omega)];refine Z02 hw.pl hw.vt ?_ hw.lg hw.ft hw.cm hw.ck ?_ ?_
    ·dsimp only;rw [hw.ro,hw.ld];exact hro0 0 (Int.le_refl _) (by omega) (by omega)
    ·dsimp only;rw [hw.ro,hw.gr];rfl
    ·dsimp only;rw [hw.ro,hw.nx,hw.mt,hw.se,hw.st];exact hl0 0 (by omega) _
end Go.Proofs.YtmmpoppgabadmaaGreat
