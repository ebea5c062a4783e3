import Derived.Test.YtmmpoppgabadmaaGreatG24
import Derived.Test.YtmmpoppgabadmaaGreatG25
import Derived.Test.YtmmpoppgabadmaaGreatG26
import Derived.Test.YtmmpoppgabadmaaGreatG27
import Derived.Test.YtmmpoppgabadmaaGreatG28
import Derived.Test.YtmmpoppgabadmaaGreatG29
import Derived.Test.YtmmpoppgabadmaaGreatG30
import Derived.Test.YtmmpoppgabadmaaGreatRows
import Derived.ProofKit
import Derived.OpenShut
import Derived.ShutString
import Derived.ChangeOld
import Derived.Carry
import Derived.Deep.Slices
set_option linter.unusedVariables false
set_option linter.unusedSimpArgs false
set_option maxRecDepth 100000
set_option maxHeartbeats 16000000
namespace Go.Proofs.YtmmpoppgabadmaaGreat
open Go.RowKit
theorem Z56 (i0 i1 i2 i3 i4 i5 i6 i7 i8 i9 i10 i11:Int)(a12 a13 a14 a15 a16 a17:Option Addr)(cap12 cap13 cap14 cap15 cap16 cap17:Nat)(l12:List Ent)(l13 l14 l15 l16 l17:List Int)(w:World)(h12:Es w (.slice a12 l12.length cap12) l12)(h13:Ix w (.slice a13 l13.length cap13) l13)(h14:Ix w (.slice a14 l14.length cap14) l14)(h15:Ix w (.slice a15 l15.length cap15) l15)(h16:Ix w (.slice a16 l16.length cap16) l16)(h17:Ix w (.slice a17 l17.length cap17) l17)(z12:l12.length<=1048576)(z13:l13.length<=1048576)(z14:l14.length<=1048576)(z15:l15.length<=1048576)(z16:l16.length<=1048576)(z17:l17.length<=1048576):Calls Tryz.prog 22 #[.agg #[.int .i64 i0,.int .i64 i1,.int .i64 i2,.int .i64 i3,.int .i64 i4,.int .i64 i5,.int .i64 i6,.int .i64 i7,.int .i64 i8,.int .i64 i9,.int .i64 i10,.int .i64 i11,.slice a12 l12.length cap12,.slice a13 l13.length cap13,.slice a14 l14.length cap14,.slice a15 l15.length cap15,.slice a16 l16.length cap16,.slice a17 l17.length cap17]] w fun e w'=>e=.returned (.int .i64 (Yj i0 i1 i2 i3 i4 i5 i6 i7 i8 i9 i10 i11 l12 l13 l14 l15 l16 l17))/\Below w.heap.size w w':=by
 cases hpl:Zr i0 i1 i2 i3
 ·rw [show Yj i0 i1 i2 i3 i4 i5 i6 i7 i8 i9 i10 i11 l12 l13 l14 l15 l16 l17=1 by simp [Yj,hpl]]
  exact sNF_1 i0 i1 i2 i3 i4 i5 i6 i7 i8 i9 i10 i11 a12 a13 a14 a15 a16 a17 cap12 cap13 cap14 cap15 cap16 cap17 l12 l13 l14 l15 l16 l17 w hpl
 obtain ⟨_,⟨hs3,hs7⟩,⟨hid1,hid2⟩,_,_⟩:=Yy hpl;cases hv:Yx i1 i4 i5
 ·rw [show Yj i0 i1 i2 i3 i4 i5 i6 i7 i8 i9 i10 i11 l12 l13 l14 l15 l16 l17=2 by simp [Yj,hpl,hv]]
  cases k1:inB i4 0 1073741824
  ·exact sNF_2a i0 i1 i2 i3 i4 i5 i6 i7 i8 i9 i10 i11 a12 a13 a14 a15 a16 a17 cap12 cap13 cap14 cap15 cap16 cap17 l12 l13 l14 l15 l16 l17 w hpl k1
  cases k2:inB i5 0 i1
  ·exact sNF_2b i0 i1 i2 i3 i4 i5 i6 i7 i8 i9 i10 i11 a12 a13 a14 a15 a16 a17 cap12 cap13 cap14 cap15 cap16 cap17 l12 l13 l14 l15 l16 l17 w hpl k1 k2
  have r1:=(Zk _ _ _).1 k1;have hv2:i5≠0/\i4<=0:=by simpa [Yx,k1,k2] using hv
  obtain rfl:i4=0:=by omega
  exact sNF_2c i0 i1 i2 i3 i5 i6 i7 i8 i9 i10 i11 a12 a13 a14 a15 a16 a17 cap12 cap13 cap14 cap15 cap16 cap17 l12 l13 l14 l15 l16 l17 w hpl k1 k2 (by simpa using hv2.1)
 have hvs:=hv;simp only [Yx,Bool.and_eq_true] at hvs;obtain ⟨k1,k2,hvt⟩:=hvs;have r1:=(Zk _ _ _).1 k1;have hvt2:i5=0∨0<i4:=by simpa using hvt
 clear hvt;cases hr:Zx i0 i1 i4 i5 i6 i7
 ·rw [show Yj i0 i1 i2 i3 i4 i5 i6 i7 i8 i9 i10 i11 l12 l13 l14 l15 l16 l17=3 by simp [Yj,hpl,hv,hr]]
  clear hv;by_cases h0:i4=0
  ·subst h0
   obtain rfl:i5=0:=by omega
   cases k3:inB i6 0 3
   ·exact sNF_3az i0 i1 i2 i3 i6 i7 i8 i9 i10 i11 a12 a13 a14 a15 a16 a17 cap12 cap13 cap14 cap15 cap16 cap17 l12 l13 l14 l15 l16 l17 w hpl k1 k2 k3
   cases k4:inB i7 0 i1
   ·exact sNF_3bz i0 i1 i2 i3 i6 i7 i8 i9 i10 i11 a12 a13 a14 a15 a16 a17 cap12 cap13 cap14 cap15 cap16 cap17 l12 l13 l14 l15 l16 l17 w hpl k1 k2 k3 k4
   have r3:=(Zk _ _ _).1 k3;rcases (show i6=0∨i6=1∨i6=2∨i6=3 by omega) with rfl | rfl | rfl | rfl
   ·obtain rfl:i7=i0:=by simpa [Zx,k3,k4] using hr
    exact sNF_30z i7 i1 i2 i3 i8 i9 i10 i11 a12 a13 a14 a15 a16 a17 cap12 cap13 cap14 cap15 cap16 cap17 l12 l13 l14 l15 l16 l17 w hpl k1 k2 k4
   ·have hl:i7≠0:=by simpa [Zx,k3,k4] using hr
    exact sNF_31z i0 i1 i2 i3 i7 i8 i9 i10 i11 a12 a13 a14 a15 a16 a17 cap12 cap13 cap14 cap15 cap16 cap17 l12 l13 l14 l15 l16 l17 w hpl k1 k2 k4 (by simpa using hl) (by simpa using hl)
   ·exact sNF_32tz i0 i1 i2 i3 i7 i8 i9 i10 i11 a12 a13 a14 a15 a16 a17 cap12 cap13 cap14 cap15 cap16 cap17 l12 l13 l14 l15 l16 l17 w hpl k1 k2 k4
   ·exact sNF_33tz i0 i1 i2 i3 i7 i8 i9 i10 i11 a12 a13 a14 a15 a16 a17 cap12 cap13 cap14 cap15 cap16 cap17 l12 l13 l14 l15 l16 l17 w hpl k1 k2 k4
  have hp:0<i4:=by omega
  have nt:(i4 == 0)=false:=by simpa using h0
  cases k3:inB i6 0 3
  ·exact sNF_3ap i0 i1 i2 i3 i4 i5 i6 i7 i8 i9 i10 i11 a12 a13 a14 a15 a16 a17 cap12 cap13 cap14 cap15 cap16 cap17 l12 l13 l14 l15 l16 l17 w hpl k1 k2 nt hp k3
  cases k4:inB i7 0 i1
  ·exact sNF_3bp i0 i1 i2 i3 i4 i5 i6 i7 i8 i9 i10 i11 a12 a13 a14 a15 a16 a17 cap12 cap13 cap14 cap15 cap16 cap17 l12 l13 l14 l15 l16 l17 w hpl k1 k2 nt hp k3 k4
  have r3:=(Zk _ _ _).1 k3;rcases (show i6=0∨i6=1∨i6=2∨i6=3 by omega) with rfl | rfl | rfl | rfl
  ·obtain rfl:i7=i0:=by simpa [Zx,k3,k4] using hr
   exact sNF_30p i7 i1 i2 i3 i4 i5 i8 i9 i10 i11 a12 a13 a14 a15 a16 a17 cap12 cap13 cap14 cap15 cap16 cap17 l12 l13 l14 l15 l16 l17 w hpl k1 k2 nt hp k4
  ·have hl:i7≠0:=by simpa [Zx,k3,k4] using hr
   exact sNF_31p i0 i1 i2 i3 i4 i5 i7 i8 i9 i10 i11 a12 a13 a14 a15 a16 a17 cap12 cap13 cap14 cap15 cap16 cap17 l12 l13 l14 l15 l16 l17 w hpl k1 k2 nt hp k4 (by simpa using hl) (by simpa using hl)
  ·by_cases hvi:i5=i0
   ·subst hvi
    have hl:i7≠0:=by simpa [Zx,k3,k4,hp] using hr
    exact sNF_32lp i5 i1 i2 i3 i4 i7 i8 i9 i10 i11 a12 a13 a14 a15 a16 a17 cap12 cap13 cap14 cap15 cap16 cap17 l12 l13 l14 l15 l16 l17 w hpl k1 k2 nt hp k4 (by simpa using hl) (by simpa using hl)
   ·exact sNF_32vp i0 i1 i2 i3 i4 i5 i7 i8 i9 i10 i11 a12 a13 a14 a15 a16 a17 cap12 cap13 cap14 cap15 cap16 cap17 l12 l13 l14 l15 l16 l17 w hpl k1 k2 nt hp k4 (by simpa using hvi)
  ·by_cases hvi:i5=i0
   ·subst hvi
    have hl:i7≠i5:=by simpa [Zx,k3,k4,hp] using hr
    exact sNF_33lp i5 i1 i2 i3 i4 i7 i8 i9 i10 i11 a12 a13 a14 a15 a16 a17 cap12 cap13 cap14 cap15 cap16 cap17 l12 l13 l14 l15 l16 l17 w hpl k1 k2 nt hp k4 (by simpa using hl)
   ·exact sNF_33vp i0 i1 i2 i3 i4 i5 i7 i8 i9 i10 i11 a12 a13 a14 a15 a16 a17 cap12 cap13 cap14 cap15 cap16 cap17 l12 l13 l14 l15 l16 l17 w hpl k1 k2 nt hp k4 (by simpa using hvi)
 have hrs:=hr;simp only [Zx,Bool.and_eq_true] at hrs;obtain ⟨k3,k4,hrr⟩:=hrs;have r3:=(Zk _ _ _).1 k3;rcases (show i6=0∨i6=1∨i6=2∨i6=3 by omega) with rfl | rfl | rfl | rfl
 ·have hl:i7≠i0:=by simpa using hrr
  by_cases h0:i4=0
  ·subst h0
   obtain rfl:i5=0:=by omega
   exact sNodeFault_0z i0 i1 i2 i3 i7 i8 i9 i10 i11 a12 a13 a14 a15 a16 a17 cap12 cap13 cap14 cap15 cap16 cap17 l12 l13 l14 l15 l16 l17 w h12 h13 h14 h15 h16 h17 z12 z13 z14 z15 z16 z17 hpl hv hr (by simpa using hl)
  ·exact sNodeFault_0p i0 i1 i2 i3 i4 i5 i7 i8 i9 i10 i11 a12 a13 a14 a15 a16 a17 cap12 cap13 cap14 cap15 cap16 cap17 l12 l13 l14 l15 l16 l17 w h12 h13 h14 h15 h16 h17 z12 z13 z14 z15 z16 z17 hpl hv hr (by simpa using hl) (by omega)
 ·obtain rfl:i7=0:=by simpa using hrr
  by_cases h0:i4=0
  ·subst h0
   obtain rfl:i5=0:=by omega
   exact sNodeFault_1z i0 i1 i2 i3 i8 i9 i10 i11 a12 a13 a14 a15 a16 a17 cap12 cap13 cap14 cap15 cap16 cap17 l12 l13 l14 l15 l16 l17 w h12 h13 h14 h15 h16 h17 z12 z13 z14 z15 z16 z17 hpl hv hr
  ·exact sNodeFault_1p i0 i1 i2 i3 i4 i5 i8 i9 i10 i11 a12 a13 a14 a15 a16 a17 cap12 cap13 cap14 cap15 cap16 cap17 l12 l13 l14 l15 l16 l17 w h12 h13 h14 h15 h16 h17 z12 z13 z14 z15 z16 z17 hpl hv hr (by omega)
 ·have h3:i7=0/\0<i4/\i5=i0:=by simpa using hrr
  obtain ⟨rfl,hp,rfl⟩:=h3;exact sNodeFault_2 i5 i1 i2 i3 i4 i8 i9 i10 i11 a12 a13 a14 a15 a16 a17 cap12 cap13 cap14 cap15 cap16 cap17 l12 l13 l14 l15 l16 l17 w h12 h13 h14 h15 h16 h17 z12 z13 z14 z15 z16 z17 hpl hv hr hp
 ·have h3:i7=i0/\0<i4/\i5=i0:=by simpa using hrr
  obtain ⟨rfl,hp,rfl⟩:=h3;exact sNodeFault_3 i5 i1 i2 i3 i4 i8 i9 i10 i11 a12 a13 a14 a15 a16 a17 cap12 cap13 cap14 cap15 cap16 cap17 l12 l13 l14 l15 l16 l17 w h12 h13 h14 h15 h16 h17 z12 z13 z14 z15 z16 z17 hpl hv hr hp
end Go.Proofs.YtmmpoppgabadmaaGreat
namespace Go.Proofs.YtmmpoppgabadmaaGreat
open Go.ChangeShapes Go.WideShapes Go.ChangeAt Go.RowKit
theorem own:ownKnob Tryz.prog.godebug=none:=by kernel_rfl
theorem laidOut:laidOutB Tryz.prog=true:=by kernel_rfl
theorem int_wf {n:Int}(h:(Lit.int .i64 n).wf=true) : -(2^63)<=n/\n<2^63:=by
 simp [Lit.wf,IntKind.min,IntKind.max,IntKind.signed,IntKind.bits] at h;omega
end Go.Proofs.YtmmpoppgabadmaaGreat
namespace Go.Proofs.YtmmpoppgabadmaaGreat
open Go.ChangeShapes Go.WideShapes Go.ChangeAt Go.RowKit
theorem Z57:Tryz.prog.cellsOf 110=7:=by kernel_rfl
theorem cellsCmd:Tryz.prog.cellsOf 29=6:=by kernel_rfl
theorem Z18:Tryz.prog.cellsOf 3=1:=by kernel_rfl
theorem cells9:Tryz.prog.cellsOf 9=1:=by kernel_rfl
theorem Z0s:Tryz.prog.cellsOf 22=1:=by kernel_rfl
section
variable {H:Type} {enc:TypeId×Value->H} {W:World} {base:Nat} {spare:Nat->Bool} {held:Bool}
theorem open_entry {fuel:Nat}{cs:List Value}{x:DataW H×List MemPlace}(h:DataW.trod enc Tryz.prog W base spare held fuel 110 cs=some x) :
  ∃ e:Ent,cs = [.int .i64 e.t,.int .i64 e.cl,.int .i64 e.sq,.int .i64 e.op,.string e.k,.string e.v,.string e.o]/\e.fits:=by
 obtain ⟨xs,n,_,hx,hl,hlen,hg⟩:=DataW.trod_struct Tryz.underlying110 h;have hl7:cs.length=7:=hl.trans Z57
 match cs,hl7 with
 | [c0,c1,c2,c3,c4,c5,c6],_=>
  have hlen':xs.length=2:=hlen;have g0:=hg 0 _ rfl;have g1:=hg 1 _ rfl;rw [List.getElem?_eq_getElem (by omega)] at g0 g1;obtain ⟨t,e0,_,_⟩:=DataW.trod_int Tryz.underlying3 g0;obtain ⟨ys,n',_,hy,hl',hlen2,hg'⟩:=DataW.trod_struct Tryz.underlying29 g1;have hlen3:ys.length=6:=hlen2;have k0:=hg' 0 _ rfl;have k1:=hg' 1 _ rfl;have k2:=hg' 2 _ rfl;have k3:=hg' 3 _ rfl;have k4:=hg' 4 _ rfl;have k5:=hg' 5 _ rfl;rw [List.getElem?_eq_getElem (by omega)] at k0 k1 k2 k3 k4 k5;obtain ⟨a0,f0,_,_⟩:=DataW.trod_int Tryz.underlying3 k0;obtain ⟨a1,f1,_,_⟩:=DataW.trod_int Tryz.underlying3 k1;obtain ⟨a2,f2,_,_⟩:=DataW.trod_int Tryz.underlying3 k2;obtain ⟨a3,f3,_,m3⟩:=DataW.trod_string Tryz.underlying9 k3;obtain ⟨a4,f4,_,m4⟩:=DataW.trod_string Tryz.underlying9 k4;obtain ⟨a5,f5,_,m5⟩:=DataW.trod_string Tryz.underlying9 k5;simp [Z18,cells9,cellsCmd] at e0 f0 f1 f2 f3 f4 f5;exact ⟨⟨t,a0,a1,a2,a3,a4,a5⟩,by rw [e0,f0,f1,f2,f3,f4,f5],m3,m4,m5⟩
theorem add_add (b o i j:Nat):((⟨b,o,none⟩:Addr).add i).add j=⟨b,o+i+j,none⟩:=by
 have h:∀ o k,(⟨b,o,none⟩:Addr).add k=⟨b,o+k,none⟩:=by
  intro o k;unfold Addr.add;split
  ·next h=>subst h;rfl
  ·rfl
 rw [h,h]
theorem Z34 {fuel:Nat}{v:Value}{x:DataW H×List MemPlace}(h:DataW.trod enc Tryz.prog W base spare held fuel 22 [v]=some x):∃ l,Es W v l:=by
 rcases Go.Deep.open_slice Tryz.underlying22 h with ⟨hcs,_⟩ | ⟨a,len,cap,m,n,D,Pl,hcs,_,hlc,hcm,hm,_,hel⟩
 ·simp at hcs
  subst hcs;exact ⟨[],by simp [maxLen],by simp,_,_,rfl,fun i hi=>absurd hi (by simp)⟩
 ·simp at hcs
  subst hcs;have hlm:len<=m:=by rw [hm];split <;> omega
  have hex:∀ i,i<len->∃ e:Ent,(∀ j,j<7->W.cell? ((a.add (i*7)).add j)=([.int .i64 e.t,.int .i64 e.cl,.int .i64 e.sq,.int .i64 e.op,.string e.k,.string e.v,.string e.o]:List Value)[j]?)/\e.fits:=by
   intro i hi;obtain ⟨cs',hc,ht⟩:=hel i (by omega);rw [Z57] at hc;obtain ⟨e,rfl,hf⟩:=open_entry ht;obtain ⟨_,_,hg⟩:=World.cells?_some hc;exact ⟨e,hg,hf⟩
  obtain ⟨f,hf⟩:∃ f:Nat->Ent,∀ i,i<len->(∀ j,j<7->W.cell? ((a.add (i*7)).add j)=([.int .i64 (f i).t,.int .i64 (f i).cl,.int .i64 (f i).sq,.int .i64 (f i).op,.string (f i).k,.string (f i).v,.string (f i).o]:List Value)[j]?)/\(f i).fits:=by
   refine ⟨fun i=>if h:i<len then Classical.choose (hex i h) else ⟨0,0,0,0,.empty,.empty,.empty⟩,fun i hi=>?_⟩;simp only [hi,dif_pos];exact Classical.choose_spec (hex i hi)
  have hlen:((List.range len).map f).length=len:=by simp
  refine ⟨(List.range len).map f,by rw [hlen];omega,fun e he=>?_,some a,cap,by rw [hlen],fun i hi=>?_⟩
  ·simp only [List.mem_map,List.mem_range] at he
   obtain ⟨i,hi,rfl⟩:=he;exact (hf i hi).2
  ·rw [hlen] at hi
   obtain ⟨b,off,spot⟩:=a;have h00:=(hf 0 (by omega)).1 0 (by omega);have hspot:spot=none:=by simpa [Addr.add] using World.cell?_spot h00
   subst hspot;refine ⟨b,off,rfl,fun j hj=>?_⟩;rw [hlen] at hj;have hc:=(hf j hj).1;simp only [add_add] at hc;have ej:((List.range len).map f)[j]'(by rw [hlen];exact hj)=f j:=by simp
   rw [ej];exact ⟨hc 0 (by omega),hc 1 (by omega),hc 2 (by omega),hc 3 (by omega),hc 4 (by omega),hc 5 (by omega),hc 6 (by omega)⟩
end
end Go.Proofs.YtmmpoppgabadmaaGreat
namespace Go.Proofs.YtmmpoppgabadmaaGreat
open Go.ChangeShapes Go.WideShapes Go.ChangeAt Go.RowKit
theorem cellsInput:Tryz.prog.cellsOf 31=18:=by kernel_rfl
theorem cellsMsgI:Tryz.prog.cellsOf 27=10:=by kernel_rfl
section
variable {H:Type} {enc:TypeId×Value->H} {W:World} {base:Nat} {spare:Nat->Bool} {held:Bool}
theorem cs_input {fuel:Nat}{cs:List Value}{x:DataW H×List MemPlace}(h:DataW.trod enc Tryz.prog W base spare held fuel 31 cs=some x) :
  ∃(ki dr m0 m1 m2 m3 m4 m5 m6 m7 m8:Int) (u:Value) (l:List Ent) (cl sq op:Int) (k v o:ByteArray),cs = [.int .i64 ki,.int .i64 dr,.int .i64 m0,.int .i64 m1,.int .i64 m2,.int .i64 m3,.int .i64 m4,.int .i64 m5,.int .i64 m6,.int .i64 m7,.int .i64 m8,u,.int .i64 cl,.int .i64 sq,.int .i64 op,.string k,.string v,.string o]/\Es W u l/\(Lit.int .i64 dr).wf=true/\k.size<=maxLen/\v.size<=maxLen/\o.size<=maxLen:=by
 obtain ⟨xs,n,_,hx,hl,hlen,hg⟩:=DataW.trod_struct Tryz.underlying31 h;have hln:cs.length=18:=hl.trans cellsInput
 match cs,hln with
 | [c0,c1,c2,c3,c4,c5,c6,c7,c8,c9,c10,c11,c12,c13,c14,c15,c16,c17],_=>
  have hlen':xs.length=4:=hlen;have g0:=hg 0 _ rfl;have g1:=hg 1 _ rfl;have g2:=hg 2 _ rfl;have g3:=hg 3 _ rfl;rw [List.getElem?_eq_getElem (by omega)] at g0 g1 g2 g3;obtain ⟨a0,e0,_,_⟩:=DataW.trod_int Tryz.underlying3 g0;obtain ⟨a1,e1,_,wf1⟩:=DataW.trod_int Tryz.underlying3 g1;obtain ⟨ys,n2,_,hy,hl2,hlen2,hg2⟩:=DataW.trod_struct Tryz.underlying27 g2;have hlen3:ys.length=10:=hlen2;have k0:=hg2 0 _ rfl;have k1:=hg2 1 _ rfl;have k2:=hg2 2 _ rfl;have k3:=hg2 3 _ rfl;have k4:=hg2 4 _ rfl;have k5:=hg2 5 _ rfl;have k6:=hg2 6 _ rfl;have k7:=hg2 7 _ rfl;have k8:=hg2 8 _ rfl;have k9:=hg2 9 _ rfl;rw [List.getElem?_eq_getElem (by omega)] at k0 k1 k2 k3 k4 k5 k6 k7 k8 k9;obtain ⟨b0,f0,_,_⟩:=DataW.trod_int Tryz.underlying3 k0;obtain ⟨b1,f1,_,_⟩:=DataW.trod_int Tryz.underlying3 k1;obtain ⟨b2,f2,_,_⟩:=DataW.trod_int Tryz.underlying3 k2;obtain ⟨b3,f3,_,_⟩:=DataW.trod_int Tryz.underlying3 k3;obtain ⟨b4,f4,_,_⟩:=DataW.trod_int Tryz.underlying3 k4;obtain ⟨b5,f5,_,_⟩:=DataW.trod_int Tryz.underlying3 k5;obtain ⟨b6,f6,_,_⟩:=DataW.trod_int Tryz.underlying3 k6;obtain ⟨b7,f7,_,_⟩:=DataW.trod_int Tryz.underlying3 k7;obtain ⟨b8,f8,_,_⟩:=DataW.trod_int Tryz.underlying3 k8;obtain ⟨zs,n3,_,hz,hl3,hlen4,hg3⟩:=DataW.trod_struct Tryz.underlying29 g3;have hlen5:zs.length=6:=hlen4;have j0:=hg3 0 _ rfl;have j1:=hg3 1 _ rfl;have j2:=hg3 2 _ rfl;have j3:=hg3 3 _ rfl;have j4:=hg3 4 _ rfl;have j5:=hg3 5 _ rfl;rw [List.getElem?_eq_getElem (by omega)] at j0 j1 j2 j3 j4 j5;obtain ⟨q0,r0,_,_⟩:=DataW.trod_int Tryz.underlying3 j0;obtain ⟨q1,r1,_,_⟩:=DataW.trod_int Tryz.underlying3 j1;obtain ⟨q2,r2,_,_⟩:=DataW.trod_int Tryz.underlying3 j2;obtain ⟨q3,r3,_,m3⟩:=DataW.trod_string Tryz.underlying9 j3;obtain ⟨q4,r4,_,m4⟩:=DataW.trod_string Tryz.underlying9 j4;obtain ⟨q5,r5,_,m5⟩:=DataW.trod_string Tryz.underlying9 j5;simp [Z18,cells9,cellsCmd,cellsMsgI,Z0s] at e0 e1 f0 f1 f2 f3 f4 f5 f6 f7 f8 r0 r1 r2 r3 r4 r5;have h9:DataW.trod enc Tryz.prog W base spare held n2 22 [c11]=some ys[9]:=by simpa [Z18,cells9,cellsCmd,cellsMsgI,Z0s] using k9
  obtain ⟨l,hE⟩:=Z34 h9;exact ⟨a0,a1,b0,b1,b2,b3,b4,b5,b6,b7,b8,c11,l,q0,q1,q2,q3,q4,q5,by rw [e0,e1,f0,f1,f2,f3,f4,f5,f6,f7,f8,r0,r1,r2,r3,r4,r5],hE,wf1,m3,m4,m5⟩
theorem open_input {b0:Nat}{v:Value}{d:DataW H}{p:List MemPlace}
  (hv:Value.okWide Tryz.prog W .any b0 31 v) (h:DataW.Trod enc Tryz.prog W base spare held 31 v d p) :
  ∃(ki dr m0 m1 m2 m3 m4 m5 m6 m7 m8:Int) (u:Value) (l:List Ent) (cl sq op:Int) (k v' o:ByteArray),v=.agg #[.int .i64 ki,.int .i64 dr,.int .i64 m0,.int .i64 m1,.int .i64 m2,.int .i64 m3,.int .i64 m4,.int .i64 m5,.int .i64 m6,.int .i64 m7,.int .i64 m8,u,.int .i64 cl,.int .i64 sq,.int .i64 op,.string k,.string v',.string o]/\Es W u l/\(Lit.int .i64 dr).wf=true/\k.size<=maxLen/\v'.size<=maxLen/\o.size<=maxLen:=by
 obtain ⟨cs,rfl,hsz⟩:=okWide_struct Tryz.underlying31 hv;obtain ⟨fuel,hf⟩:=h;obtain ⟨l⟩:=cs;obtain ⟨ki,dr,m0,m1,m2,m3,m4,m5,m6,m7,m8,u,le,cl,sq,op,k,v',o,hl,hr⟩:=cs_input hf;have hl2:l = [.int .i64 ki,.int .i64 dr,.int .i64 m0,.int .i64 m1,.int .i64 m2,.int .i64 m3,.int .i64 m4,.int .i64 m5,.int .i64 m6,.int .i64 m7,.int .i64 m8,u,.int .i64 cl,.int .i64 sq,.int .i64 op,.string k,.string v',.string o]:=hl;subst hl2;exact ⟨ki,dr,m0,m1,m2,m3,m4,m5,m6,m7,m8,u,le,cl,sq,op,k,v',o,rfl,hr⟩
end
end Go.Proofs.YtmmpoppgabadmaaGreat
namespace Go.Proofs.YtmmpoppgabadmaaGreat
open Go.ChangeShapes Go.WideShapes Go.ChangeAt Go.RowKit
theorem Z04 {H:Type}{enc:TypeId×Value->H}{W:World}{base fuel:Nat}{spare:Nat->Bool}{held:Bool}{c:Value}{x:DataW H×List MemPlace}
  (hf:DataW.trod enc Tryz.prog W base spare held fuel 23 [c]=some x):∃ l,Ix W c l:=by
 rcases open_ints Tryz.underlying23 Tryz.underlying3 (by kernel_rfl) hf with ⟨hcs,_⟩ | ⟨x,len,cap,zs,hcs,_,hl,hm,hz,_,Yn,hwz⟩
 ·simp at hcs
  subst hcs;exact ⟨[],Ix.nil _⟩
 ·simp at hcs
  subst hcs;have hz':len<=zs.length:=by rw [hz];split <;> omega
  have hlen:(zs.take len).length=len:=by rw [List.length_take];omega
  refine ⟨zs.take len,by rw [hlen];omega,some x,cap,by rw [hlen],fun i hi=>?_⟩;obtain ⟨b,off,spot⟩:=x;rw [hlen] at hi;have hspot:spot=none:=by simpa [Addr.add] using World.cell?_spot (Yn 0 (by omega))
  subst hspot;refine ⟨b,off,rfl,fun j hj=>?_⟩;rw [hlen] at hj;have:=Yn j (by omega)
  have ea:Addr.add ⟨b,off,none⟩ j=⟨b,off+j,none⟩:=by
   unfold Addr.add;split
   ·next h=>subst h;rfl
   ·rfl
  rw [ea] at this;have hjz:j<zs.length:=by omega
  simpa [List.getElem?_take,hj,hjz,List.getD_eq_getElem?_getD,List.getElem?_eq_getElem] using this
end Go.Proofs.YtmmpoppgabadmaaGreat
namespace Go.Proofs.YtmmpoppgabadmaaGreat
end Go.Proofs.YtmmpoppgabadmaaGreat
namespace Go.Proofs.YtmmpoppgabadmaaGreat
open Go.ChangeShapes Go.WideShapes Go.ChangeAt Go.RowKit
theorem cellsNode:Tryz.prog.cellsOf 25=18:=by kernel_rfl
theorem Z1m:Tryz.prog.cellsOf 23=1:=by kernel_rfl
section
variable {H:Type} {enc:TypeId×Value->H} {W:World} {base:Nat} {spare:Nat->Bool} {held:Bool}
theorem cs_node {fuel:Nat}{cs:List Value}{x:DataW H×List MemPlace}(h:DataW.trod enc Tryz.prog W base spare held fuel 25 cs=some x) :
  ∃(i0 i1 i2 i3 i4 i5 i6 i7 i8 i9 i10 i11:Int) (v12 v13 v14 v15 v16 v17:Value) (l12:List Ent) (l13 l14 l15 l16 l17:List Int),cs = [.int .i64 i0,.int .i64 i1,.int .i64 i2,.int .i64 i3,.int .i64 i4,.int .i64 i5,.int .i64 i6,.int .i64 i7,.int .i64 i8,.int .i64 i9,.int .i64 i10,.int .i64 i11,v12,v13,v14,v15,v16,v17]/\Es W v12 l12/\Ix W v13 l13/\Ix W v14 l14/\Ix W v15 l15/\Ix W v16 l16/\Ix W v17 l17:=by
 obtain ⟨xs,n,_,hx,hl,hlen,hg⟩:=DataW.trod_struct Tryz.underlying25 h;have hln:cs.length=18:=hl.trans cellsNode
 match cs,hln with
 | [c0,c1,c2,c3,c4,c5,c6,c7,c8,c9,c10,c11,c12,c13,c14,c15,c16,c17],_=>
  have hlen':xs.length=18:=hlen;have g0:=hg 0 _ rfl;have g1:=hg 1 _ rfl;have g2:=hg 2 _ rfl;have g3:=hg 3 _ rfl;have g4:=hg 4 _ rfl;have g5:=hg 5 _ rfl;have g6:=hg 6 _ rfl;have g7:=hg 7 _ rfl;have g8:=hg 8 _ rfl;have g9:=hg 9 _ rfl;have g10:=hg 10 _ rfl;have g11:=hg 11 _ rfl;have g12:=hg 12 _ rfl;have g13:=hg 13 _ rfl;have g14:=hg 14 _ rfl;have g15:=hg 15 _ rfl;have g16:=hg 16 _ rfl;have g17:=hg 17 _ rfl;rw [List.getElem?_eq_getElem (by omega)] at g0 g1 g2 g3 g4 g5 g6 g7 g8 g9 g10 g11 g12 g13 g14 g15 g16 g17;obtain ⟨n0,e0,_,_⟩:=DataW.trod_int Tryz.underlying3 g0;obtain ⟨n1,e1,_,_⟩:=DataW.trod_int Tryz.underlying3 g1;obtain ⟨n2,e2,_,_⟩:=DataW.trod_int Tryz.underlying3 g2;obtain ⟨n3,e3,_,_⟩:=DataW.trod_int Tryz.underlying3 g3;obtain ⟨n4,e4,_,_⟩:=DataW.trod_int Tryz.underlying3 g4;obtain ⟨n5,e5,_,_⟩:=DataW.trod_int Tryz.underlying3 g5;obtain ⟨n6,e6,_,_⟩:=DataW.trod_int Tryz.underlying3 g6;obtain ⟨n7,e7,_,_⟩:=DataW.trod_int Tryz.underlying3 g7;obtain ⟨n8,e8,_,_⟩:=DataW.trod_int Tryz.underlying3 g8;obtain ⟨n9,e9,_,_⟩:=DataW.trod_int Tryz.underlying3 g9;obtain ⟨n10,e10,_,_⟩:=DataW.trod_int Tryz.underlying3 g10;obtain ⟨n11,e11,_,_⟩:=DataW.trod_int Tryz.underlying3 g11;simp [Z18,Z0s,Z1m] at e0 e1 e2 e3 e4 e5 e6 e7 e8 e9 e10 e11;have h12:DataW.trod enc Tryz.prog W base spare held n 22 [c12]=some xs[12]:=by simpa [Z18,Z0s,Z1m] using g12
  have h13:DataW.trod enc Tryz.prog W base spare held n 23 [c13]=some xs[13]:=by simpa [Z18,Z0s,Z1m] using g13
  have h14:DataW.trod enc Tryz.prog W base spare held n 23 [c14]=some xs[14]:=by simpa [Z18,Z0s,Z1m] using g14
  have h15:DataW.trod enc Tryz.prog W base spare held n 23 [c15]=some xs[15]:=by simpa [Z18,Z0s,Z1m] using g15
  have h16:DataW.trod enc Tryz.prog W base spare held n 23 [c16]=some xs[16]:=by simpa [Z18,Z0s,Z1m] using g16
  have h17:DataW.trod enc Tryz.prog W base spare held n 23 [c17]=some xs[17]:=by simpa [Z18,Z0s,Z1m] using g17
  obtain ⟨l12,b12⟩:=Z34 h12;obtain ⟨l13,b13⟩:=Z04 h13;obtain ⟨l14,b14⟩:=Z04 h14;obtain ⟨l15,b15⟩:=Z04 h15;obtain ⟨l16,b16⟩:=Z04 h16;obtain ⟨l17,b17⟩:=Z04 h17;exact ⟨n0,n1,n2,n3,n4,n5,n6,n7,n8,n9,n10,n11,c12,c13,c14,c15,c16,c17,l12,l13,l14,l15,l16,l17,by rw [e0,e1,e2,e3,e4,e5,e6,e7,e8,e9,e10,e11],b12,b13,b14,b15,b16,b17⟩
theorem open_node {b0:Nat}{v:Value}{d:DataW H}{p:List MemPlace}
  (hv:Value.okWide Tryz.prog W .any b0 25 v) (h:DataW.Trod enc Tryz.prog W base spare held 25 v d p) :
  ∃(i0 i1 i2 i3 i4 i5 i6 i7 i8 i9 i10 i11:Int) (v12 v13 v14 v15 v16 v17:Value) (l12:List Ent) (l13 l14 l15 l16 l17:List Int),v=.agg #[.int .i64 i0,.int .i64 i1,.int .i64 i2,.int .i64 i3,.int .i64 i4,.int .i64 i5,.int .i64 i6,.int .i64 i7,.int .i64 i8,.int .i64 i9,.int .i64 i10,.int .i64 i11,v12,v13,v14,v15,v16,v17]/\Es W v12 l12/\Ix W v13 l13/\Ix W v14 l14/\Ix W v15 l15/\Ix W v16 l16/\Ix W v17 l17:=by
 obtain ⟨cs,rfl,hsz⟩:=okWide_struct Tryz.underlying25 hv;obtain ⟨fuel,hf⟩:=h;obtain ⟨l⟩:=cs;obtain ⟨n0,n1,n2,n3,n4,n5,n6,n7,n8,n9,n10,n11,u12,u13,u14,u15,u16,u17,l12,l13,l14,l15,l16,l17,hl,hr⟩:=cs_node hf;have hl2:l = [.int .i64 n0,.int .i64 n1,.int .i64 n2,.int .i64 n3,.int .i64 n4,.int .i64 n5,.int .i64 n6,.int .i64 n7,.int .i64 n8,.int .i64 n9,.int .i64 n10,.int .i64 n11,u12,u13,u14,u15,u16,u17]:=hl;subst hl2;exact ⟨n0,n1,n2,n3,n4,n5,n6,n7,n8,n9,n10,n11,u12,u13,u14,u15,u16,u17,l12,l13,l14,l15,l16,l17,rfl,hr⟩
end
end Go.Proofs.YtmmpoppgabadmaaGreat
