import Derived.Test.YtmmpoppgabadmaaGreatG08
import Derived.Test.YtmmpoppgabadmaaGreatG13
import Derived.Test.YtmmpoppgabadmaaGreatG28
import Derived.Test.YtmmpoppgabadmaaGreatG29
import Derived.Test.YtmmpoppgabadmaaGreatG25
import Derived.Test.YtmmpoppgabadmaaGreatG26
import Derived.Test.YtmmpoppgabadmaaGreatG19
set_option linter.unusedVariables false
set_option linter.unusedSimpArgs false
set_option maxRecDepth 100000
set_option maxHeartbeats 16000000
namespace Go.Proofs.YtmmpoppgabadmaaGreat
open Go.RowKit
def msB (m:Mg):Int:=Jc m.ki m.fr m.td m.tm m.li m.lt m.cm m.ok m.hi m.es
theorem msB_zero (m:Mg)(h:msB m=0):(1<=m.ki/\m.ki<=6)/\(1<=m.fr/\m.fr<=7)/\m.fr≠m.td/\0<=m.li/\m.li<=4096/\(m.ki=5->m.es.length<=32)/\0<=m.hi/\m.hi<=4096:=by
 unfold msB Jc at h;split at h
 ·simp at h
 rename_i h1;split at h
 ·simp at h
 rename_i h2;split at h
 ·simp at h
 split at h
 ·simp at h
 rename_i h4;split at h
 ·simp at h
 rename_i h5;split at h
 ·simp at h
 rename_i h6;have k1:=(Zr _ _ _).1 (by simpa using h1);have k2:Js m.fr m.td=true:=by simpa using h2
 have k4:Z0a m.ki m.tm m.li m.lt=true:=by simpa using h4
 have k5:Xr m.ki m.cm m.ok m.hi=true:=by simpa using h5
 have k6:J7 m.ki m.li m.lt m.tm m.es=true:=by simpa using h6
 have p:=posB_li k4;unfold Js at k2;simp only [Bool.and_eq_true,bne_iff_ne] at k2;have f1:=(Zr _ _ _).1 k2.1.1;unfold Xr at k5;simp only [Bool.and_eq_true] at k5;have g1:=(Zr _ _ _).1 k5.2
 have hhi:0<=m.hi/\m.hi<=4096:=by
  have h9:(if m.ki=6/\m.ok=0 then (4096:Int) else 0)<=4096:=by split <;> omega
  omega
 refine ⟨k1,f1,k2.2,p.1,p.2,?_,hhi.1,hhi.2⟩;intro h5';unfold J7 at k6;rw [if_pos h5'] at k6;simp only [Bool.and_eq_true,decide_eq_true_eq] at k6;exact k6.1.1
def mgB (n:Nd)(m:Mg):Bool:=(msB m != 0) || (m.td != n.id) || decide (n.sz<m.fr)
theorem message_eq (r:Rn)(m:Mg):r.message (decide (msB m≠0)) m=if mgB r.n m=true then { r with code:=1 } else if m.ki=1 then r.preAsk m else if m.ki=2 then r.preReply m else if m.ki=3 then r.voteAsk m else if m.ki=4 then r.voteReply m else if m.ki=5 then r.append m else r.appReply m:=by
 unfold Rn.message;have hi:mgB r.n m=true↔decide (msB m≠0)=true∨m.td≠r.n.id∨r.n.sz<m.fr:=by unfold mgB;simp [or_assoc]
 by_cases hc:mgB r.n m=true
 ·rw [if_pos hc,if_pos (hi.1 hc)]
 ·rw [if_neg hc,if_neg (fun h=>hc (hi.2 h))]
theorem Z28 {w:World}{b:Nat}{C:Array Value}{t:TypeId}(h:Blk w b C t)(off:Nat)(cs:List Value)(hcs:(C.toList.drop off).take cs.length=cs):w.rangeAt b off cs:=fun j v hv=>by
 have hj:j<cs.length:=(List.getElem?_eq_some_iff.1 hv).1;rw [h.cell (off+j),<-hv,<-hcs,List.getElem?_take,if_pos hj,List.getElem?_drop];simp
def stepP (n:Nd)(dr ki:Int)(m:Mg)(cl sq op:Int)(k v o:ByteArray):Rn:=
 let r:Rn:=⟨n,[],0,0,dr⟩
 if ki=1 then r.tick else if ki=2 then r.message (decide (msB m≠0)) m else if ki=3 then r.propose (decide (cmdF cl sq op k.size v.size o.size≠0∨op=0)) cl sq op k v o else { r with code:=8 }
def saC (r:Rn)(x:RV):Array Value:=#[.int .i64 r.code,.int .i64 r.drew,.int .i64 r.n.id,.int .i64 r.n.sz,.int .i64 r.n.el,.int .i64 r.n.bt,.int .i64 r.n.tm,.int .i64 r.n.vo,.int .i64 r.n.ro,.int .i64 r.n.ld,.int .i64 r.n.cm,.int .i64 r.n.nw,.int .i64 r.n.dl,.int .i64 r.n.hd,x.vl,x.vg,x.vn,x.vm,x.vs,x.vt,x.vo]
theorem rise_len (most:Int):∀(l:List Int) (last:Int),last<=most->Yx most last l=true->last+(l.length:Int)<=most
 | [],last,h,_=>by simpa using h
 | x :: l,last,h,hr=>by
  simp only [Yx,Bool.and_eq_true,Zr] at hr;have:=rise_len most l x hr.1.2 hr.2;simp only [List.length_cons]
  push_cast
  omega
def Xt (n:Nd):Int:=Yu n.id n.sz n.el n.bt n.tm n.vo n.ro n.ld n.cm n.nw n.dl n.hd n.log n.gr n.nx n.mt n.se n.st
theorem Jy (n:Nd)(h:Xt n=0):NdB n/\0<=n.tm/\n.tm<=1073741824/\n.sz%2=1/\n.gr.length<=1000/\0<=n.cm/\Yp n.ro n.sz n.id n.gr=true/\Yw n.ro n.sz n.id n.log.length n.nw n.nx n.mt n.se n.st=true:=by
 unfold Xt Yu at h;split at h
 ·simp at h
 rename_i h1;split at h
 ·simp at h
 rename_i h2;split at h
 ·simp at h
 split at h
 ·simp at h
 rename_i h4;split at h
 ·simp at h
 split at h
 ·simp at h
 rename_i h5;split at h
 ·simp at h
 rename_i h6;split at h
 ·simp at h
 rename_i h7;split at h
 ·simp at h
 rename_i h8;have k1:Y3 n.id n.sz n.el n.bt=true:=by simpa using h1
 have k2:Yv n.sz n.tm n.vo=true:=by simpa using h2
 have k5:inB n.cm 0 n.log.length=true:=by simpa using h5
 have k6:Ya n.el n.nw n.dl n.hd=true:=by simpa using h6
 have k7:Yp n.ro n.sz n.id n.gr=true:=by simpa using h7
 have k8:Yw n.ro n.sz n.id n.log.length n.nw n.nx n.mt n.se n.st=true:=by simpa using h8
 obtain ⟨s1,s2,s3,s4⟩:=Xd k1;have hs:n.sz=3∨n.sz=5∨n.sz=7:=by simpa [sizB,or_assoc] using s1
 unfold Yv at k2;simp only [Bool.and_eq_true,Zr] at k2;unfold Ya at k6;simp only [Bool.and_eq_true,Zr] at k6;rw [Zr] at k5;refine ⟨⟨k6.1.1,k6.1.2,k6.2.2.1,k6.2.2.2,s2.1,s2.2,s3.1,s3.2,by omega⟩,k2.1.1,k2.1.2,by omega,?_,k5.1,k7,k8⟩;have k9:=k7;unfold Yp at k9;split at k9
 ·have:(n.gr.length:Int)=0:=by simpa using k9
  omega
 ·simp only [Bool.and_eq_true] at k9
  have:=rise_len n.sz n.gr 0 (by omega) k9.1;omega
theorem Z1o {l:List Int}{j:Nat}(h:j<l.length):l.getD j 0=l[j]:=by rw [List.getD_eq_getElem?_getD,List.getElem?_eq_getElem h];rfl
theorem progs_at {id ln nw:Int}{l14 l15 l16 l17:List Int}{n:Nat}(h:Yt id ln nw l14 l15 l16 l17 n 0=true)(j:Nat)(hj:j<n):Yg ((j:Int)+1) id ln nw (l14.getD j 0) (l15.getD j 0) (l16.getD j 0) (l17.getD j 0)=true:=by
 unfold Yt at h;exact List.all_eq_true.1 h j (by rw [List.mem_range'_1];omega)
theorem listB_ld (n:Nd)(hro:n.ro=3)(hsz:0<=n.sz)(hnw:0<=n.nw)(h:Yw n.ro n.sz n.id n.log.length n.nw n.nx n.mt n.se n.st=true):LdM n n.sz.toNat/\LdT n n.sz.toNat:=by
 unfold Yw at h;rw [if_pos hro,Bool.and_eq_true,Xz] at h;obtain ⟨⟨e1,e2,e3,e4⟩,hp⟩:=h;have hat:=progs_at hp
 have hldb:LdB n n.sz.toNat:=by
  refine ⟨by omega,by omega,?_⟩;intro J hJ hne;have h9:=hat J (by omega);unfold Yg at h9;rw [if_neg hne,Z1o hJ] at h9;simp only [Bool.and_eq_true,Zr] at h9;exact ⟨(n.nx[J]-1).toNat,by omega,by omega⟩
 have hall:∀ j,j<n.sz.toNat->(0<=n.se.getD j 0/\n.se.getD j 0<=n.nw)/\(0<=n.st.getD j 0/\n.st.getD j 0<=n.nw):=by
  intro j hj;have h9:=hat j hj;unfold Yg at h9;split at h9
  ·simp only [Bool.and_eq_true,beq_iff_eq] at h9
   omega
  ·simp only [Bool.and_eq_true,Zr] at h9
   omega
 refine ⟨⟨hldb,by omega,by omega,?_⟩,⟨hldb,by omega,?_,?_⟩⟩
 ·intro J h1 h2 hne
  have h9:=hat J (by omega);unfold Yg at h9;rw [if_neg hne,Z1o h1,Z1o h2] at h9;simp only [Bool.and_eq_true,Zr] at h9;omega
 ·intro y hy
  obtain ⟨j,hj,rfl⟩:=List.mem_iff_getElem.1 hy;have:=(hall j (by omega)).1
  rwa [Z1o hj] at this
 ·intro y hy
  obtain ⟨j,hj,rfl⟩:=List.mem_iff_getElem.1 hy;have:=(hall j (by omega)).2
  rwa [Z1o hj] at this
theorem lst125 (t:Nat->Value):lst t 0 125 = [t 0,t 1,t 2,t 3,t 4,t 5,t 6,t 7,t 8,t 9,t 10,t 11,t 12,t 13,t 14,t 15,t 16,t 17,t 18,t 19,t 20,t 21,t 22,t 23,t 24,t 25,t 26,t 27,t 28,t 29,t 30,t 31,t 32,t 33,t 34,t 35,t 36,t 37,t 38,t 39,t 40,t 41,t 42,t 43,t 44,t 45,t 46,t 47,t 48,t 49,t 50,t 51,t 52,t 53,t 54,t 55,t 56,t 57,t 58,t 59,t 60,t 61,t 62,t 63,t 64,t 65,t 66,t 67,t 68,t 69,t 70,t 71,t 72,t 73,t 74,t 75,t 76,t 77,t 78,t 79,t 80,t 81,t 82,t 83,t 84,t 85,t 86,t 87,t 88,t 89,t 90,t 91,t 92,t 93,t 94,t 95,t 96,t 97,t 98,t 99,t 100,t 101,t 102,t 103,t 104,t 105,t 106,t 107,t 108,t 109,t 110,t 111,t 112,t 113,t 114,t 115,t 116,t 117,t 118,t 119,t 120,t 121,t 122,t 123,t 124]:=rfl
theorem Z2d {fn:Func}{s:Tmp}{tmps:Array Value}{w:World}{v:Value}(hr:fn.results=#[.tmp s])(ht:tmps.getD s undef=v):(results fn tmps).run Tryz.prog w=.ok v w:=by
 have e:tmps[s]?.getD undef=v:=by rw [<-ht];simp
 simp [results,hr,e]
theorem X5 (w:World)(n:Nat):Below w.heap.size w (w.drewN n):=⟨rfl,rfl,rfl,Nat.le_refl _,fun _ _=>rfl⟩
theorem Jg (v u:Value)(l:List Int)(w:World)(hv:Ix w v l)(hu:Ix w u l)(hll:l.length<=1048576) :
  Calls Tryz.prog 62 #[v,u] w fun e w'=>e=.returned (.bool true)/\∃ n,w'=w.drewN n:=by
 obtain ⟨hl,a,cap,rfl,hc⟩:=hv;obtain ⟨hl',a',cap',rfl,hc'⟩:=hu;go_enter Tryz.func62,Tryz.ntmps62;go_wp2
 go_loopw [5] (fun i wr=>∃ k:Nat,k<=l.length/\i=.int .i64 k/\∃ n,wr=w.drewN n) (fun i _=>l.length-(intOf i).toNat)
 case atStart=>exact ⟨0,Nat.zero_le _,rfl,0,rfl⟩
 case round=>
  obtain ⟨k,hk,rfl,nd,rfl⟩:=hrel;by_cases hlt:k<l.length
  ·obtain ⟨b,off,rfl,hj⟩:=hc k hlt
   obtain ⟨b',off',rfl,hj'⟩:=hc' k hlt;have c0:=hj k hlt;have d0:=hj' k hlt;clear hc hj hc' hj';generalize l[k]=e at *;have hne:(e != e)=false:=by simp
   have hwk:IntKind.i64.wrap (k:Int)=(k:Int):=by rw [IntKind.wrap_i64];omega
   have hki:(k:Int)<(l.length:Int):=by omega
   go_wp2;go_quiet (fail)
   go_wp2
   go_roundw
   case rel=>exact ⟨k+1,by omega,by go_num,_,rfl⟩
   case measure=>simp [intOf];omega
  ·have hk2:k=l.length:=by omega
   go_wp2;go_ret;exact ⟨rfl,nd,rfl⟩
theorem sn1 {b2 b3:Nat}{n:Nd}{x y:RV}{Q:Exit->Act->World->Prop}{K:Act->World->Prop}{a:Act}{w:World}(hF:SzD a 125)(h2:a.eval (.tmp 2)=.pointer (some ⟨b2,0,none⟩))(h3:a.eval (.tmp 3)=.pointer (some ⟨b3,0,none⟩))(hA:Blk w b2 (ndC n x) 36)(hB:Blk w b3 (ndC n y) 36)(hP:∀ a' w',SzD a' 125->a'.eval (.tmp 2)=.pointer (some ⟨b2,0,none⟩)->a'.eval (.tmp 3)=.pointer (some ⟨b3,0,none⟩)->a'.eval (.tmp 44)=.bool false->w'=w->K a' w'):(Z1 0 (Z1 1 (Z3 Tryz.f23))).wp Tryz.prog (Exit.then K Q) a w:=by
 obtain ⟨t,rfl⟩:=hF.opened;clear hF;rw [lst125]
 try dsimp only
 rw [show t 2=_ from h2,show t 3=_ from h3];clear h2 h3;have c0:w.cell? ⟨b2,0,none⟩=some (.int .i64 n.id):=hA.cell 0;have d0:w.cell? ⟨b3,0,none⟩=some (.int .i64 n.id):=hB.cell 0;have s0:(n.id != n.id)=false:=by simp
 generalize n.id=z0 at c0 d0 s0;have c1:w.cell? ⟨b2,1,none⟩=some (.int .i64 n.sz):=hA.cell 1;have d1:w.cell? ⟨b3,1,none⟩=some (.int .i64 n.sz):=hB.cell 1;have s1:(n.sz != n.sz)=false:=by simp
 generalize n.sz=z1 at c1 d1 s1;have c2:w.cell? ⟨b2,2,none⟩=some (.int .i64 n.el):=hA.cell 2;have d2:w.cell? ⟨b3,2,none⟩=some (.int .i64 n.el):=hB.cell 2;have s2:(n.el != n.el)=false:=by simp
 generalize n.el=z2 at c2 d2 s2;have c3:w.cell? ⟨b2,3,none⟩=some (.int .i64 n.bt):=hA.cell 3;have d3:w.cell? ⟨b3,3,none⟩=some (.int .i64 n.bt):=hB.cell 3;have s3:(n.bt != n.bt)=false:=by simp
 generalize n.bt=z3 at c3 d3 s3;have c4:w.cell? ⟨b2,4,none⟩=some (.int .i64 n.tm):=hA.cell 4;have d4:w.cell? ⟨b3,4,none⟩=some (.int .i64 n.tm):=hB.cell 4;have s4:(n.tm != n.tm)=false:=by simp
 generalize n.tm=z4 at c4 d4 s4;have c5:w.cell? ⟨b2,5,none⟩=some (.int .i64 n.vo):=hA.cell 5;have d5:w.cell? ⟨b3,5,none⟩=some (.int .i64 n.vo):=hB.cell 5;have s5:(n.vo != n.vo)=false:=by simp
 generalize n.vo=z5 at c5 d5 s5;clear hA hB
 conv=>arg 2;whnf
 go_wp2_with fail
 exact hP _ _ ⟨rfl,rfl⟩ rfl rfl rfl rfl
theorem sn3 {b2 b3:Nat}{n:Nd}{x y:RV}{Q:Exit->Act->World->Prop}{K:Act->World->Prop}{a:Act}{w:World}(hF:SzD a 125)(h2:a.eval (.tmp 2)=.pointer (some ⟨b2,0,none⟩))(h3:a.eval (.tmp 3)=.pointer (some ⟨b3,0,none⟩))(hA:Blk w b2 (ndC n x) 36)(hB:Blk w b3 (ndC n y) 36)(hP:∀ a' w',SzD a' 125->a'.eval (.tmp 2)=.pointer (some ⟨b2,0,none⟩)->a'.eval (.tmp 3)=.pointer (some ⟨b3,0,none⟩)->a'.eval (.tmp 84)=.bool false->w'=w->K a' w'):(Z1 0 (Z1 2 (Z3 Tryz.f23))).wp Tryz.prog (Exit.then K Q) a w:=by
 obtain ⟨t,rfl⟩:=hF.opened;clear hF;rw [lst125]
 try dsimp only
 rw [show t 2=_ from h2,show t 3=_ from h3];clear h2 h3;have c6:w.cell? ⟨b2,6,none⟩=some (.int .i64 n.ro):=hA.cell 6;have d6:w.cell? ⟨b3,6,none⟩=some (.int .i64 n.ro):=hB.cell 6;have s6:(n.ro != n.ro)=false:=by simp
 generalize n.ro=z6 at c6 d6 s6;have c7:w.cell? ⟨b2,7,none⟩=some (.int .i64 n.ld):=hA.cell 7;have d7:w.cell? ⟨b3,7,none⟩=some (.int .i64 n.ld):=hB.cell 7;have s7:(n.ld != n.ld)=false:=by simp
 generalize n.ld=z7 at c7 d7 s7;have c8:w.cell? ⟨b2,8,none⟩=some (.int .i64 n.cm):=hA.cell 8;have d8:w.cell? ⟨b3,8,none⟩=some (.int .i64 n.cm):=hB.cell 8;have s8:(n.cm != n.cm)=false:=by simp
 generalize n.cm=z8 at c8 d8 s8;have c9:w.cell? ⟨b2,9,none⟩=some (.int .i64 n.nw):=hA.cell 9;have d9:w.cell? ⟨b3,9,none⟩=some (.int .i64 n.nw):=hB.cell 9;have s9:(n.nw != n.nw)=false:=by simp
 generalize n.nw=z9 at c9 d9 s9;have c10:w.cell? ⟨b2,10,none⟩=some (.int .i64 n.dl):=hA.cell 10;have d10:w.cell? ⟨b3,10,none⟩=some (.int .i64 n.dl):=hB.cell 10;have s10:(n.dl != n.dl)=false:=by simp
 generalize n.dl=z10 at c10 d10 s10;have c11:w.cell? ⟨b2,11,none⟩=some (.int .i64 n.hd):=hA.cell 11;have d11:w.cell? ⟨b3,11,none⟩=some (.int .i64 n.hd):=hB.cell 11;have s11:(n.hd != n.hd)=false:=by simp
 generalize n.hd=z11 at c11 d11 s11;clear hA hB
 conv=>arg 2;whnf
 go_wp2_with fail
 exact hP _ _ ⟨rfl,rfl⟩ rfl rfl rfl rfl
theorem sn5 {b2 b3:Nat}{n:Nd}{x y:RV}{B C:Nat}{Q:Exit->Act->World->Prop}{K:Act->World->Prop}{a:Act}{w:World}(hF:SzD a 125)(h2:a.eval (.tmp 2)=.pointer (some ⟨b2,0,none⟩))(h3:a.eval (.tmp 3)=.pointer (some ⟨b3,0,none⟩))(hA:Blk w b2 (ndC n x) 36)(hB:Blk w b3 (ndC n y) 36)(hX:NdO w B n x)(hY:NdO w C n y)(hl:n.log.length<=4096/\n.gr.length<=1000/\n.nx.length<=1000/\n.mt.length<=1000/\n.se.length<=1000/\n.st.length<=1000)(hP:∀ a' w',SzD a' 125->a'.eval (.tmp 4)=.bool true->(∃ m,w'=w.drewN m)->K a' w'):(Z1 3 (Z3 Tryz.f23)).wp Tryz.prog (Exit.then K Q) a w:=by
 obtain ⟨t,rfl⟩:=hF.opened;clear hF;rw [lst125]
 try dsimp only
 rw [show t 2=_ from h2,show t 3=_ from h3];clear h2 h3;obtain ⟨a0,p0,e0⟩:=hX.log.shape;obtain ⟨q0,r0,k0⟩:=hY.log.shape;have c0:∀ m,(w.drewN m).cell? ⟨b2,12,none⟩=some (.slice a0 n.log.length p0):=fun m=>by rw [<-e0];exact hA.cell 12
 have d0:∀ m,(w.drewN m).cell? ⟨b3,12,none⟩=some (.slice q0 n.log.length r0):=fun m=>by rw [<-k0];exact hB.cell 12
 have C0:w.cell? ⟨b2,12,none⟩=some (.slice a0 n.log.length p0):=c0 0;have D0:w.cell? ⟨b3,12,none⟩=some (.slice q0 n.log.length r0):=d0 0;clear c0 d0;have HL:Hid (Calls Tryz.prog 61 #[.slice a0 n.log.length p0,.slice q0 n.log.length r0] w fun e w'=>e=.returned (.bool true)/\∃ m,w'=w.drewN m):=by have h9:=sameLog_any (.slice a0 n.log.length p0) (.slice q0 n.log.length r0) n.log n.log w (by rw [<-e0];exact hX.log.es (by unfold maxLen;omega)) (by rw [<-k0];exact hY.log.es (by unfold maxLen;omega)) (by omega) (by omega);rw [sameB_self] at h9;exact h9
 generalize n.log.length=z0 at *;clear e0 k0;obtain ⟨a1,p1,e1⟩:=hX.gr.shape;obtain ⟨q1,r1,k1⟩:=hY.gr.shape;have c1:∀ m,(w.drewN m).cell? ⟨b2,13,none⟩=some (.slice a1 n.gr.length p1):=fun m=>by rw [<-e1];exact hA.cell 13
 have d1:∀ m,(w.drewN m).cell? ⟨b3,13,none⟩=some (.slice q1 n.gr.length r1):=fun m=>by rw [<-k1];exact hB.cell 13
 have HI1:Hid (∀ m,Calls Tryz.prog 62 #[.slice a1 n.gr.length p1,.slice q1 n.gr.length r1] (w.drewN m) fun e w'=>e=.returned (.bool true)/\∃ m,w'=w.drewN m):=fun m=>(Jg (.slice a1 n.gr.length p1) (.slice q1 n.gr.length r1) n.gr (w.drewN m) (by rw [<-e1];exact (Z0h (hX.gr.sl Jh (by unfold maxLen;omega))).below (X5 w m)) (by rw [<-k1];exact (Z0h (hY.gr.sl Jh (by unfold maxLen;omega))).below (X5 w m)) (by omega)).mono fun e w' ⟨h1,q,h2⟩=>⟨h1,m+q,by rw [h2,World.drewN_drewN]⟩
 generalize n.gr.length=z1 at c1 d1 HI1;clear e1 k1;obtain ⟨a2,p2,e2⟩:=hX.nx.shape;obtain ⟨q2,r2,k2⟩:=hY.nx.shape;have c2:∀ m,(w.drewN m).cell? ⟨b2,14,none⟩=some (.slice a2 n.nx.length p2):=fun m=>by rw [<-e2];exact hA.cell 14
 have d2:∀ m,(w.drewN m).cell? ⟨b3,14,none⟩=some (.slice q2 n.nx.length r2):=fun m=>by rw [<-k2];exact hB.cell 14
 have HI2:Hid (∀ m,Calls Tryz.prog 62 #[.slice a2 n.nx.length p2,.slice q2 n.nx.length r2] (w.drewN m) fun e w'=>e=.returned (.bool true)/\∃ m,w'=w.drewN m):=fun m=>(Jg (.slice a2 n.nx.length p2) (.slice q2 n.nx.length r2) n.nx (w.drewN m) (by rw [<-e2];exact (Z0h (hX.nx.sl Jh (by unfold maxLen;omega))).below (X5 w m)) (by rw [<-k2];exact (Z0h (hY.nx.sl Jh (by unfold maxLen;omega))).below (X5 w m)) (by omega)).mono fun e w' ⟨h1,q,h2⟩=>⟨h1,m+q,by rw [h2,World.drewN_drewN]⟩
 generalize n.nx.length=z2 at c2 d2 HI2;clear e2 k2;obtain ⟨a3,p3,e3⟩:=hX.mt.shape;obtain ⟨q3,r3,k3⟩:=hY.mt.shape;have c3:∀ m,(w.drewN m).cell? ⟨b2,15,none⟩=some (.slice a3 n.mt.length p3):=fun m=>by rw [<-e3];exact hA.cell 15
 have d3:∀ m,(w.drewN m).cell? ⟨b3,15,none⟩=some (.slice q3 n.mt.length r3):=fun m=>by rw [<-k3];exact hB.cell 15
 have HI3:Hid (∀ m,Calls Tryz.prog 62 #[.slice a3 n.mt.length p3,.slice q3 n.mt.length r3] (w.drewN m) fun e w'=>e=.returned (.bool true)/\∃ m,w'=w.drewN m):=fun m=>(Jg (.slice a3 n.mt.length p3) (.slice q3 n.mt.length r3) n.mt (w.drewN m) (by rw [<-e3];exact (Z0h (hX.mt.sl Jh (by unfold maxLen;omega))).below (X5 w m)) (by rw [<-k3];exact (Z0h (hY.mt.sl Jh (by unfold maxLen;omega))).below (X5 w m)) (by omega)).mono fun e w' ⟨h1,q,h2⟩=>⟨h1,m+q,by rw [h2,World.drewN_drewN]⟩
 generalize n.mt.length=z3 at c3 d3 HI3;clear e3 k3;obtain ⟨a4,p4,e4⟩:=hX.se.shape;obtain ⟨q4,r4,k4⟩:=hY.se.shape;have c4:∀ m,(w.drewN m).cell? ⟨b2,16,none⟩=some (.slice a4 n.se.length p4):=fun m=>by rw [<-e4];exact hA.cell 16
 have d4:∀ m,(w.drewN m).cell? ⟨b3,16,none⟩=some (.slice q4 n.se.length r4):=fun m=>by rw [<-k4];exact hB.cell 16
 have HI4:Hid (∀ m,Calls Tryz.prog 62 #[.slice a4 n.se.length p4,.slice q4 n.se.length r4] (w.drewN m) fun e w'=>e=.returned (.bool true)/\∃ m,w'=w.drewN m):=fun m=>(Jg (.slice a4 n.se.length p4) (.slice q4 n.se.length r4) n.se (w.drewN m) (by rw [<-e4];exact (Z0h (hX.se.sl Jh (by unfold maxLen;omega))).below (X5 w m)) (by rw [<-k4];exact (Z0h (hY.se.sl Jh (by unfold maxLen;omega))).below (X5 w m)) (by omega)).mono fun e w' ⟨h1,q,h2⟩=>⟨h1,m+q,by rw [h2,World.drewN_drewN]⟩
 generalize n.se.length=z4 at c4 d4 HI4;clear e4 k4;obtain ⟨a5,p5,e5⟩:=hX.st.shape;obtain ⟨q5,r5,k5⟩:=hY.st.shape;have c5:∀ m,(w.drewN m).cell? ⟨b2,17,none⟩=some (.slice a5 n.st.length p5):=fun m=>by rw [<-e5];exact hA.cell 17
 have d5:∀ m,(w.drewN m).cell? ⟨b3,17,none⟩=some (.slice q5 n.st.length r5):=fun m=>by rw [<-k5];exact hB.cell 17
 have HI5:Hid (∀ m,Calls Tryz.prog 62 #[.slice a5 n.st.length p5,.slice q5 n.st.length r5] (w.drewN m) fun e w'=>e=.returned (.bool true)/\∃ m,w'=w.drewN m):=fun m=>(Jg (.slice a5 n.st.length p5) (.slice q5 n.st.length r5) n.st (w.drewN m) (by rw [<-e5];exact (Z0h (hX.st.sl Jh (by unfold maxLen;omega))).below (X5 w m)) (by rw [<-k5];exact (Z0h (hY.st.sl Jh (by unfold maxLen;omega))).below (X5 w m)) (by omega)).mono fun e w' ⟨h1,q,h2⟩=>⟨h1,m+q,by rw [h2,World.drewN_drewN]⟩
 generalize n.st.length=z5 at c5 d5 HI5;clear e5 k5;have G1:True:=trivial;have G2:True:=trivial;have G3:True:=trivial;have G4:True:=trivial;have G5:True:=trivial;clear hA hB hX hY hl
 conv=>arg 2;whnf
 go_wp2_with (first
  |(go_at_call 61;refine HL.out.mono ?_;rintro e w1 ⟨rfl,m1,rfl⟩)
  |(go_at_call 62;clear G1;refine (HI1.out _).mono ?_;rintro e w1 ⟨rfl,m1,rfl⟩)
  |(go_at_call 62;clear G2;refine (HI2.out _).mono ?_;rintro e w1 ⟨rfl,m1,rfl⟩)
  |(go_at_call 62;clear G3;refine (HI3.out _).mono ?_;rintro e w1 ⟨rfl,m1,rfl⟩)
  |(go_at_call 62;clear G4;refine (HI4.out _).mono ?_;rintro e w1 ⟨rfl,m1,rfl⟩)
  |(go_at_call 62;clear G5;refine (HI5.out _).mono ?_;rintro e w1 ⟨rfl,m1,rfl⟩))
 exact hP _ _ ⟨rfl,rfl⟩ rfl ⟨_,rfl⟩
theorem sn0 {n:Nd}{x y:RV}{B C:Nat}{Q:Exit->Act->World->Prop}{K:Act->World->Prop}{a:Act}{w:World}(hF:SzD a 125)(h0:a.eval (.tmp 0)=.agg (ndC n x))(h1:a.eval (.tmp 1)=.agg (ndC n y))(hX:NdO w B n x)(hY:NdO w C n y)(hP:∀ a' w',SzD a' 125->a'.eval (.tmp 2)=.pointer (some ⟨w.heap.size,0,none⟩)->a'.eval (.tmp 3)=.pointer (some ⟨w.heap.size+1,0,none⟩)->w'=(w.alloc (.cells (ndC n x) 36)).alloc (.cells (ndC n y) 36)->K a' w'):(Z1 0 (Z3 Tryz.f23)).wp Tryz.prog (Exit.then K Q) a w:=by
 obtain ⟨t,rfl⟩:=hF.opened;clear hF;rw [lst125]
 try dsimp only
 rw [show t 0=_ from h0,show t 1=_ from h1];clear h0 h1;obtain ⟨a0,p0,e0⟩:=hX.log.shape;obtain ⟨q0,r0,k0⟩:=hY.log.shape;obtain ⟨a1,p1,e1⟩:=hX.gr.shape;obtain ⟨q1,r1,k1⟩:=hY.gr.shape;obtain ⟨a2,p2,e2⟩:=hX.nx.shape;obtain ⟨q2,r2,k2⟩:=hY.nx.shape;obtain ⟨a3,p3,e3⟩:=hX.mt.shape;obtain ⟨q3,r3,k3⟩:=hY.mt.shape;obtain ⟨a4,p4,e4⟩:=hX.se.shape;obtain ⟨q4,r4,k4⟩:=hY.se.shape;obtain ⟨a5,p5,e5⟩:=hX.st.shape;obtain ⟨q5,r5,k5⟩:=hY.st.shape;have eX:ndC n x=#[.int .i64 n.id,.int .i64 n.sz,.int .i64 n.el,.int .i64 n.bt,.int .i64 n.tm,.int .i64 n.vo,.int .i64 n.ro,.int .i64 n.ld,.int .i64 n.cm,.int .i64 n.nw,.int .i64 n.dl,.int .i64 n.hd,.slice a0 n.log.length p0,.slice a1 n.gr.length p1,.slice a2 n.nx.length p2,.slice a3 n.mt.length p3,.slice a4 n.se.length p4,.slice a5 n.st.length p5]:=by unfold ndC;rw [e0,e1,e2,e3,e4,e5]
 have eY:ndC n y=#[.int .i64 n.id,.int .i64 n.sz,.int .i64 n.el,.int .i64 n.bt,.int .i64 n.tm,.int .i64 n.vo,.int .i64 n.ro,.int .i64 n.ld,.int .i64 n.cm,.int .i64 n.nw,.int .i64 n.dl,.int .i64 n.hd,.slice q0 n.log.length r0,.slice q1 n.gr.length r1,.slice q2 n.nx.length r2,.slice q3 n.mt.length r3,.slice q4 n.se.length r4,.slice q5 n.st.length r5]:=by unfold ndC;rw [k0,k1,k2,k3,k4,k5]
 rw [eX,eY] at hP ⊢;clear eX eY hX hY e0 k0 e1 k1 e2 k2 e3 k3 e4 k4 e5 k5
 conv=>arg 2;whnf
 go_wp2_with fail
 exact hP _ _ ⟨rfl,rfl⟩ rfl rfl rfl
theorem Z1s (n:Nd)(x y:RV)(B C:Nat)(w:World)(hX:NdO w B n x)(hY:NdO w C n y)(hl:n.log.length<=4096/\n.gr.length<=1000/\n.nx.length<=1000/\n.mt.length<=1000/\n.se.length<=1000/\n.st.length<=1000) :
  Calls Tryz.prog 23 #[.agg (ndC n x),.agg (ndC n y)] w fun e w'=>e=.returned (.bool true)/\Below w.heap.size w w':=by
 go_enter Tryz.func23,Tryz.ntmps23;show (Z3 Tryz.f23).wp Tryz.prog _ _ _;rw [show Z3 Tryz.f23=.seq (Z1 0 (Z3 Tryz.f23)) (.seq (.seq (Z1 0 (Z1 1 (Z3 Tryz.f23))) (.cond (.tmp 44) (Zj (Z2 1 (Z1 1 (Z3 Tryz.f23)))) .skip)) (.seq (.seq (Z1 0 (Z1 2 (Z3 Tryz.f23))) (.cond (.tmp 84) (Zj (Z2 1 (Z1 2 (Z3 Tryz.f23)))) .skip)) (.seq (Z1 3 (Z3 Tryz.f23)) .ret))) from rfl];refine wp_seq_k ?_;intro K1 hK1;refine sn0 ⟨rfl,rfl⟩ rfl rfl hX hY fun a1 w1 f1 g2 g3 e1=>hK1 _ _ ?_
 have hb1:Below w.heap.size w w1:=by rw [e1];exact ((Below.refl _ _).alloc (Nat.le_refl _) _).alloc (by simp) _
 have hA:Blk w1 w.heap.size (ndC n x) 36:=by rw [e1];exact (Blk.new _ _ _).alloc _
 have hB:Blk w1 (w.heap.size+1) (ndC n y) 36:=by
  rw [e1];have h9:=Blk.new (w.alloc (.cells (ndC n x) 36)) (ndC n y) 36;simpa using h9
 have hX1:=hX.keep fun q _ h2=>hb1.block q h2
 have hY1:=hY.keep fun q _ h2=>hb1.block q h2
 clear e1;refine wp_seq_k ?_;intro K2 hK2;refine wp_seq_k ?_;intro K3 hK3;refine sn1 f1 g2 g3 hA hB fun a2 w2 f2 i2 i3 u2 e2=>hK3 _ _ ?_
 subst e2;refine wp_cond u2 (wp_skip (hK2 _ _ ?_));refine wp_seq_k ?_;intro K4 hK4;refine wp_seq_k ?_;intro K5 hK5;refine sn3 f2 i2 i3 hA hB fun a3 w3 f3 j2 j3 u3 e3=>hK5 _ _ ?_
 subst e3;refine wp_cond u3 (wp_skip (hK4 _ _ ?_));refine wp_seq_k ?_;intro K6 hK6;refine sn5 f3 j2 j3 hA hB hX1 hY1 hl fun a4 w4 f4 u4 e4=>hK6 _ _ ?_
 obtain ⟨m,rfl⟩:=e4;obtain ⟨t,rfl⟩:=f4.opened;exact wp_ret (bodyPost_ret (Z2d Tryz.results23 u4) rfl ⟨rfl,hb1.trans ((X5 _ m).mono hb1.size)⟩)
end Go.Proofs.YtmmpoppgabadmaaGreat
