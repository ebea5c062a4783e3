import Derived.Test.YtmmpoppgabadmaaGreatRows
import Derived.WalkKit
import Derived.WalkSpells
import Derived.RowKit3
import Derived.Below
import Derived.Deep.Light
import Derived.Deep.QuietTactic
import Derived.BigQuiet
import Derived.Deep.MidRow
import Derived.Deep.WholeRow
import Derived.Laws.OwnMore
import Derived.Laws.BitsAllLaws
import Derived.OwnWalk
import Derived.Lib.AppendStr
import Derived.Maps.AppendAt
import Derived.Deep.RegionHeld3
import Derived.Orders
import Derived.Deep.RegionLaw
set_option linter.unusedVariables false
set_option linter.unusedSimpArgs false
set_option maxRecDepth 100000
set_option maxHeartbeats 16000000
namespace Go.Proofs.YtmmpoppgabadmaaGreat
open Go.RowKit
theorem Z0o {W w1:World}(hb:Below W.heap.size W w1):(∀ b o,b<W.heap.size->w1.cell? ⟨b,o,none⟩=W.cell? ⟨b,o,none⟩)/\(∀ b o,b<W.heap.size->w1.frozen? ⟨b,o,none⟩=W.frozen? ⟨b,o,none⟩):=
 ⟨fun b o h=>hb.cell (p:=⟨b,o,none⟩) h,fun b o h=>hb.frozen (p:=⟨b,o,none⟩) h⟩
theorem Xu {k:IntKind}{a b:Int}(h:a=b):Ending.returned (.int k a)=.returned (.int k b):=by rw [h]
theorem ifc {α:Type}{p q:Prop}[Decidable p][Decidable q]{a b c d:α}(h:p↔q)(h1:a=c)(h2:b=d):(if p then a else b)=if q then c else d:=by
 subst h1 h2;by_cases hp:p
 ·rw [if_pos hp,if_pos (h.1 hp)]
 ·rw [if_neg hp,if_neg (fun hq=>hp (h.2 hq))]
theorem sw {f:FuncId}{a:Array Value}{w:World}{V:Ending}(h:Calls Tryz.prog f a w fun e w'=>e=V/\w'=w){Q:Ending->World->Prop}(k:Q V w):Calls Tryz.prog f a w Q:=h.mono (by rintro e w' ⟨rfl,rfl⟩;exact k)
def Bs (w:World)(v:Value)(l:List Int):Prop:=
 l.length<=maxLen/\(∀ x∈l,0<=x/\x<=255) /\
 ∃ a cap,v=.slice a l.length cap/\∀ i,i<l.length->∃ b off,a=some ⟨b,off,none⟩/\∀ j,j<l.length->w.cell? ⟨b,off+j,none⟩=some (.int .u8 (l[j]?.getD 0))
theorem byte_at {l:List Int}(h:∀ x∈l,0<=x/\x<=255)(k:Nat):0<=l[k]?.getD 0/\l[k]?.getD 0<=255:=by
 rcases Nat.lt_or_ge k l.length with hk | hk
 ·rw [List.getElem?_eq_getElem hk];exact h _ (List.getElem_mem hk)
 ·rw [List.getElem?_eq_none hk];simp
theorem X7 {w:World}{b o:Nat}{v:Value}(h:w.cell? ⟨b,o,none⟩=some v):b<w.heap.size:=by
 rcases Nat.lt_or_ge b w.heap.size with h' | h'
 ·exact h'
 ·rw [World.cell?,Array.getElem?_eq_none h'] at h;simp at h
theorem Bs.below {w w':World}{v:Value}{l:List Int}(h:Bs w v l)(hb:Below w.heap.size w w'):Bs w' v l:=by
 obtain ⟨hl,h8,a,cap,rfl,hc⟩:=h;refine ⟨hl,h8,a,cap,rfl,fun i hi=>?_⟩;obtain ⟨b,off,rfl,hj⟩:=hc i hi;exact ⟨b,off,rfl,fun j hj'=>by rw [hb.cell (X7 (hj j hj'))];exact hj j hj'⟩
structure Ent where
 t:Int
 cl:Int
 sq:Int
 op:Int
 k:ByteArray
 v:ByteArray
 o:ByteArray
def Ent.fits (e:Ent):Prop:=e.k.size<=maxLen/\e.v.size<=maxLen/\e.o.size<=maxLen
def Jc (w:World)(b off:Nat)(e:Ent):Prop:=
 w.cell? ⟨b,off,none⟩=some (.int .i64 e.t)/\w.cell? ⟨b,off+1,none⟩=some (.int .i64 e.cl)/\w.cell? ⟨b,off+2,none⟩=some (.int .i64 e.sq)/\w.cell? ⟨b,off+3,none⟩=some (.int .i64 e.op) /\
 w.cell? ⟨b,off+4,none⟩=some (.string e.k)/\w.cell? ⟨b,off+5,none⟩=some (.string e.v)/\w.cell? ⟨b,off+6,none⟩=some (.string e.o)
theorem Jc.below {w w':World}{b off:Nat}{e:Ent}(h:Jc w b off e)(hb:Below w.heap.size w w'):Jc w' b off e:=by
 obtain ⟨h0,h1,h2,h3,h4,h5,h6⟩:=h;have hl:=X7 h0;exact ⟨(hb.cell hl).trans h0,(hb.cell hl).trans h1,(hb.cell hl).trans h2,(hb.cell hl).trans h3,(hb.cell hl).trans h4,(hb.cell hl).trans h5,(hb.cell hl).trans h6⟩
def Es (w:World)(v:Value)(l:List Ent):Prop:=
 l.length<=maxLen/\(∀ e∈l,e.fits) /\
 ∃ a cap,v=.slice a l.length cap/\∀ i,i<l.length->∃ b off,a=some ⟨b,off,none⟩/\∀ j (h:j<l.length),Jc w b (off+j*7) l[j]
theorem Es.below {w w':World}{v:Value}{l:List Ent}(h:Es w v l)(hb:Below w.heap.size w w'):Es w' v l:=by
 obtain ⟨hl,hf,a,cap,rfl,hc⟩:=h;refine ⟨hl,hf,a,cap,rfl,fun i hi=>?_⟩;obtain ⟨b,off,rfl,hj⟩:=hc i hi;exact ⟨b,off,rfl,fun j hj'=>(hj j hj').below hb⟩
def inB (n lo hi:Int):Bool:=decide (lo<=n) && decide (n<=hi)
theorem Zs (n lo hi:Int):inB n lo hi=true↔lo<=n/\n<=hi:=by simp [inB]
theorem Jt (n lo hi:Int):inB n lo hi=false↔(n<lo∨hi<n):=by
 by_cases h1:lo<=n <;> by_cases h2:n<=hi <;> simp [inB,h1,h2] <;> omega
theorem Zb (n lo hi:Int)(w:World) :
  Calls Tryz.prog 70 #[.int .i64 n,.int .i64 lo,.int .i64 hi] w fun e w'=>e=.returned (.bool (inB n lo hi))/\w'=w:=by
 by_cases h1:lo<=n
 ·by_cases h2:n<=hi
  ·have hb:inB n lo hi=true:=by simp [inB,h1,h2]
   rw [hb];go_enter Tryz.func70,Tryz.ntmps70;go_wp2;go_ret;exact ⟨rfl,rfl⟩
  ·have hb:inB n lo hi=false:=by simp [inB,h1];omega
   rw [hb];go_enter Tryz.func70,Tryz.ntmps70;go_wp2;go_ret;exact ⟨by simp,rfl⟩
 ·have hb:inB n lo hi=false:=by simp [inB];omega
  rw [hb];go_enter Tryz.func70,Tryz.ntmps70;go_wp2;go_ret;exact ⟨rfl,rfl⟩
theorem Z6 (n lo hi:Int)(w:World) :
  Calls Tryz.prog 56 #[.int .i64 n,.int .i64 lo,.int .i64 hi] w fun e w'=>e=.returned (.bool (inB n lo hi))/\w'=w:=by
 by_cases h1:lo<=n
 ·by_cases h2:n<=hi
  ·have hb:inB n lo hi=true:=by simp [inB,h1,h2]
   rw [hb];go_enter Tryz.func56,Tryz.ntmps56;go_wp2;go_ret;exact ⟨rfl,rfl⟩
  ·have hb:inB n lo hi=false:=by simp [inB,h1];omega
   rw [hb];go_enter Tryz.func56,Tryz.ntmps56;go_wp2;go_ret;exact ⟨by simp,rfl⟩
 ·have hb:inB n lo hi=false:=by simp [inB];omega
  rw [hb];go_enter Tryz.func56,Tryz.ntmps56;go_wp2;go_ret;exact ⟨rfl,rfl⟩
theorem tmod_lo (x n:Int)(hn:0<n) : -n<x.tmod n:=Int.lt_tmod_of_pos x hn
theorem tmod_hi (x n:Int)(hn:0<n):x.tmod n<n:=Int.tmod_lt_of_pos x hn
theorem tmod_neg (x n:Int)(hn:0<n)(h:x.tmod n<0):x.tmod n+n=x%n:=by
 have e:=Int.tmod_add_mul_tdiv x n;have b1:=tmod_lo x n hn;have hx:x=(x.tmod n+n)+n*(x.tdiv n-1):=by rw [Int.mul_sub];omega
 have:x%n=((x.tmod n+n)+n*(x.tdiv n-1))%n:=by rw [<-hx]
 rw [this,Int.add_mul_emod_self_left,Int.emod_eq_of_lt] <;> omega
theorem tmod_pos (x n:Int)(hn:0<n)(h:¬ x.tmod n<0):x.tmod n=x%n:=by
 have e:=Int.tmod_add_mul_tdiv x n;have b2:=tmod_hi x n hn;have:x%n=(x.tmod n+n*x.tdiv n)%n:=by rw [e]
 rw [this,Int.add_mul_emod_self_left,Int.emod_eq_of_lt] <;> omega
def modI (x n:Int):Int:=x%n
theorem modI_ge (x n:Int)(hn:0<n):0<=modI x n:=Int.emod_nonneg _ (by omega)
theorem modI_lt (x n:Int)(hn:0<n):modI x n<n:=Int.emod_lt_of_pos _ hn
theorem mod_any (x n:Int)(hn:0<n)(hN:n<2^62)(hx : -(2^63)<=x)(hX:x<2^63)(w:World) :
  Calls Tryz.prog 195 #[.int .i64 x,.int .i64 n] w fun e w'=>e=.returned (.int .i64 (modI x n))/\w'=w:=by
 have b1:=tmod_lo x n hn;have b2:=tmod_hi x n hn;by_cases h:x.tmod n<0
 ·have hb:=tmod_neg x n hn h
  unfold modI;rw [<-hb];go_enter Tryz.func195,Tryz.ntmps195;go_wp2;go_ret;exact ⟨by simp;omega,rfl⟩
 ·have hb:=tmod_pos x n hn h
  unfold modI;rw [<-hb];go_enter Tryz.func195,Tryz.ntmps195;go_wp2;go_ret;exact ⟨by simp,rfl⟩
theorem l1mod_any (x n:Int)(hn:0<n)(hN:n<2^62)(hx : -(2^63)<=x)(hX:x<2^63)(w:World) :
  Calls Tryz.prog 141 #[.int .i64 x,.int .i64 n] w fun e w'=>e=.returned (.int .i64 (modI x n))/\w'=w:=by
 have b1:=tmod_lo x n hn;have b2:=tmod_hi x n hn;by_cases h:x.tmod n<0
 ·have hb:=tmod_neg x n hn h
  unfold modI;rw [<-hb];go_enter Tryz.func141,Tryz.ntmps141;go_wp2;go_ret;exact ⟨by simp;omega,rfl⟩
 ·have hb:=tmod_pos x n hn h
  unfold modI;rw [<-hb];go_enter Tryz.func141,Tryz.ntmps141;go_wp2;go_ret;exact ⟨by simp,rfl⟩
def Xg (el dr:Int):Int:=if inB el 1 1000=true then el+modI dr el else 0
theorem toutC_in {el:Int}(dr:Int)(h:inB el 1 1000=true):Xg el dr=el+modI dr el:=by unfold Xg;rw [if_pos h]
theorem toutC_out {el:Int}(dr:Int)(h:inB el 1 1000=false):Xg el dr=0:=by unfold Xg;rw [h];rfl
theorem timeoutOf_any (el dr:Int)(hx : -(2^63)<=dr)(hX:dr<2^63)(w:World) :
  Calls Tryz.prog 179 #[.int .i64 el,.int .i64 dr] w fun e w'=>e=.returned (.int .i64 (Xg el dr))/\w'=w:=by
 cases hi:inB el 1 1000
 ·rw [toutC_out dr hi]
  go_enter Tryz.func179,Tryz.ntmps179
  go_wp2_with (go_at_call 70;refine (Zb _ _ _ _).mono ?_;rintro e w1 ⟨rfl,rfl⟩)
  go_ret;exact ⟨rfl,rfl⟩
 ·rw [toutC_in dr hi]
  have h2:=(Zs _ _ _).mp hi;have m1:=modI_ge dr el (by omega);have m2:=modI_lt dr el (by omega);go_enter Tryz.func179,Tryz.ntmps179
  go_wp2_with (first
   |(go_at_call 70;refine (Zb _ _ _ _).mono ?_;rintro e w1 ⟨rfl,rfl⟩)
   |(go_at_call 195;refine (mod_any dr el (by omega) (by omega) hx hX _).mono ?_;rintro e w1 ⟨rfl,rfl⟩))
  go_ret;exact ⟨rfl,rfl⟩
structure Nd where
 id:Int
 sz:Int
 el:Int
 bt:Int
 tm:Int
 vo:Int
 ro:Int
 ld:Int
 cm:Int
 nw:Int
 dl:Int
 hd:Int
 log:List Ent
 gr:List Int
 nx:List Int
 mt:List Int
 se:List Int
 st:List Int
structure Mg where
 ki:Int
 fr:Int
 td:Int
 tm:Int
 li:Int
 lt:Int
 cm:Int
 ok:Int
 hi:Int
 es:List Ent
structure Rn where
 n:Nd
 out:List Mg
 code:Int
 drew:Int
 draw:Int
def mg0:Mg:=⟨0,0,0,0,0,0,0,0,0,[]⟩
def Rn.timer (r:Rn):Rn:={ r with n:={ r.n with dl:=r.n.nw+Xg r.n.el r.draw },drew:=1 }
def Xy (l:List Ent)(p:Nat):Int:=if p=0 then 0 else (l[p-1]?.map (·.t)).getD 0
def Yn (l:List Ent):Int:=Xy l l.length
def utd (l:List Ent)(m:Mg):Bool:=decide (Yn l<m.lt) || (decide (m.lt=Yn l) && decide ((l.length:Int)<=m.li))
def loyB (n:Nd):Bool:=n.ro == 3 || (n.ld != 0 && decide (n.nw-n.hd<n.el))
def Rn.lone (r:Rn):Rn:={ r with n:={ r.n with nx:=[],mt:=[],se:=[],st:=[],gr:=[],ld:=0,ro:=0 } }
def Rn.adopt (r:Rn)(t:Int):Rn:=
 if r.n.ro=3 then Rn.timer { r.lone with n:={ r.lone.n with tm:=t,vo:=0 } } else { r.lone with n:={ r.lone.n with tm:=t,vo:=0 } }
def Rn.send (r:Rn)(m:Mg):Rn:={ r with out:=r.out ++ [{ m with fr:=r.n.id }] }
def Rn.allK (m:Mg):Nat->Rn->Rn
 | 0,r=>r
 | k+1,r=>if (k:Int)+1=r.n.id then Rn.allK m k r else (Rn.allK m k r).send { m with td:=(k:Int)+1 }
def Jp (n:Nd)(j:Nat):Mg:=
 ⟨5,0,(j:Int)+1,n.tm,n.nx.getD j 0-1,Xy n.log (n.nx.getD j 0-1).toNat,n.cm,0,0,(n.log.drop (n.nx.getD j 0-1).toNat).take 32⟩
def Rn.sendE (r:Rn)(j:Nat):Rn:={ r.send (Jp r.n j) with n:={ r.n with st:=r.n.st.set j r.n.nw } }
def Rn.sendK:Nat->Rn->Rn
 | 0,r=>r
 | k+1,r=>if (k:Int)+1=r.n.id then Rn.sendK k r else (Rn.sendK k r).sendE k
def Rn.sendAll (r:Rn):Rn:=r.sendK r.n.sz.toNat
def Yh (n:Nd):Nat->Nat
 | 0=>0
 | k+1=>Yh n k+if (k:Int)+1≠n.id/\n.nw-n.se.getD k 0<n.el then 1 else 0
def Rn.beatK:Nat->Rn->Rn
 | 0,r=>r
 | k+1,r=>if (k:Int)+1≠r.n.id/\r.n.bt<=r.n.nw-(Rn.beatK k r).n.st.getD k 0 then (Rn.beatK k r).sendE k else Rn.beatK k r
def Z0c (k:Int)(sz:Int):Bool:=decide (sz<2*k)
def Rn.tick (r0:Rn):Rn:=
 if r0.n.nw=1099511627776 then { r0 with code:=7 }
 else
  let r:Rn:={ r0 with n:={ r0.n with nw:=r0.n.nw+1 } }
  if r.n.ro=3 then
   (if Z0c (1+(Yh r.n r.n.sz.toNat:Int)) r.n.sz=true then r.beatK r.n.sz.toNat else r.lone.timer)
  else if r.n.nw<r.n.dl then r
  else if r.n.tm=1073741824 then r.lone.timer
  else Rn.allK ⟨1,0,0,r.n.tm+1,r.n.log.length,Yn r.n.log,0,0,0,[]⟩ r.n.sz.toNat { r.lone.timer with n:={ r.lone.timer.n with ro:=1,gr:=[r.n.id] } }
def grantK (gr:List Int)(fr:Int):Nat->List Int
 | 0=>[]
 | k+1=>grantK gr fr k ++ if (k:Int)+1=fr∨(k:Int)+1∈gr then [(k:Int)+1] else []
def Rn.preAsk (r:Rn)(m:Mg):Rn:=
 if loyB r.n=true then { r with code:=2 }
 else if r.n.tm<m.tm/\utd r.n.log m=true then r.send ⟨2,0,m.fr,m.tm,0,0,0,1,0,[]⟩
 else r.send ⟨2,0,m.fr,r.n.tm,0,0,0,0,0,[]⟩
def Rn.higher (r:Rn)(t:Int):Rn:=if r.n.tm<t then r.adopt t else r
def Rn.voteAsk (r0:Rn)(m:Mg):Rn:=
 if loyB r0.n=true then { r0 with code:=2 }
 else
  let r:=r0.higher m.tm
  if m.tm=r.n.tm/\(r.n.vo=0∨r.n.vo=m.fr)/\utd r.n.log m=true then Rn.send (Rn.timer { r.lone with n:={ r.lone.n with vo:=m.fr } }) ⟨4,0,m.fr,r.n.tm,0,0,0,1,0,[]⟩
  else r.send ⟨4,0,m.fr,r.n.tm,0,0,0,0,0,[]⟩
def Rn.stale (r:Rn):Rn:={ r with code:=3 }
def Rn.takeTerm (r:Rn)(t:Int):Rn:=if r.n.tm<t then r.adopt t else r.stale
def Rn.preReply (r:Rn)(m:Mg):Rn:=
 if m.ok=0 then r.takeTerm m.tm
 else if r.n.ro≠1∨m.tm≠r.n.tm+1∨m.fr∈r.n.gr then r.stale
 else
  let g:=grantK r.n.gr m.fr r.n.sz.toNat
  if Z0c g.length r.n.sz=true then
   let r2:Rn:=Rn.timer { r with n:={ r.n with tm:=r.n.tm+1,vo:=r.n.id,ro:=2,gr:=[r.n.id] } }
   Rn.allK ⟨3,0,0,r.n.tm+1,r.n.log.length,Yn r.n.log,0,0,0,[]⟩ r.n.sz.toNat r2
  else { r with n:={ r.n with gr:=g } }
def leadL (id:Int)(k:Nat)(x:Int):List Int:=(List.range k).map fun (i:Nat)=>if (i:Int)+1=id then 0 else x
def Rn.lead (r:Rn):Rn:=
 let s:=r.n.sz.toNat
 let n2:Nd:={ r.lone.n with ro:=3,ld:=r.n.id,nx:=leadL r.n.id s ((r.n.log.length:Int)+1),mt:=leadL r.n.id s 0,se:=leadL r.n.id s r.n.nw,st:=leadL r.n.id s r.n.nw,log:=if r.n.log.length<4096 then r.n.log ++ [⟨r.n.tm,0,0,0,⟨#[]⟩,⟨#[]⟩,⟨#[]⟩⟩] else r.n.log }
 Rn.sendAll { r with n:=n2 }
def Rn.voteReply (r:Rn)(m:Mg):Rn:=
 if r.n.tm<m.tm then r.adopt m.tm
 else if r.n.ro≠2∨m.tm≠r.n.tm∨m.ok≠1∨m.fr∈r.n.gr then r.stale
 else
  let g:=grantK r.n.gr m.fr r.n.sz.toNat
  if Z0c g.length r.n.sz=true then r.lead else { r with n:={ r.n with gr:=g } }
def partsP (log:List Ent)(p:Nat):List Ent->Nat
 | []=>0
 | e :: es=>if (log[p]?.map (·.t))=some e.t then partsP log (p+1) es+1 else 0
def Rn.append (r0:Rn)(m:Mg):Rn:=
 if m.tm<r0.n.tm then r0.send ⟨6,0,m.fr,r0.n.tm,m.li,0,0,0,0,[]⟩
 else
  let r1:=r0.higher m.tm
  if r1.n.ro=3 then r1.stale
  else
   let r:Rn:=Rn.timer { r1.lone with n:={ r1.lone.n with ld:=m.fr,hd:=r1.n.nw } }
   if r.n.log.length<m.li.toNat∨(0<m.li/\Xy r.n.log m.li.toNat≠m.lt) then r.send ⟨6,0,m.fr,r.n.tm,m.li,0,0,0,min (r.n.log.length:Int) (m.li-1),[]⟩
   else
    let i:=partsP r.n.log m.li.toNat m.es
    if i<m.es.length/\m.li+i+1<=r.n.cm then r.stale
    else
     let log:=if i<m.es.length then r.n.log.take (m.li.toNat+i) ++ m.es.drop i else r.n.log
     Rn.send { r with n:={ r.n with log:=log,cm:=max r.n.cm (min m.cm (m.li+m.es.length)) } } ⟨6,0,m.fr,r.n.tm,m.li+m.es.length,0,0,1,0,[]⟩
def holdK (n:Nd)(p:Int):Nat->Nat
 | 0=>0
 | k+1=>holdK n p k+if (k:Int)+1≠n.id/\p<=n.mt.getD k 0 then 1 else 0
def agreedP (n:Nd)(p:Nat):Bool:=Z0c (1+(holdK n p n.sz.toNat:Int)) n.sz && decide (Xy n.log p=n.tm)
def commitP (n:Nd)(lo:Nat):Nat->Nat
 | 0=>lo
 | k+1=>if k+1<=lo then lo else if agreedP n (k+1)=true then k+1 else commitP n lo k
def Rn.appReply (r:Rn)(m:Mg):Rn:=
 if r.n.tm<m.tm then r.adopt m.tm
 else if r.n.ro≠3∨m.tm<r.n.tm then r.stale
 else
  let f:=(m.fr-1).toNat
  let r1:Rn:={ r with n:={ r.n with se:=r.n.se.set f r.n.nw } }
  if m.ok=0 then
   (if m.li≠r.n.nx.getD f 0-1 then r1.stale
    else Rn.sendE { r1 with n:={ r1.n with nx:=r1.n.nx.set f (max (r.n.mt.getD f 0+1) (min m.hi (m.li-1)+1)) } } f)
  else if (r.n.log.length:Int)<m.li then r1.stale
  else
   let mt:=max (r.n.mt.getD f 0) m.li
   let nx:=max (r.n.nx.getD f 0) (mt+1)
   let n2:Nd:={ r1.n with mt:=r1.n.mt.set f mt,nx:=r1.n.nx.set f nx }
   let r3:Rn:={ r1 with n:={ n2 with cm:=(commitP n2 n2.cm.toNat n2.log.length:Int) } }
   if nx<=r.n.log.length then r3.sendE f else r3
def Rn.message (r:Rn)(bad:Bool)(m:Mg):Rn:=
 if bad=true∨m.td≠r.n.id∨r.n.sz<m.fr then { r with code:=1 }
 else if m.ki=1 then r.preAsk m
 else if m.ki=2 then r.preReply m
 else if m.ki=3 then r.voteAsk m
 else if m.ki=4 then r.voteReply m
 else if m.ki=5 then r.append m
 else r.appReply m
def Rn.propose (r:Rn)(bad:Bool)(cl sq op:Int)(k v o:ByteArray):Rn:=
 if bad=true then { r with code:=6 }
 else if r.n.ro≠3 then { r with code:=4 }
 else if 4096<=r.n.log.length then { r with code:=5 }
 else Rn.sendAll { r with n:={ r.n with log:=r.n.log ++ [⟨r.n.tm,cl,sq,op,k,v,o⟩] } }
def Sl {α:Type}(cs:α->List Value)(m:Nat)(w:World)(v:Value)(l:List α):Prop:=
 l.length<=maxLen/\∃ a cap,v=.slice a l.length cap/\∀ i,i<l.length->∃ b off,a=some ⟨b,off,none⟩/\∀ j (h:j<l.length),w.rangeAt b (off+j*m) (cs l[j])
theorem Z1e (w:World)(cs:List Value)(t:TypeId):(w.alloc (.cells cs.toArray t)).rangeAt w.heap.size 0 cs:=by
 intro j v hj;rw [Nat.zero_add,World.cell?_alloc_new];simpa using hj
theorem row_le {j k n m:Nat}(h:j<k)(hk:k<=n):j*m+m<=n*m:=by
 have:=Nat.mul_le_mul_right m (show j+1<=n by omega)
 rwa [Nat.succ_mul] at this
theorem infoU8:(Tryz.prog.info? 5).map (fun i=>(i.zero,i.size,i.bytes))=some (some (.int .u8 0),1,1):=by kernel_rfl
def Own (w:World)(B:Nat)(v:Value)(l:List Int):Prop:=
 (∀ x∈l,0<=x/\x<=255)/\w.ownsRow B 5 1 v l.length (l.map (Value.int .u8))
theorem Own.shape {w:World}{B:Nat}{v:Value}{l:List Int}(h:Own w B v l):∃ a cap,v=.slice a l.length cap:=by
 rcases h.2.2 with ⟨rfl,h0⟩ | ⟨g,cap,cur,rfl,_⟩
 ·exact ⟨none,0,by rw [h0]⟩
 ·exact ⟨_,_,rfl⟩
theorem Own.shape' {w:World}{B:Nat}{v:Value}{l:List Int}(h:Own w B v l)(hl:0<l.length):∃ g cap,v=.slice (some ⟨g,0,none⟩) l.length cap:=by
 rcases h.2.2 with ⟨rfl,h0⟩ | ⟨g,cap,cur,rfl,_⟩
 ·omega
 ·exact ⟨_,_,rfl⟩
theorem heap_lt {w:World}{g:Nat}{o:Obj}(h:w.heap[g]? = some o):g<w.heap.size:=by
 rcases Nat.lt_or_ge g w.heap.size with h' | h'
 ·exact h'
 ·rw [Array.getElem?_eq_none h'] at h;cases h
theorem Own.below {w w':World}{B:Nat}{v:Value}{l:List Int}(h:Own w B v l)(hb:Below w.heap.size w w'):Own w' B v l:=by
 refine ⟨h.1,h.2.1,?_⟩;rcases h.2.2 with h | ⟨g,cap,cur,hv,hg,hh,r⟩
 ·exact .inl h
 ·exact .inr ⟨g,cap,cur,hv,hg,(hb.block g (heap_lt hh)).trans hh,r⟩
theorem Ju (b o j:Nat):(⟨b,o,none⟩:Addr).add j=⟨b,o+j,none⟩:=by
 unfold Addr.add;split
 ·next h=>subst h;rfl
 ·rfl
theorem Own.bs {w:World}{B:Nat}{v:Value}{l:List Int}(h:Own w B v l)(hl:l.length<=maxLen):Bs w v l:=by
 obtain ⟨a,cap,rfl⟩:=h.shape;refine ⟨hl,h.1,a,cap,rfl,fun i hi=>?_⟩;obtain ⟨g,cap',e⟩:=h.shape' (by omega);simp only [Value.slice.injEq] at e;obtain ⟨rfl,_,rfl⟩:=e;refine ⟨g,0,rfl,fun j hj=>?_⟩;have:=h.2.cellAt j (by omega);rw [Nat.zero_add,this];simp [hj]
theorem Own.lit (w:World)(l:List Int)(cs:Array Value)(hc:cs.toList=l.map (Value.int .u8))(h8:∀ x∈l,0<=x/\x<=255)(hl:l.length<=maxLen) :
  Own (w.alloc (.cells cs 5)) w.heap.size (.slice (some ⟨w.heap.size,0,none⟩) l.length l.length) l:=by
 have hs:cs.size=l.length:=by rw [<-Array.length_toList,hc,List.length_map]
 refine ⟨h8,by simp,.inr ⟨w.heap.size,l.length,cs,rfl,Nat.le_refl _,?_,Nat.le_refl _,hl,by omega,?_⟩⟩
 ·show (w.heap.push _)[_]? = _
  simp
 ·rw [hc,List.take_of_length_le (by simp)]
structure Xa (w:World) (v:Value) (w':World) (v':Value):Prop where
 g:w.grownBy w' v.ownBlock
 at':v'.ownBlock=v.ownBlock∨∃ k,v'.ownBlock=some k/\w.heap.size<=k
theorem Xa.below {B:Nat}{w w':World}{v v':Value}{l:List Int}(h:Xa w v w' v')(hown:Own w B v l)(hB:B<=w.heap.size):Below B w w':=
 (Below.refl _ _).grown h.g hB (fun k hk=>(hown.2.lt k hk).1)
theorem Xa.block {w w':World}{v v':Value}(h:Xa w v w' v'){k:Nat}(hk:k<w.heap.size)(hne:v.ownBlock≠some k):w'.heap[k]? = w.heap[k]?:=h.g.block k hk (fun e=>hne e.symm)
theorem wpl_append {w:World}{ops:Array Oper}{rest:List Oper}{o:Oper}{a:Act}{Q:Exit->Act->World->Prop}(hgd:o.guard=none)(s x:Operand)
  (ho:o.op=.call { callee:=.builtin .append,args:=#[s,x],argTypes:=#[55,55] })
  {B:Nat} {v u:Value} {l l2:List Int} (hown:Own w B v l) (hs:a.eval s=v) (hu:Bs w u l2) (hx:a.eval x=u) (hne:0<l2.length) (hlen:l.length+l2.length<=1073741824) (hB:B<=w.heap.size)
  (h:∀ v' w',Own w' B v' (l ++ l2)->Xa w v w' v'->wpList Tryz.prog ops Q rest (a.put o.dst v') w'):wpList Tryz.prog ops Q (o :: rest) a w:=by
 obtain ⟨i0,hi,hz0,hz1,hz2⟩:=info_parts infoU8;obtain ⟨_,h8,au,cu,rfl,hc⟩:=hu;obtain ⟨b,off,rfl,X6⟩:=hc 0 hne;refine wpList_append_own_at w hgd s x 55 ho B 5 i0 (.int .u8 0) 1 1 Tryz.underlying55 hi hz0 hz1 hz2 rfl (by decide) v l.length _ hs hown.2 ⟨b,off,none⟩ l2.length cu (l2.map (Value.int .u8)) hx (by simp) ?_ ?_ (by unfold maxLen;omega) (by omega) hB ?_
 ·intro j u hj
  rw [Ju];rw [List.getElem?_map] at hj
  cases hk:l2[j]? with
  | none=>rw [hk] at hj;cases hj
  | some y=>
   rw [hk] at hj
   have hjl:j<l2.length:=by
    rcases Nat.lt_or_ge j l2.length with h' | h'
    ·exact h'
    ·rw [List.getElem?_eq_none h'] at hk;cases hk
   rw [X6 j hjl,hk];exact hj
 ·intro u hu
  simp only [List.mem_map] at hu;obtain ⟨y,_,rfl⟩:=hu;rfl
 ·intro v' w' h2 h3 _ h5
  refine h v' w' ⟨fun y hy=>?_,by simpa using h2⟩ ⟨h3,h5.imp id fun e=>⟨_,e,Nat.le_refl _⟩⟩;rcases List.mem_append.1 hy with hy | hy
  ·exact hown.1 y hy
  ·exact h8 y hy
def gC {α:Type}(cs:α->List Value):List α->List Value
 | []=>[]
 | e :: l=>cs e ++ gC cs l
theorem gC_app {α:Type}(cs:α->List Value)(l k:List α):gC cs (l ++ k)=gC cs l ++ gC cs k:=by
 induction l with
 | nil=>rfl
 | cons e l ih=>rw [List.cons_append,gC,ih,gC,List.append_assoc]
theorem gC_len {α:Type}{cs:α->List Value}{m:Nat}(hm:∀ a,(cs a).length=m)(l:List α):(gC cs l).length=l.length*m:=by
 induction l with
 | nil=>simp [gC]
 | cons e l ih=>rw [gC,List.length_append,ih,List.length_cons,hm,Nat.succ_mul];omega
theorem gC_get {α:Type}{cs:α->List Value}{m:Nat}(hm:∀ a,(cs a).length=m)(l:List α):∀(j:Nat) (h:j<l.length) (i:Nat),i<m->(gC cs l)[j*m+i]? = (cs l[j])[i]?:=by
 induction l with
 | nil=>intro j h;simp at h
 | cons e l ih=>
  intro j h i hi
  cases j with
  | zero=>rw [gC,List.getElem?_append_left (by rw [hm];omega)];simp
  | succ j=>
   rw [gC,List.getElem?_append_right (by rw [hm,Nat.succ_mul];omega),hm,show (j+1)*m+i-m=j*m+i by rw [Nat.succ_mul];omega,ih j (by simpa using h) i hi];simp
structure GLaw {α:Type} (cs:α->List Value) (m:Nat) (T S:TypeId):Prop where
 und:Tryz.prog.underlying S=some (.slice T)
 info:∃ i z bytes,Tryz.prog.info? T=some i/\i.zero=some z/\i.size=m/\i.bytes=bytes/\z.cells.size=m/\bytes<=128
 pos:0<m
 len:∀ a,(cs a).length=m
 one:∀ a,∀ u∈cs a,u.oneCell'=true
def Zg {α:Type}(cs:α->List Value)(m:Nat)(T:TypeId)(w:World)(B:Nat)(v:Value)(l:List α):Prop:=w.ownsRow B T m v l.length (gC cs l)
section
variable {α:Type} {cs:α->List Value} {m:Nat} {T S:TypeId} {w w':World} {B:Nat} {v:Value} {l:List α}
theorem Zg.nil (cs:α->List Value)(m:Nat)(T:TypeId)(w:World)(B:Nat):Zg cs m T w B (.slice none 0 0) []:=World.ownsRow_nil w B _ m
theorem Zg.made (cs:α->List Value)(m:Nat)(T:TypeId)(w:World)(B:Nat)(hB:B<=w.heap.size):Zg cs m T (w.alloc (.cells #[] T)) B (.slice (some ⟨w.heap.size,0,none⟩) 0 0) []:=
 World.ownsRow_made w #[] 0 hB (by unfold maxLen;omega) (by simp)
theorem Zg.shape (h:Zg cs m T w B v l):∃ a cap,v=.slice a l.length cap:=by
 rcases h.2 with ⟨rfl,h0⟩ | ⟨g,cap,cur,rfl,_⟩
 ·exact ⟨none,0,by rw [h0]⟩
 ·exact ⟨_,_,rfl⟩
theorem Zg.shape' (h:Zg cs m T w B v l)(hl:0<l.length):∃ g cap,v=.slice (some ⟨g,0,none⟩) l.length cap:=by
 rcases h.2 with ⟨rfl,h0⟩ | ⟨g,cap,cur,rfl,_⟩
 ·omega
 ·exact ⟨_,_,rfl⟩
theorem Zg.lts (h:Zg cs m T w B v l)(k:Nat)(e:v.ownBlock=some k):B<=k/\k<w.heap.size:=World.ownsRow.lt h k e
theorem Zg.le {B':Nat}(h:Zg cs m T w B v l)(hb:B'<=B):Zg cs m T w B' v l:=by
 refine ⟨h.1,?_⟩;rcases h.2 with h | ⟨g,cap,cur,hv,hg,r⟩
 ·exact .inl h
 ·exact .inr ⟨g,cap,cur,hv,Nat.le_trans hb hg,r⟩
theorem Zg.block (h:Zg cs m T w B v l)(hb:∀ k,v.ownBlock=some k->w'.heap[k]? = w.heap[k]?):Zg cs m T w' B v l:=by
 refine ⟨h.1,?_⟩;rcases h.2 with h | ⟨g,cap,cur,hv,hg,hh,r⟩
 ·exact .inl h
 ·exact .inr ⟨g,cap,cur,hv,hg,(hb g (by rw [hv];rfl)).trans hh,r⟩
theorem Zg.below (h:Zg cs m T w B v l)(hb:Below w.heap.size w w'):Zg cs m T w' B v l:=h.block fun k hk=>hb.block k (h.lts k hk).2
theorem Zg.sl (L:GLaw cs m T S)(h:Zg cs m T w B v l)(hl:l.length<=maxLen):Sl cs m w v l:=by
 obtain ⟨a,cap,rfl⟩:=h.shape;refine ⟨hl,a,cap,rfl,fun i hi=>?_⟩;obtain ⟨g,cap',e⟩:=h.shape' (by omega);simp only [Value.slice.injEq] at e;obtain ⟨rfl,_,rfl⟩:=e;refine ⟨g,0,rfl,fun j hj t v ht=>?_⟩;have htm:t<m:=by have:=(List.getElem?_eq_some_iff.1 ht).1;rwa [L.len] at this
 have hle:=row_le (m:=m) hj (Nat.le_refl _);rw [Nat.zero_add,World.ownsRow.cellAt h (j*m+t) (by omega),gC_get L.len l j hj t htm];exact ht
theorem Zg.there (L:GLaw cs m T S){g cap:Nat}(h:Zg cs m T w B (.slice (some ⟨g,0,none⟩) l.length cap) l):w.there g 0 (l.length*m):=fun j hj=>by
 rw [Nat.zero_add];refine ⟨?_,World.ownsRow.frozenAt h j⟩;rw [World.ownsRow.cellAt h j (by omega),List.getElem?_eq_getElem (by rw [gC_len L.len];exact hj)];rfl
theorem growG {v':Value}(h:Xa w v w' v')(hown:Zg cs m T w B v l)(hB:B<=w.heap.size):Below B w w':=
 (Below.refl _ _).grown h.g hB (fun k hk=>(hown.lts k hk).1)
theorem Xr (L:GLaw cs m T S){ops:Array Oper}{rest:List Oper}{o:Oper}{a:Act}{Q:Exit->Act->World->Prop}(hgd:o.guard=none)(s x:Operand)
  (ho:o.op=.call { callee:=.builtin .append,args:=#[s,x],argTypes:=#[S,S] })
  (e:α) (hown:Zg cs m T w B v l) (hs:a.eval s=v) (b c:Nat) (hu:w.rangeAt b 0 (cs e)) (hx:a.eval x=.slice (some ⟨b,0,none⟩) 1 c) (hlen:l.length<=1000000) (hB:B<=w.heap.size)
  (h:∀ v' w',Zg cs m T w' B v' (l ++ [e])->Xa w v w' v'->wpList Tryz.prog ops Q rest (a.put o.dst v') w'):wpList Tryz.prog ops Q (o :: rest) a w:=by
 obtain ⟨i0,z,bytes,hi,hz0,hz1,hz2,hz3,hb⟩:=L.info;have hmul:(l.length+1)*bytes<=1000001*128:=Nat.mul_le_mul (by omega) hb;refine wpList_append_own_at w hgd s x S ho B T i0 z m bytes L.und hi hz0 hz1 hz2 hz3 L.pos v l.length _ hs hown ⟨b,0,none⟩ 1 c (cs e) hx (by rw [L.len];omega) ?_ (L.one e) (by unfold maxLen;omega) (by omega) hB ?_
 ·intro j u hj
  rw [Ju,Nat.zero_add];have:=hu j u hj
  rwa [Nat.zero_add] at this
 ·intro v' w' h2 h3 _ h5
  exact h v' w' (by unfold Zg;rw [gC_app];simpa [gC] using h2) ⟨h3,h5.imp id fun e=>⟨_,e,Nat.le_refl _⟩⟩
theorem Z0u (L:GLaw cs m T S){ops:Array Oper}{o:Oper}{a:Act}{K:Act->World->Prop}{Q:Exit->Act->World->Prop}{E:Prop}(hgd:o.guard=none)(s x:Operand)
  (ho:o.op=.call { callee:=.builtin .append,args:=#[s,x],argTypes:=#[S,S] })
  (e:α) (hown:Zg cs m T w B v l) (hs:a.eval s=v) (b c:Nat) (hu:w.rangeAt b 0 (cs e)) (hx:a.eval x=.slice (some ⟨b,0,none⟩) 1 c) (hlen:l.length<=1000000) (hB:B<=w.heap.size)
  (h:∀ v' w',Zg cs m T w' B v' (l ++ [e])->Xa w v w' v'->K (a.put o.dst v') w'):if Region.wanted o (yielded ops a.tmps)=true then Oper.wp Tryz.prog o a w K Q else E:=by
 have hw:Region.wanted o (yielded ops a.tmps)=true:=by simp [Region.wanted,hgd]
 rw [if_pos hw];obtain ⟨i0,z,bytes,hi,hz0,hz1,hz2,hz3,hb⟩:=L.info;have hmul:(l.length+1)*bytes<=1000001*128:=Nat.mul_le_mul (by omega) hb
 obtain ⟨v',w',hr,h2,h3,h4,h5⟩:=run_append_own_at (P:=Tryz.prog) w B S o.type T i0 z m bytes L.und hi hz0 hz1 hz2 hz3 L.pos v l.length _ hown ⟨b,0,none⟩ 1 c (cs e) (by rw [L.len];omega)
  (by
   intro j u hj;rw [Ju,Nat.zero_add];have:=hu j u hj
   rwa [Nat.zero_add] at this) (L.one e) (by unfold maxLen;omega) (by omega) hB
 unfold Oper.wp execOp;simp only [ho,resolve,invoke,builtin,Sem.run_bind,Sem.run_pure,Result.andThen_ok,List.map_toArray,List.map_cons,List.map_nil,hs,hx,hr];exact h v' w' (by unfold Zg;rw [gC_app];simpa [gC] using h2) ⟨h3,h5.imp id fun e=>⟨_,e,Nat.le_refl _⟩⟩
end
def Ix (w:World)(v:Value)(l:List Int):Prop:=
 l.length<=maxLen/\∃ a cap,v=.slice a l.length cap/\∀ i,i<l.length->∃ b off,a=some ⟨b,off,none⟩/\∀ j (h:j<l.length),w.cell? ⟨b,off+j,none⟩=some (.int .i64 l[j])
theorem Ix.below {w w':World}{v:Value}{l:List Int}(h:Ix w v l)(hb:Below w.heap.size w w'):Ix w' v l:=by
 obtain ⟨hl,a,cap,rfl,hc⟩:=h;refine ⟨hl,a,cap,rfl,fun i hi=>?_⟩;obtain ⟨b,off,rfl,hj⟩:=hc i hi;exact ⟨b,off,rfl,fun j hj'=>(hb.cell (p:=⟨b,off+j,none⟩) (X7 (hj j hj'))).trans (hj j hj')⟩
def inC (n:Int):List Value:=[.int .i64 n]
theorem Z0b:GLaw inC 1 3 23:={
 und:=Tryz.underlying23
 info:=by
  obtain ⟨i0,hi,hz0,hz1,hz2⟩:=info_parts (show (Tryz.prog.info? 3).map (fun i=>(i.zero,i.size,i.bytes))=some (some (.int .i64 0),1,8) by kernel_rfl);exact ⟨i0,_,_,hi,hz0,hz1,hz2,rfl,by decide⟩
 pos:=by decide
 len:=fun _=>rfl
 one:=fun a u hu=>by
  simp only [inC,List.mem_cons,List.not_mem_nil,or_false] at hu;subst hu;rfl }
theorem ix_sl {w:World}{v:Value}{l:List Int}(h:Sl inC 1 w v l):Ix w v l:=by
 obtain ⟨hl,a,cap,rfl,hc⟩:=h;refine ⟨hl,a,cap,rfl,fun i hi=>?_⟩;obtain ⟨b,off,rfl,hj⟩:=hc i hi;refine ⟨b,off,rfl,fun j hj'=>?_⟩;have:=hj j hj' 0 _ rfl;simpa using this
theorem infoEnt:(Tryz.prog.info? 118).map (fun i=>(i.zero,i.size,i.bytes))=some (some (.agg #[.int .i64 0,.int .i64 0,.int .i64 0,.int .i64 0,.string ⟨#[]⟩,.string ⟨#[]⟩,.string ⟨#[]⟩]),7,80):=by kernel_rfl
def Ent.cells (e:Ent):List Value:=[.int .i64 e.t,.int .i64 e.cl,.int .i64 e.sq,.int .i64 e.op,.string e.k,.string e.v,.string e.o]
def Yd:List Ent->List Value
 | []=>[]
 | e :: l=>e.cells ++ Yd l
theorem Z1p (l k:List Ent):Yd (l ++ k)=Yd l ++ Yd k:=by
 induction l with
 | nil=>rfl
 | cons e l ih=>rw [List.cons_append,Yd,ih,Yd,List.append_assoc]
theorem Z26 (l:List Ent):(Yd l).length=l.length*7:=by
 induction l with
 | nil=>rfl
 | cons e l ih=>rw [Yd,List.length_append,ih,List.length_cons];simp [Ent.cells];omega
theorem Z1n (l:List Ent):∀(j:Nat) (h:j<l.length) (i:Nat),i<7->(Yd l)[j*7+i]? = l[j].cells[i]?:=by
 induction l with
 | nil=>intro j h;simp at h
 | cons e l ih=>
  intro j h i hi;have h7:e.cells.length=7:=rfl
  cases j with
  | zero=>rw [Yd,List.getElem?_append_left (by rw [h7];omega)];simp
  | succ j=>
   rw [Yd,List.getElem?_append_right (by rw [h7];omega),h7,show (j+1)*7+i-7=j*7+i by omega,ih j (by simpa using h) i hi];simp
def Zp (w:World)(B:Nat)(v:Value)(l:List Ent):Prop:=
 (∀ e∈l,e.fits)/\w.ownsRow B 118 7 v l.length (Yd l)
theorem Zp.nil (w:World)(B:Nat):Zp w B (.slice none 0 0) []:=⟨by simp,World.ownsRow_nil w B _ 7⟩
theorem Zp.made (w:World)(B:Nat)(hB:B<=w.heap.size):Zp (w.alloc (.cells #[] 118)) B (.slice (some ⟨w.heap.size,0,none⟩) 0 0) []:=
 ⟨by simp,World.ownsRow_made w #[] 0 hB (by decide) (by simp)⟩
theorem Zp.shape {w:World}{B:Nat}{v:Value}{l:List Ent}(h:Zp w B v l):∃ a cap,v=.slice a l.length cap:=by
 rcases h.2.2 with ⟨rfl,h0⟩ | ⟨g,cap,cur,rfl,_⟩
 ·exact ⟨none,0,by rw [h0]⟩
 ·exact ⟨_,_,rfl⟩
theorem Zp.shape' {w:World}{B:Nat}{v:Value}{l:List Ent}(h:Zp w B v l)(hl:0<l.length):∃ g cap,v=.slice (some ⟨g,0,none⟩) l.length cap:=by
 rcases h.2.2 with ⟨rfl,h0⟩ | ⟨g,cap,cur,rfl,_⟩
 ·omega
 ·exact ⟨_,_,rfl⟩
theorem Zp.le {w:World}{B B':Nat}{v:Value}{l:List Ent}(h:Zp w B v l)(hb:B'<=B):Zp w B' v l:=by
 refine ⟨h.1,h.2.1,?_⟩;rcases h.2.2 with h | ⟨g,cap,cur,hv,hg,r⟩
 ·exact .inl h
 ·exact .inr ⟨g,cap,cur,hv,Nat.le_trans hb hg,r⟩
theorem Zp.block {w w':World}{B:Nat}{v:Value}{l:List Ent}(h:Zp w B v l)(hb:∀ k,v.ownBlock=some k->w'.heap[k]? = w.heap[k]?):Zp w' B v l:=by
 refine ⟨h.1,h.2.1,?_⟩;rcases h.2.2 with h | ⟨g,cap,cur,hv,hg,hh,r⟩
 ·exact .inl h
 ·subst hv
  exact .inr ⟨g,cap,cur,rfl,hg,(hb g rfl).trans hh,r⟩
theorem Zp.below {w w':World}{B:Nat}{v:Value}{l:List Ent}(h:Zp w B v l)(hb:Below w.heap.size w w'):Zp w' B v l:=
 h.block fun k hk=>hb.block k (h.2.lt k hk).2
theorem Zp.grown {w w':World}{B b:Nat}{v:Value}{l:List Ent}(h:Zp w B v l)(hg:w.grownBy w' (some b))(hb:b<B):Zp w' B v l:=
 h.block fun k hk=>hg.block k (h.2.lt k hk).2 (by intro e;injection e with e;have:=(h.2.lt k hk).1;omega)
theorem Zp.es {w:World}{B:Nat}{v:Value}{l:List Ent}(h:Zp w B v l)(hl:l.length<=maxLen):Es w v l:=by
 obtain ⟨a,cap,rfl⟩:=h.shape;refine ⟨hl,h.1,a,cap,rfl,fun i hi=>?_⟩;obtain ⟨g,cap',e⟩:=h.shape' (by omega);simp only [Value.slice.injEq] at e;obtain ⟨rfl,_,rfl⟩:=e;refine ⟨g,0,rfl,fun j hj=>?_⟩
 have c:∀ i,i<7->w.cell? ⟨g,j*7+i,none⟩=l[j].cells[i]?:=fun i hi=>by
  rw [h.2.cellAt (j*7+i) (by omega)];exact Z1n l j hj i hi
 rw [Nat.zero_add];exact ⟨c 0 (by omega),c 1 (by omega),c 2 (by omega),c 3 (by omega),c 4 (by omega),c 5 (by omega),c 6 (by omega)⟩
theorem growE {B:Nat}{w w':World}{v v':Value}{l:List Ent}(h:Xa w v w' v')(hown:Zp w B v l)(hB:B<=w.heap.size):Below B w w':=
 (Below.refl _ _).grown h.g hB (fun k hk=>(hown.2.lt k hk).1)
theorem Xs {w:World}{ops:Array Oper}{rest:List Oper}{o:Oper}{a:Act}{Q:Exit->Act->World->Prop}(hgd:o.guard=none)(s x:Operand)
  (ho:o.op=.call { callee:=.builtin .append,args:=#[s,x],argTypes:=#[34,34] })
  {B:Nat} {v:Value} {l:List Ent} (e:Ent) (hf:e.fits) (hown:Zp w B v l) (hs:a.eval s=v) (b c:Nat) (hu:Jc w b 0 e) (hx:a.eval x=.slice (some ⟨b,0,none⟩) 1 c) (hlen:l.length<=1000000) (hB:B<=w.heap.size)
  (h:∀ v' w',Zp w' B v' (l ++ [e])->Xa w v w' v'->wpList Tryz.prog ops Q rest (a.put o.dst v') w'):wpList Tryz.prog ops Q (o :: rest) a w:=by
 obtain ⟨i0,hi,hz0,hz1,hz2⟩:=info_parts infoEnt;obtain ⟨u0,u1,u2,u3,u4,u5,u6⟩:=hu;refine wpList_append_own_at w hgd s x 34 ho B 118 i0 _ 7 80 Tryz.underlying34 hi hz0 hz1 hz2 rfl (by decide) v l.length _ hs hown.2 ⟨b,0,none⟩ 1 c e.cells hx rfl ?_ ?_ (by unfold maxLen;omega) (by omega) hB ?_
 ·intro j u hj
  rw [Ju,Nat.zero_add];have hj7:j<7:=(List.getElem?_eq_some_iff.1 hj).1;rcases (show j=0∨j=1∨j=2∨j=3∨j=4∨j=5∨j=6 by omega) with rfl | rfl | rfl | rfl | rfl | rfl | rfl
  ·exact u0.trans hj
  ·exact u1.trans hj
  ·exact u2.trans hj
  ·exact u3.trans hj
  ·exact u4.trans hj
  ·exact u5.trans hj
  ·exact u6.trans hj
 ·intro u hu
  simp only [Ent.cells,List.mem_cons,List.not_mem_nil,or_false] at hu;rcases hu with rfl | rfl | rfl | rfl | rfl | rfl | rfl <;> rfl
 ·intro v' w' h2 h3 _ h5
  refine h v' w' ⟨fun y hy=>?_,by rw [Z1p];simpa [Yd] using h2⟩ ⟨h3,h5.imp id fun e=>⟨_,e,Nat.le_refl _⟩⟩;rcases List.mem_append.1 hy with hy | hy
  ·exact hown.1 y hy
  ·rw [List.mem_singleton.1 hy];exact hf
def Blk (w:World)(b:Nat)(C:Array Value)(t:TypeId):Prop:=w.heap[b]? = some (.cells C t (0,0))
section
variable {w w':World} {b:Nat} {C:Array Value} {t:TypeId}
theorem Blk.cell (h:Blk w b C t)(j:Nat):w.cell? ⟨b,j,none⟩=C[j]?:=cell_of_row w b j C t _ h
theorem Blk.free (h:Blk w b C t)(j:Nat):w.frozen? ⟨b,j,none⟩=false:=by
 have:w.heap[b]? = some (.cells C t (0,0)):=h;simp [World.frozen?,this]
theorem Blk.lt (h:Blk w b C t):b<w.heap.size:=(Array.getElem?_eq_some_iff.1 h).1
theorem Blk.new (w:World)(C:Array Value)(t:TypeId):Blk (w.alloc (.cells C t)) w.heap.size C t:=heap_alloc_last w _
theorem Blk.new' (w:World)(C:Array Value)(t:TypeId){k:Nat}(hk:k=w.heap.size):Blk (w.alloc (.cells C t)) k C t:=by subst hk;exact Blk.new w C t
theorem Blk.alloc (h:Blk w b C t)(o:Obj):Blk (w.alloc o) b C t:=(Below.heap_alloc w o b h.lt).trans h
theorem Blk.below {B:Nat}(h:Blk w b C t)(hb:Below B w w')(hlt:b<B):Blk w' b C t:=(hb.block b hlt).trans h
theorem Blk.keep (h:Blk w b C t)(hb:w'.heap[b]? = w.heap[b]?):Blk w' b C t:=hb.trans h
theorem Blk.drew (h:Blk w b C t):Blk w.drew b C t:=h
theorem Blk.set_other (h:Blk w b C t){p:Addr}(v:Value)(hne:b≠p.block):Blk (w.setCell p v) b C t:=(Below.heap_setCell w p v b hne).trans h
theorem Blk.set (h:Blk w b C t)(j:Nat)(v:Value):Blk (w.setCell ⟨b,j,none⟩ v) b (C.setIfInBounds j v) t:=by
 unfold Blk;rw [setCell_eq_setRow w b j C t (0,0) v h];exact setRow_heap w b C _ t _ h
theorem Blk.row (h:Blk w b C t)(C':Array Value):Blk (w.setRow b C') b C' t:=setRow_heap w b C C' t _ h
theorem Blk.row_other (h:Blk w b C t){k:Nat}(C':Array Value)(hne:b≠k):Blk (w.setRow k C') b C t:=(setRow_other w k b C' hne).trans h
theorem Blk.range (h:Blk w b C t):w.rangeAt b 0 C.toList:=fun j v hv=>by
 rw [Nat.zero_add,h.cell j,<-hv];simp
theorem Blk.there (h:Blk w b C t):w.there b 0 C.size:=fun j hj=>by
 rw [Nat.zero_add];refine ⟨?_,h.free j⟩;rw [h.cell j,Array.getElem?_eq_getElem hj];rfl
theorem X4 {B:Nat}{a:World}(h:Below B a w){k:Nat}(hk:B<=k)(C':Array Value):Below B a (w.setRow k C'):=h.trans ⟨rfl,rfl,rfl,by simp [World.setRow],fun i hi=>setRow_other w k i C' (by omega)⟩
end
section
variable {P:Program} {ops:Array Oper} {rest:List Oper} {o:Oper} {a:Act} {w:World} {Q:Exit->Act->World->Prop}
theorem Zx (ty:TypeId)(x:Operand)(ho:o.op=.load ty x)(h:wpList P ops Q (o :: rest) a w):wpList P ops Q (o :: rest) a w:=h
theorem Y6 (ty:TypeId)(x y:Operand)(ho:o.op=.store ty x y)(h:wpList P ops Q (o :: rest) a w):wpList P ops Q (o :: rest) a w:=h
theorem Zk (hgd:o.guard=none)(ty:TypeId)(x:Operand)(ho:o.op=.load ty x)(b:Nat)(hx:a.eval x=.pointer (some ⟨b,0,none⟩)){C:Array Value}{t:TypeId}(hb:Blk w b C t)
  {d:TypeDesc} (hu:P.underlying ty=some d) (hd:d.isRow=true) {n:Nat} (hi:(P.info? ty).map (·.size)=some n) (hn:n=C.size)
  (h:wpList P ops Q rest (a.put o.dst (.agg C)) w):wpList P ops Q (o :: rest) a w:=
 wpList_load_mid hgd ty x ho b 0 hx C.toList d hb.range hu hd (by rw [hi,hn];simp) h
theorem Js {K:Act->World->Prop}(ty:TypeId)(x y:Operand)(ho:o.op=.store ty x y)(b:Nat)(hx:a.eval x=.pointer (some ⟨b,0,none⟩)){C C':Array Value}(hy:a.eval y=.agg C')
  {t:TypeId} (hb:Blk w b C t) {n:Nat} (hi:(P.info? ty).map (·.size)=some n) (hn:n=C'.size) (hc:C.size=C'.size) (h1:C'.all (·.oneCell')=true)
  (h:K (a.put o.dst undef) (w.setRow b C')):o.wp P a w K Q:=by
 unfold Oper.wp execOp;simp only [ho,hx,hy,Instr.storeAt,Instr.sureAddr,Sem.run_bind,Sem.run_pure,Result.andThen_ok,run_storeVar_row w b t ty C C' hb (by rw [hi,hn]) hc h1];exact h
theorem Z2r {K:Act->World->Prop}(ty:TypeId)(x:Operand)(ho:o.op=.load ty x)(b:Nat)(hx:a.eval x=.pointer (some ⟨b,0,none⟩)){C:Array Value}{t:TypeId}(hb:Blk w b C t)
  {d:TypeDesc} (hu:P.underlying ty=some d) (hd:d.isRow=true) {n:Nat} (hi:(P.info? ty).map (·.size)=some n) (hn:n=C.size)
  (h:K (a.put o.dst (.agg C)) w):o.wp P a w K Q:=
 wp_load_mid ty x ho b 0 hx C.toList d hb.range hu hd (by rw [hi,hn];simp) h
theorem Zz (hgd:o.guard=none)(ty:TypeId)(x y:Operand)(ho:o.op=.store ty x y)(b:Nat)(hx:a.eval x=.pointer (some ⟨b,0,none⟩)){C C':Array Value}(hy:a.eval y=.agg C')
  {t:TypeId} (hb:Blk w b C t) {n:Nat} (hi:(P.info? ty).map (·.size)=some n) (hn:n=C'.size) (hc:C.size=C'.size) (h1:C'.all (·.oneCell')=true)
  (h:wpList P ops Q rest (a.put o.dst undef) (w.setRow b C')):wpList P ops Q (o :: rest) a w:=
 wpList_plain hgd fun K hK=>by
  unfold Oper.wp execOp;simp only [ho,hx,hy,Instr.storeAt,Instr.sureAddr,Sem.run_bind,Sem.run_pure,Result.andThen_ok,run_storeVar_row w b t ty C C' hb (by rw [hi,hn]) hc h1];exact hK _ _ h
theorem Y1 {c c':Array Value}{t:TypeId}(hgd:o.guard=none)(ty:TypeId)(x y:Operand)(ho:o.op=.store ty x y)(k:Nat)(hx:a.eval x=.pointer (some ⟨k,0,none⟩))(hk:k=w.heap.size)(hy:a.eval y=.agg c')
  {n:Nat} (hi:(P.info? ty).map (·.size)=some n) (hn:n=c'.size) (hc:c.size=c'.size) (h1:c'.all (·.oneCell')=true)
  (h:wpList P ops Q rest (a.put o.dst undef) (w.alloc (.cells c' t))):wpList P ops Q (o :: rest) a (w.alloc (.cells c t)):=by
 subst hk;refine Zz hgd ty x y ho _ hx hy (Blk.new _ _ _) hi hn hc h1 ?_;rw [World.setRow_alloc_new];exact h
end
theorem Y5 {fn:Func}{s:Tmp}{ty:TypeId}{tmps:Array Value}{b:Nat}{w:World}{C:Array Value}{t:TypeId}(hr:fn.results=#[.cell s ty])(ht:tmps.getD s undef=.pointer (some ⟨b,0,none⟩))
  (hb:Blk w b C t) {d:TypeDesc} (hu:Tryz.prog.underlying ty=some d) (hd:d.isRow=true) {n:Nat} (hi:(Tryz.prog.info? ty).map (·.size)=some n) (hn:n=C.size):(results fn tmps).run Tryz.prog w=.ok (.agg C) w:=by
 have e:tmps[s]?.getD undef=.pointer (some ⟨b,0,none⟩):=by rw [<-ht];simp
 have hl:=run_loadVar_mid (P:=Tryz.prog) w b 0 ty C.toList d hb.range hu hd (by rw [hi,hn];simp);simp [results,hr,e,hl,asAddr]
theorem Rd.frame {w:World}{b:Nat}(x:Nat)(v:Value):w.grownBy (w.setCell ⟨b,x,none⟩ v) (some b):=
 ⟨rfl,rfl,rfl,by simp [World.setCell],fun k _ hk=>Below.heap_setCell _ _ _ _ (fun e=>hk (by rw [e]))⟩
theorem Z8 {w w1 w2:World}{row:Option Nat}(h:w.grownBy w1 row)(k:w1.grownBy w2 row):w.grownBy w2 row:=
 ⟨k.os.trans h.os,k.tape.trans h.tape,k.output.trans h.output,Nat.le_trans h.size k.size,fun i hi hne=>(k.block i (Nat.lt_of_lt_of_le hi h.size) hne).trans (h.block i hi hne)⟩
theorem grownBy_refl (w:World)(row:Option Nat):w.grownBy w row:=⟨rfl,rfl,rfl,Nat.le_refl _,fun _ _ _=>rfl⟩
structure Om where
 m:Mg
 a:Option Addr
 c:Nat
def Om.v (x:Om):Value:=.slice x.a x.m.es.length x.c
def omC (x:Om):List Value:=[.int .i64 x.m.ki,.int .i64 x.m.fr,.int .i64 x.m.td,.int .i64 x.m.tm,.int .i64 x.m.li,.int .i64 x.m.lt,.int .i64 x.m.cm,.int .i64 x.m.ok,.int .i64 x.m.hi,.slice x.a x.m.es.length x.c]
theorem omLaw:GLaw omC 10 43 37:={
 und:=Tryz.underlying37
 info:=by
  obtain ⟨i0,hi,hz0,hz1,hz2⟩:=info_parts (show (Tryz.prog.info? 43).map (fun i=>(i.zero,i.size,i.bytes))=some (some (.agg #[.int .i64 0,.int .i64 0,.int .i64 0,.int .i64 0,.int .i64 0,.int .i64 0,.int .i64 0,.int .i64 0,.int .i64 0,.slice none 0 0]),10,96) by kernel_rfl);exact ⟨i0,_,_,hi,hz0,hz1,hz2,rfl,by decide⟩
 pos:=by decide
 len:=fun _=>rfl
 one:=fun a u hu=>by
  simp only [omC,List.mem_cons,List.not_mem_nil,or_false] at hu;rcases hu with rfl | rfl | rfl | rfl | rfl | rfl | rfl | rfl | rfl | rfl <;> rfl }
structure RV where
 vl:Value
 vg:Value
 vn:Value
 vm:Value
 vs:Value
 vt:Value
 vo:Value
 L:List Om
def rnC (r:Rn)(x:RV):Array Value:=#[.int .i64 r.n.id,.int .i64 r.n.sz,.int .i64 r.n.el,.int .i64 r.n.bt,.int .i64 r.n.tm,.int .i64 r.n.vo,.int .i64 r.n.ro,.int .i64 r.n.ld,.int .i64 r.n.cm,.int .i64 r.n.nw,.int .i64 r.n.dl,.int .i64 r.n.hd,x.vl,x.vg,x.vn,x.vm,x.vs,x.vt,x.vo,.int .i64 r.code,.int .i64 r.drew,.int .i64 r.draw]
def Ya (u v:Value):Prop:=∀ k,u.ownBlock=some k->v.ownBlock≠some k
theorem Ya.symm {u v:Value}(h:Ya u v):Ya v u:=fun k h1 h2=>h k h2 h1
structure Zv (w:World) (B b:Nat) (r:Rn) (x:RV):Prop where
 blk:Blk w b (rnC r x) 112
 lo:B<=b
 log:Zp w B x.vl r.n.log
 gr:Zg inC 1 3 w B x.vg r.n.gr
 nx:Zg inC 1 3 w B x.vn r.n.nx
 mt:Zg inC 1 3 w B x.vm r.n.mt
 se:Zg inC 1 3 w B x.vs r.n.se
 st:Zg inC 1 3 w B x.vt r.n.st
 out:Zg omC 10 43 w B x.vo x.L
 outC:x.L.map (·.m)=r.out
 ents:∀ p∈x.L,Zp w B p.v p.m.es
 ap:[x.vg,x.vn,x.vm,x.vs,x.vt].Pairwise Ya
theorem Zu {α:Type}{cs:α->List Value}{m:Nat}{T:TypeId}{w:World}{B:Nat}{v:Value}{l:List α}{b:Nat}{C:Array Value}{t:TypeId}(h:Zg cs m T w B v l)(hb:Blk w b C t)(hne:T≠t):∀ k,v.ownBlock=some k->k≠b:=by
 intro k e ek;obtain ⟨-,⟨rfl,-⟩ | ⟨g,cap,cur,rfl,-,hb',-⟩⟩:=h
 ·cases e
 cases e;subst ek;unfold Blk at hb;rw [hb] at hb';simp only [Option.some.injEq,Obj.cells.injEq] at hb';exact hne hb'.2.1.symm
theorem Ym {w:World}{B:Nat}{v:Value}{l:List Ent}{b:Nat}{C:Array Value}{t:TypeId}(h:Zp w B v l)(hb:Blk w b C t)(hne:118≠t):∀ k,v.ownBlock=some k->k≠b:=by
 intro k e ek;obtain ⟨-,-,⟨rfl,-⟩ | ⟨g,cap,cur,rfl,-,hb',-⟩⟩:=h
 ·cases e
 cases e;subst ek;unfold Blk at hb;rw [hb] at hb';simp only [Option.some.injEq,Obj.cells.injEq] at hb';exact hne hb'.2.1.symm
section
variable {w w':World} {B b:Nat} {r:Rn} {x:RV}
theorem Zv.lt (h:Zv w B b r x):b<w.heap.size:=h.blk.lt
theorem Zv.re {r':Rn}(h:Zv w B b r x)(hb:Blk w' b (rnC r' x) 112)(hk:∀ k,k≠b->k<w.heap.size->w'.heap[k]? = w.heap[k]?)
  (e1:r'.n.log=r.n.log) (e2:r'.n.gr=r.n.gr) (e3:r'.n.nx=r.n.nx) (e4:r'.n.mt=r.n.mt) (e5:r'.n.se=r.n.se) (e6:r'.n.st=r.n.st) (e7:r'.out=r.out):Zv w' B b r' x:=by
 have hg:∀ {α:Type} {cs:α->List Value} {m:Nat} {T:TypeId} {v:Value} {l:List α},T≠112->Zg cs m T w B v l->Zg cs m T w' B v l:=fun hT ho=>ho.block fun k hk'=>hk k (Zu ho h.blk hT k hk') (ho.lts k hk').2
 have he:∀ {v:Value} {l:List Ent},Zp w B v l->Zp w' B v l:=fun ho=>ho.block fun k hk'=>hk k (Ym ho h.blk (by decide) k hk') (World.ownsRow.lt ho.2 k hk').2
 exact ⟨hb,h.lo,by rw [e1];exact he h.log,by rw [e2];exact hg (by decide) h.gr,by rw [e3];exact hg (by decide) h.nx,by rw [e4];exact hg (by decide) h.mt,by rw [e5];exact hg (by decide) h.se,by rw [e6];exact hg (by decide) h.st,hg (by decide) h.out,by rw [e7];exact h.outC,fun p hp=>he (h.ents p hp),h.ap⟩
theorem Zv.below (h:Zv w B b r x)(hb:Below w.heap.size w w'):Zv w' B b r x:=
 h.re (h.blk.below hb h.lt) (fun k _ hk=>hb.block k hk) rfl rfl rfl rfl rfl rfl rfl
theorem Zv.set {r':Rn}(h:Zv w B b r x)(i:Nat)(v:Value)(hc:(rnC r x).setIfInBounds i v=rnC r' x)
  (e1:r'.n.log=r.n.log) (e2:r'.n.gr=r.n.gr) (e3:r'.n.nx=r.n.nx) (e4:r'.n.mt=r.n.mt) (e5:r'.n.se=r.n.se) (e6:r'.n.st=r.n.st) (e7:r'.out=r.out):Zv (w.setCell ⟨b,i,none⟩ v) B b r' x:=
 h.re (by rw [<-hc];exact h.blk.set i v) (fun k hk _=>Below.heap_setCell _ _ _ _ hk) e1 e2 e3 e4 e5 e6 e7
theorem Zv.setB (h:Zv w B b r x)(i:Nat)(v:Value):Below B w (w.setCell ⟨b,i,none⟩ v):=(Below.refl _ _).setCell (p:=⟨b,i,none⟩) h.lo v
theorem Zv.drew (h:Zv w B b r x):Zv w.drew B b r x:=h.below ((Below.refl _ _).drew)
end
theorem Z10 (el dr:Int)(hx : -(2^63)<=dr)(hX:dr<2^63)(w:World) :
  Calls Tryz.prog 103 #[.int .i64 el,.int .i64 dr] w fun e w'=>e=.returned (.int .i64 (Xg el dr))/\w'=w:=by
 cases hi:inB el 1 1000
 ·rw [toutC_out dr hi]
  go_enter Tryz.func103,Tryz.ntmps103
  go_wp2_with (go_at_call 56;refine (Z6 _ _ _ _).mono ?_;rintro e w1 ⟨rfl,rfl⟩)
  go_ret;exact ⟨rfl,rfl⟩
 ·rw [toutC_in dr hi]
  have h2:=(Zs _ _ _).mp hi;have m1:=modI_ge dr el (by omega);have m2:=modI_lt dr el (by omega);go_enter Tryz.func103,Tryz.ntmps103
  go_wp2_with (first
   |(go_at_call 56;refine (Z6 _ _ _ _).mono ?_;rintro e w1 ⟨rfl,rfl⟩)
   |(go_at_call 141;refine (l1mod_any dr el (by omega) (by omega) hx hX _).mono ?_;rintro e w1 ⟨rfl,rfl⟩))
  go_ret;exact ⟨rfl,rfl⟩
theorem gb_of {w w':World}(row:Option Nat)(h:Below w.heap.size w w'):w.grownBy w' row:=⟨h.os,h.tape,h.output,h.size,fun k hk _=>h.block k hk⟩
theorem toutC_le (el dr:Int):0<=Xg el dr/\Xg el dr<=2000:=by
 unfold Xg;split
 ·rename_i h
  rw [Zs] at h;have h1:=modI_ge dr el (by omega);have h2:=modI_lt dr el (by omega);omega
 ·omega
theorem Z2q (b:Nat)(r:Rn)(x:RV)(w:World)(B:Nat)(h:Zv w B b r x)(hd : -(2^63)<=r.draw)(hD:r.draw<2^63)(hn0:0<=r.n.nw)(hn1:r.n.nw<=1099511627776) :
  Calls Tryz.prog 115 #[.pointer (some ⟨b,0,none⟩)] w fun e w'=>e=.returned (.tuple #[])/\Zv w' B b r.timer x/\Below B w w'/\w.grownBy w' (some b):=by
 have HR:Hid _:=h;have c2:w.cell? ⟨b,2,none⟩=some (.int .i64 r.n.el):=h.blk.cell 2;have c9:w.cell? ⟨b,9,none⟩=some (.int .i64 r.n.nw):=h.blk.cell 9;have c10:w.cell? ⟨b,10,none⟩=some (.int .i64 r.n.dl):=h.blk.cell 10;have c20:w.cell? ⟨b,20,none⟩=some (.int .i64 r.drew):=h.blk.cell 20;have c21:w.cell? ⟨b,21,none⟩=some (.int .i64 r.draw):=h.blk.cell 21;have f10:w.frozen? ⟨b,10,none⟩=false:=h.blk.free 10;have f20:w.frozen? ⟨b,20,none⟩=false:=h.blk.free 20;have HT:Hid (∀ z,Calls Tryz.prog 103 #[.int .i64 r.n.el,.int .i64 r.draw] z fun e w'=>e=.returned (.int .i64 (Xg r.n.el r.draw))/\w'=z):=fun z=>Z10 _ _ hd hD z
 have ht0:=toutC_le r.n.el r.draw;have HT1:Hid (r.timer={ r with n:={ r.n with dl:=r.n.nw+Xg r.n.el r.draw },drew:=1 }):=rfl;clear h;generalize Xg r.n.el r.draw=tv at *;obtain ⟨ht0,ht1⟩:=ht0;go_enter Tryz.func115,Tryz.ntmps115;go_wp2
 go_region_held3 (fun w'=>w'.cell? ⟨b,2,none⟩=some (.int .i64 r.n.el)/\w'.cell? ⟨b,9,none⟩=some (.int .i64 r.n.nw)/\w'.cell? ⟨b,21,none⟩=some (.int .i64 r.draw)) (simp [*,go_sem])
  (first
   |(go_at_call 103;refine (HT.out _).mono ?_;rintro e w1 ⟨rfl,hw⟩;have hw2:=hw.symm;subst hw2))
 all_goals go_wp2
 all_goals (
  refine bodyPost_end (results_none rfl _ _ _) rfl ?_;exact ⟨rfl,(((HR.out.set (r':={ r with n:={ r.n with dl:=r.n.nw+tv } }) 10 _ rfl rfl rfl rfl rfl rfl rfl rfl).drew).set (r':=r.timer) 20 _ (by rw [HT1.out];rfl) rfl rfl rfl rfl rfl rfl rfl),(HR.out.setB 10 _).drew.setCell (p:=⟨b,20,none⟩) HR.out.lo _,Z8 (Z8 (Rd.frame 10 _) (gb_of _ ((Below.refl _ _).drew))) (Rd.frame 20 _)⟩)
theorem Xq {w w1:World}{b:Nat}(h:∀ k,k≠b->k<w.heap.size->w1.heap[k]? = w.heap[k]?)(i:Nat)(v:Value):∀ k,k≠b->k<w.heap.size->(w1.setCell ⟨b,i,none⟩ v).heap[k]? = w.heap[k]?:=
 fun k hk hl=>(Below.heap_setCell _ _ _ _ hk).trans (h k hk hl)
theorem Z2e (w:World)(b:Nat):∀ k,k≠b->k<w.heap.size->w.heap[k]? = w.heap[k]?:=fun _ _ _=>rfl
def RV.lone (x:RV):RV:={ x with vg:=.slice none 0 0,vn:=.slice none 0 0,vm:=.slice none 0 0,vs:=.slice none 0 0,vt:=.slice none 0 0 }
theorem J2 (v:Value):Ya (.slice none 0 0) v:=fun k h=>by cases h
theorem Zv.loneAt {w w':World}{B b:Nat}{r r':Rn}{x:RV}(h:Zv w B b r x)(hb:Blk w' b (rnC r' x.lone) 112)(hk:∀ k,k≠b->k<w.heap.size->w'.heap[k]? = w.heap[k]?)
  (e1:r'.n.log=r.n.log) (e2:r'.n.gr = []) (e3:r'.n.nx = []) (e4:r'.n.mt = []) (e5:r'.n.se = []) (e6:r'.n.st = []) (e7:r'.out=r.out):Zv w' B b r' x.lone:=by
 have hg:∀ {α:Type} {cs:α->List Value} {m:Nat} {T:TypeId} {v:Value} {l:List α},T≠112->Zg cs m T w B v l->Zg cs m T w' B v l:=fun hT ho=>ho.block fun k hk'=>hk k (Zu ho h.blk hT k hk') (ho.lts k hk').2
 have he:∀ {v:Value} {l:List Ent},Zp w B v l->Zp w' B v l:=fun ho=>ho.block fun k hk'=>hk k (Ym ho h.blk (by decide) k hk') (World.ownsRow.lt ho.2 k hk').2
 have hn:Zg inC 1 3 w' B (.slice none 0 0) []:=Zg.nil _ _ _ _ _;exact ⟨hb,h.lo,by rw [e1];exact he h.log,by rw [e2];exact hn,by rw [e3];exact hn,by rw [e4];exact hn,by rw [e5];exact hn,by rw [e6];exact hn,hg (by decide) h.out,by rw [e7];exact h.outC,fun p hp=>he (h.ents p hp),by simp [RV.lone,J2]⟩
theorem Z31 (b:Nat)(r:Rn)(x:RV)(w:World)(B:Nat)(h:Zv w B b r x) :
  Calls Tryz.prog 114 #[.pointer (some ⟨b,0,none⟩)] w fun e w'=>e=.returned (.tuple #[])/\Zv w' B b r.lone x.lone/\Below B w w'/\w.grownBy w' (some b):=by
 have HR:Hid _:=h;have c6:w.cell? ⟨b,6,none⟩=some (.int .i64 r.n.ro):=h.blk.cell 6;have c7:w.cell? ⟨b,7,none⟩=some (.int .i64 r.n.ld):=h.blk.cell 7;have c13:w.cell? ⟨b,13,none⟩=some (x.vg):=h.blk.cell 13;have c14:w.cell? ⟨b,14,none⟩=some (x.vn):=h.blk.cell 14;have c15:w.cell? ⟨b,15,none⟩=some (x.vm):=h.blk.cell 15;have c16:w.cell? ⟨b,16,none⟩=some (x.vs):=h.blk.cell 16;have c17:w.cell? ⟨b,17,none⟩=some (x.vt):=h.blk.cell 17;have f6:w.frozen? ⟨b,6,none⟩=false:=h.blk.free 6;have f7:w.frozen? ⟨b,7,none⟩=false:=h.blk.free 7;have f13:w.frozen? ⟨b,13,none⟩=false:=h.blk.free 13;have f14:w.frozen? ⟨b,14,none⟩=false:=h.blk.free 14;have f15:w.frozen? ⟨b,15,none⟩=false:=h.blk.free 15;have f16:w.frozen? ⟨b,16,none⟩=false:=h.blk.free 16;have f17:w.frozen? ⟨b,17,none⟩=false:=h.blk.free 17;have b0:Blk (w.setCell ⟨b,14,none⟩ (.slice none 0 0)) b (rnC r { x with vn:=.slice none 0 0 }) 112:=HR.out.blk.set 14 _;have k0:=Xq (b:=b) (Z2e w b) 14 (.slice none 0 0);have b1:Blk ((w.setCell ⟨b,14,none⟩ (.slice none 0 0)).setCell ⟨b,15,none⟩ (.slice none 0 0)) b (rnC r { x with vn:=.slice none 0 0,vm:=.slice none 0 0 }) 112:=b0.set 15 _;have k1:=Xq (b:=b) k0 15 (.slice none 0 0);have b2:Blk (((w.setCell ⟨b,14,none⟩ (.slice none 0 0)).setCell ⟨b,15,none⟩ (.slice none 0 0)).setCell ⟨b,16,none⟩ (.slice none 0 0)) b (rnC r { x with vn:=.slice none 0 0,vm:=.slice none 0 0,vs:=.slice none 0 0 }) 112:=b1.set 16 _;have k2:=Xq (b:=b) k1 16 (.slice none 0 0);have b3:Blk ((((w.setCell ⟨b,14,none⟩ (.slice none 0 0)).setCell ⟨b,15,none⟩ (.slice none 0 0)).setCell ⟨b,16,none⟩ (.slice none 0 0)).setCell ⟨b,17,none⟩ (.slice none 0 0)) b (rnC r { x with vn:=.slice none 0 0,vm:=.slice none 0 0,vs:=.slice none 0 0,vt:=.slice none 0 0 }) 112:=b2.set 17 _;have k3:=Xq (b:=b) k2 17 (.slice none 0 0);have b4:Blk (((((w.setCell ⟨b,14,none⟩ (.slice none 0 0)).setCell ⟨b,15,none⟩ (.slice none 0 0)).setCell ⟨b,16,none⟩ (.slice none 0 0)).setCell ⟨b,17,none⟩ (.slice none 0 0)).setCell ⟨b,13,none⟩ (.slice none 0 0)) b (rnC r { x with vn:=.slice none 0 0,vm:=.slice none 0 0,vs:=.slice none 0 0,vt:=.slice none 0 0,vg:=.slice none 0 0 }) 112:=b3.set 13 _;have k4:=Xq (b:=b) k3 13 (.slice none 0 0);have b5:Blk ((((((w.setCell ⟨b,14,none⟩ (.slice none 0 0)).setCell ⟨b,15,none⟩ (.slice none 0 0)).setCell ⟨b,16,none⟩ (.slice none 0 0)).setCell ⟨b,17,none⟩ (.slice none 0 0)).setCell ⟨b,13,none⟩ (.slice none 0 0)).setCell ⟨b,7,none⟩ (.int .i64 0)) b (rnC { r with n:={ r.n with ld:=0 } } { x with vn:=.slice none 0 0,vm:=.slice none 0 0,vs:=.slice none 0 0,vt:=.slice none 0 0,vg:=.slice none 0 0 }) 112:=b4.set 7 _;have k5:=Xq (b:=b) k4 7 (.int .i64 0);have b6:Blk (((((((w.setCell ⟨b,14,none⟩ (.slice none 0 0)).setCell ⟨b,15,none⟩ (.slice none 0 0)).setCell ⟨b,16,none⟩ (.slice none 0 0)).setCell ⟨b,17,none⟩ (.slice none 0 0)).setCell ⟨b,13,none⟩ (.slice none 0 0)).setCell ⟨b,7,none⟩ (.int .i64 0)).setCell ⟨b,6,none⟩ (.int .i64 0)) b (rnC r.lone x.lone) 112:=b5.set 6 _;have k6:=Xq (b:=b) k5 6 (.int .i64 0);have HN:Hid (Zv (((((((w.setCell ⟨b,14,none⟩ (.slice none 0 0)).setCell ⟨b,15,none⟩ (.slice none 0 0)).setCell ⟨b,16,none⟩ (.slice none 0 0)).setCell ⟨b,17,none⟩ (.slice none 0 0)).setCell ⟨b,13,none⟩ (.slice none 0 0)).setCell ⟨b,7,none⟩ (.int .i64 0)).setCell ⟨b,6,none⟩ (.int .i64 0)) B b r.lone x.lone/\Below B w (((((((w.setCell ⟨b,14,none⟩ (.slice none 0 0)).setCell ⟨b,15,none⟩ (.slice none 0 0)).setCell ⟨b,16,none⟩ (.slice none 0 0)).setCell ⟨b,17,none⟩ (.slice none 0 0)).setCell ⟨b,13,none⟩ (.slice none 0 0)).setCell ⟨b,7,none⟩ (.int .i64 0)).setCell ⟨b,6,none⟩ (.int .i64 0))/\w.grownBy (((((((w.setCell ⟨b,14,none⟩ (.slice none 0 0)).setCell ⟨b,15,none⟩ (.slice none 0 0)).setCell ⟨b,16,none⟩ (.slice none 0 0)).setCell ⟨b,17,none⟩ (.slice none 0 0)).setCell ⟨b,13,none⟩ (.slice none 0 0)).setCell ⟨b,7,none⟩ (.int .i64 0)).setCell ⟨b,6,none⟩ (.int .i64 0)) (some b)):=⟨h.loneAt b6 k6 rfl rfl rfl rfl rfl rfl rfl,((((((((Below.refl B w).setCell (p:=⟨b,14,none⟩) h.lo (.slice none 0 0)).setCell (p:=⟨b,15,none⟩) h.lo (.slice none 0 0)).setCell (p:=⟨b,16,none⟩) h.lo (.slice none 0 0)).setCell (p:=⟨b,17,none⟩) h.lo (.slice none 0 0)).setCell (p:=⟨b,13,none⟩) h.lo (.slice none 0 0)).setCell (p:=⟨b,7,none⟩) h.lo (.int .i64 0)).setCell (p:=⟨b,6,none⟩) h.lo (.int .i64 0)),(Z8 (Z8 (Z8 (Z8 (Z8 (Z8 (Z8 (grownBy_refl w (some b)) (Rd.frame 14 _)) (Rd.frame 15 _)) (Rd.frame 16 _)) (Rd.frame 17 _)) (Rd.frame 13 _)) (Rd.frame 7 _)) (Rd.frame 6 _))⟩;clear b0 b1 b2 b3 b4 b5 b6 k0 k1 k2 k3 k4 k5 k6;clear h;go_enter Tryz.func114,Tryz.ntmps114;go_wp2;refine bodyPost_end (results_none rfl _ _ _) rfl ⟨rfl,HN.out⟩
structure Gr2 (w:World) (b:Nat) (v:Value) (w':World) (v':Value):Prop where
 os:w'.os=w.os
 tape:w'.tape=w.tape
 output:w'.output=w.output
 size:w.heap.size<=w'.heap.size
 block:∀ k,k<w.heap.size->k≠b->some k≠v.ownBlock->w'.heap[k]? = w.heap[k]?
 at':v'.ownBlock=v.ownBlock∨∃ k,v'.ownBlock=some k/\w.heap.size<=k
theorem count_set:∀(l:List Bool) (i:Nat),l[i]? = some false->(l.set i true).count false+1=l.count false
 | [],i,h=>by simp at h
 | b :: l,0,h=>by
  simp at h;subst h;simp
 | b :: l,i+1,h=>by
  have:=count_set l i (by simpa using h);simp only [List.set_cons_succ,List.count_cons];omega
theorem Y9 {md:Region.Mode}{ops:Array Oper}{L:Array Bool}{i:Nat}(hs:L.size=ops.size)(h:i∈Region.ready md ops L):i<ops.size/\L[i]? = some false:=by
 have h1:=List.mem_filter.1 h;have hi:i<ops.size:=List.mem_range.1 h1.1;refine ⟨hi,?_⟩;have h2:=h1.2;simp only [Bool.and_eq_true] at h2;have h3:=h2.1;rw [Array.getElem?_eq_getElem (by omega)];simp [Array.getD,show i<L.size by omega] at h3;simp [h3]
def Z0q (md:Region.Mode)(ops:Array Oper)(i:Nat):List Nat:=((ops[i]?).map fun o=>(o.after.toList.filter (Region.binds md)).map (·.on)).getD []
theorem Z7 {md:Region.Mode}{ops:Array Oper}{L:Array Bool}{i j:Nat}(h:i∈Region.ready md ops L)(hj:j∈Z0q md ops i):L.getD j false=true:=by
 have h1:=List.mem_filter.1 h;have hi:i<ops.size:=List.mem_range.1 h1.1;have h2:=h1.2;simp only [Bool.and_eq_true] at h2;have h3:=h2.2;unfold Z0q at hj;rw [Array.getElem?_eq_getElem hi] at h3 hj;simp only [Option.map_some,Option.getD_some] at h3 hj;obtain ⟨e,he,rfl⟩:=List.mem_map.1 hj;obtain ⟨he1,he2⟩:=List.mem_filter.1 he;have h4:=(Array.all_eq_true_iff_forall_mem.1 h3) e (by simpa using he1);simpa [he2] using h4
theorem wpAny_inv {P:Program}{ops:Array Oper}{Q:Exit->Act->World->Prop}{md:Region.Mode}(J:Array Bool->Act->World->Prop)
  (hstep:∀ L a w i,L.size=ops.size->i∈Region.ready md ops L->J L a w->wpOp P ops Q i (J (L.setIfInBounds i true)) a w)
  (hend:∀ L a w,L.size=ops.size->Region.ready md ops L = []->J L a w->Q .normal a w) :
  ∀(fuel:Nat) (L:Array Bool) (a:Act) (w:World),L.size=ops.size->L.toList.count false<=fuel->J L a w->wpAny P md ops Q fuel L a w
 | 0,L,a,w,hs,hc,hJ=>by
  have hr:Region.ready md ops L = []:=by
   cases h:Region.ready md ops L with
   | nil=>rfl
   | cons x xs=>
    obtain ⟨h1,h2⟩:=Y9 (md:=md) hs (show x∈Region.ready md ops L by rw [h];simp);have:false∈L.toList:=List.mem_iff_getElem?.2 ⟨x,by simpa using h2⟩;have:=List.count_pos_iff.2 this;omega
  exact ⟨hr,hend L a w hs hr hJ⟩
 | fuel+1,L,a,w,hs,hc,hJ=>by
  refine ⟨fun h=>hend L a w hs h hJ,fun i hi=>?_⟩;obtain ⟨h1,h2⟩:=Y9 hs hi;refine wpOp_mono (fun a' w' hJ'=>wpAny_inv J hstep hend fuel _ a' w' (by simpa using hs) ?_ hJ') (hstep L a w i hs hi hJ);have:=count_set L.toList i (by simpa using h2);simp only [Array.toList_setIfInBounds];omega
theorem Yv {P:Program}{id:Nat}{ops:Array Oper}{Q:Exit->Act->World->Prop}{a:Act}{w:World}(hm:P.follows .mixedOrders=true)(J:Array Bool->Act->World->Prop)
  (h0:J (Array.replicate ops.size false) a w.drew)
  (hstep:∀ L a w i,L.size=ops.size->i∈Region.ready .any ops L->J L a w->wpOp P ops Q i (J (L.setIfInBounds i true)) a w)
  (hend:∀ L a w,L.size=ops.size->Region.ready .any ops L = []->J L a w->Q .normal a w):(Code.region id ops true).wp P Q a w:=
 wp_region_any hm (wpAny_inv J hstep hend ops.size _ a _ (by simp) (by simp) h0)
theorem wp_named {P:Program}{c:Code}{Q:Exit->Act->World->Prop}{a:Act}{w:World}(h:∀ a0,a0=a->c.wp P Q a0 w):c.wp P Q a w:=h a rfl
theorem Za {P:Program}{ops:Array Oper}{Q:Exit->Act->World->Prop}{i:Nat}{K:Act->World->Prop}{a:Act}{w:World}{o:Oper}(hi:ops[i]? = some o)(hg:o.guard=none)(h:o.wp P a w K Q):wpOp P ops Q i K a w:=by
 unfold wpOp;rw [hi];simp only [Region.wanted,hg,if_true];exact .inl h
theorem Z0t (L:Array Bool)(i j:Nat)(hi:i<L.size):(L.setIfInBounds i true).getD j false=(decide (j=i) || L.getD j false):=by
 simp only [Array.getD_eq_getD_getElem?,Array.getElem?_setIfInBounds];by_cases h:i=j
 ·subst h;simp [hi]
 ·have h':¬ j=i:=fun e=>h e.symm
  simp [h,h']
theorem Z0 {L:Array Bool}{i j:Nat}(h:(L.setIfInBounds i true).getD j false=true)(hi:i<L.size)(hne:j≠i):L.getD j false=true:=by
 rw [Z0t L i j hi] at h;simpa [hne] using h
theorem Y3 {L:Array Bool}{i j:Nat}(h:L.getD j false=true)(hi:i<L.size):(L.setIfInBounds i true).getD j false=true:=by
 rw [Z0t L i j hi,h];simp
theorem J4 {L:Array Bool}{i:Nat}(hi:i<L.size):(L.setIfInBounds i true).getD i false=true:=by
 rw [Z0t L i i hi];simp
theorem readyBit {md:Region.Mode}{ops:Array Oper}{L:Array Bool}{i:Nat}(hs:L.size=ops.size)(h:i∈Region.ready md ops L)(hd:L.getD i false=true):False:=by
 have hn:=(Y9 hs h).2;rw [Array.getD_eq_getD_getElem?,hn] at hd;simp at hd
theorem Zt {n j:Nat}(h:(Array.replicate n false).getD j false=true):False:=by
 simp only [Array.getD_eq_getD_getElem?,Array.getElem?_replicate] at h;split at h <;> simp at h
theorem Xi {md:Region.Mode}{ops:Array Oper}{L:Array Bool}(hs:L.size=ops.size)(h:Region.ready md ops L = [])(hord:(List.range ops.size).all (fun i=>(Z0q md ops i).all (· < i))=true):∀ j,j<ops.size->L.getD j false=true:=by
 intro j
 induction j using Nat.strongRecOn with
 | _ j ih=>
  intro hj
  cases hb:L.getD j false with
  | true=>rfl
  | false=>
   exfalso
   have hm:j∈Region.ready md ops L:=by
    refine List.mem_filter.2 ⟨List.mem_range.2 hj,?_⟩;have hjL:j<L.size:=by omega
    rw [Array.getElem?_eq_getElem hj];simp only [Option.map_some,Option.getD_some,Bool.and_eq_true];refine ⟨?_,Array.all_eq_true_iff_forall_mem.2 fun e he=>?_⟩
    ·simp only [Array.getD,hjL,dif_pos] at hb ⊢
     simpa using hb
    ·cases hbd:Region.binds md e with
     | false=>rfl
     | true=>
      have hn:e.on∈Z0q md ops j:=by
       unfold Z0q;rw [Array.getElem?_eq_getElem hj];simp only [Option.map_some,Option.getD_some];exact List.mem_map.2 ⟨e,List.mem_filter.2 ⟨by simpa using he,hbd⟩,rfl⟩
      have hl:e.on<j:=by
       have h1:=List.all_eq_true.1 hord j (List.mem_range.2 hj);simpa using List.all_eq_true.1 h1 e.on hn
      simp [ih e.on hl (by omega)]
   rw [h] at hm;cases hm
theorem Yi {a:Act}{w:World}{K:Act->World->Prop}{Q:Exit->Act->World->Prop}{o:Oper}{N:FuncId}{ags:Array Operand}{ts:Array TypeId}(ho:o.op=.call ⟨.value (.func N),ags,ts⟩)
  (hN:∀ args w,(callFunc N args).run Tryz.prog w=.ok (.enter N args) w) (args:Array Value) (hA:ags.map a.eval=args)
  (hc:Calls Tryz.prog N args w fun e w'=>∃ v,e=.returned v/\K (a.put o.dst v) w'):o.wp Tryz.prog a w K Q:=by
 subst hA;unfold Oper.wp execOp;simp only [ho,resolve,Act.eval,Deferred.ofValue,invoke];go_simp;exact hc.mono fun e w' ⟨v,hv,hk⟩=>by subst hv;exact hk
theorem Zl {a:Act}{w:World}{K:Act->World->Prop}{Q:Exit->Act->World->Prop}{o:Oper}{v:Value}(he:(execOp a.eval o).run Tryz.prog w=.ok (.value v) w)(h:K (a.put o.dst v) w):o.wp Tryz.prog a w K Q:=by
 unfold Oper.wp;rw [he];exact h
theorem Y2 {a:Act}{w:World}{K:Act->World->Prop}{Q:Exit->Act->World->Prop}{o:Oper}(x:Operand)(ho:o.op=.move x∨o.op=.assign x)(h:K (a.put o.dst (a.eval x)) w):o.wp Tryz.prog a w K Q:=by
 unfold Oper.wp execOp;rcases ho with ho | ho <;> simp only [ho,Sem.run_pure] <;> exact h
theorem Z2n {a:Act}{w:World}{K:Act->World->Prop}{Q:Exit->Act->World->Prop}{o:Oper}(T:TypeId)(Z:Array Value)(ho:o.op=.alloc T)
  (hz:∀ u:World,(Instr.alloc T true (.tuple #[])).run Tryz.prog u=.ok (.pointer (some ⟨u.heap.size,0,none⟩)) (u.alloc (.cells Z T)))
  (h:K (a.put o.dst (.pointer (some ⟨w.heap.size,0,none⟩))) (w.alloc (.cells Z T))):o.wp Tryz.prog a w K Q:=by
 unfold Oper.wp execOp;simp only [ho,Sem.run_bind,hz,Result.andThen_ok,Sem.run_pure];exact h
def frame (a0:Act)(ds:List Nat)(x:Nat->Value):Act:={ a0 with tmps:=(a0.tmps.toList.zipIdx.map fun p=>if ds.contains p.2 then x p.2 else p.1).toArray }
theorem Z0f (a0:Act)(ds:List Nat)(x:Nat->Value)(t:Nat):(frame a0 ds x).tmps[t]? = a0.tmps[t]?.map fun v=>if ds.contains t then x t else v:=by
 simp only [frame,List.getElem?_toArray,List.getElem?_map,List.getElem?_zipIdx,Array.getElem?_toList,Option.map_map];cases a0.tmps[t]? <;> simp
theorem Z39 (a0:Act)(ds:List Nat)(x:Nat->Value):(frame a0 ds x).tmps.size=a0.tmps.size:=by simp [frame]
theorem Zm (a0:Act)(ds:List Nat)(x:Nat->Value)(t:Nat)(h:ds.contains t=false):(frame a0 ds x).eval (.tmp t)=a0.eval (.tmp t):=by
 have:=Z0f a0 ds x t;simp only [Act.eval,Array.getD_eq_getD_getElem?,this,h];cases a0.tmps[t]? <;> simp
theorem Z5 (a0:Act)(ds:List Nat)(x:Nat->Value)(t:Nat)(h:ds.contains t=true)(hlt:t<a0.tmps.size):(frame a0 ds x).eval (.tmp t)=x t:=by
 have:=Z0f a0 ds x t;rw [Array.getElem?_eq_getElem hlt] at this;simp only [Act.eval,Array.getD_eq_getD_getElem?,this,h];simp
def upd (x:Nat->Value)(k:Nat)(v:Value):Nat->Value:=fun t=>if t=k then v else x t
theorem Zh (x:Nat->Value)(k:Nat)(v:Value):upd x k v k=v:=by simp [upd]
theorem Z3 (x:Nat->Value)(k t:Nat)(v:Value)(h:t≠k):upd x k v t=x t:=by simp [upd,h]
theorem ku {P:Prop}{L:Array Bool}{i j:Nat}(hk:L.getD j false=true->P)(hi:i<L.size)(hne:j≠i)(h:(L.setIfInBounds i true).getD j false=true):P:=hk (Z0 h hi hne)
theorem ke {x:Nat->Value}{t k:Nat}{v V:Value}{L:Array Bool}{i j:Nat}(hk:L.getD j false=true->x t=V)(hi:i<L.size)(hne:j≠i)(ht:t≠k)(h:(L.setIfInBounds i true).getD j false=true):upd x k v t=V:=(Z3 x k t v ht).trans (hk (Z0 h hi hne))
theorem act_ext {a b:Act}(h1:∀ t:Nat,a.tmps[t]? = b.tmps[t]?)(h2:a.defers=b.defers):a=b:=by
 obtain ⟨t1,d1⟩:=a;obtain ⟨t2,d2⟩:=b;have:t1=t2:=Array.ext_getElem? h1;subst this;subst h2;rfl
theorem Zd (a0:Act)(ds:List Nat)(x:Nat->Value)(k:Nat)(v:Value)(h:ds.contains k=true):(frame a0 ds x).put (some k) v=frame a0 ds (upd x k v):=by
 refine act_ext (fun t=>?_) rfl;rw [Z0f];show ((frame a0 ds x).tmps.setIfInBounds k v)[t]? = _;rw [Array.getElem?_setIfInBounds];by_cases e:k=t
 ·subst e
  rw [Z39];by_cases hl:k<a0.tmps.size
  ·rw [if_pos rfl,if_pos hl,Array.getElem?_eq_getElem hl]
   simp only [Option.map_some,h,if_true,upd]
  ·rw [if_pos rfl,if_neg hl,Array.getElem?_eq_none (by omega)]
   rfl
 ·rw [if_neg e,Z0f]
  have e':¬ t=k:=fun h=>e h.symm
  simp [upd,e']
theorem Xn (a0:Act)(ds:List Nat):a0=frame a0 ds (fun t=>a0.tmps.getD t undef):=by
 refine act_ext (fun t=>?_) rfl;rw [Z0f]
 cases h:a0.tmps[t]? with
 | none=>rfl
 | some v=>simp [Array.getD_eq_getD_getElem?,h]
theorem sizeMg:(Tryz.prog.info? 43).map (·.size)=some 10:=by kernel_rfl
def RV.sent (x:RV)(v:Value)(y:Om):RV:={ x with vo:=v,L:=x.L ++ [y] }
theorem Zv.sendAt {w w2 w3:World}{B b:Nat}{r:Rn}{x:RV}{m:Mg}{a:Option Addr}{c:Nat}{v:Value}(h:Zv w B b r x)(he:Zp w B (.slice a m.es.length c) m.es)(h2:Below w.heap.size w w2)
  (ho:Zg omC 10 43 w3 B v (x.L ++ [⟨{ m with fr:=r.n.id },a,c⟩])) (hg:Xa w2 x.vo w3 v) :
  Zv (w3.setCell ⟨b,18,none⟩ v) B b (r.send m) (x.sent v ⟨{ m with fr:=r.n.id },a,c⟩)/\Below B w (w3.setCell ⟨b,18,none⟩ v)/\Gr2 w b x.vo (w3.setCell ⟨b,18,none⟩ v) v:=by
 have hs2:=h2.size;have hno:∀ k,x.vo.ownBlock=some k->B<=k/\k<w.heap.size/\k≠b:=fun k e=>⟨(h.out.lts k e).1,(h.out.lts k e).2,Zu h.out h.blk (by decide) k e⟩
 have hk3:∀ k,k<w.heap.size->x.vo.ownBlock≠some k->w3.heap[k]? = w.heap[k]?:=fun k hk hne=>(hg.g.block k (by omega) (fun e=>hne e.symm)).trans (h2.block k hk)
 have hbb:Blk w3 b (rnC r x) 112:=h.blk.keep (hk3 b h.lt fun e=>(hno b e).2.2 rfl);have hset:∀ k,k≠b->(w3.setCell ⟨b,18,none⟩ v).heap[k]? = w3.heap[k]?:=fun k hk=>Below.heap_setCell _ _ _ _ hk
 have hap:∀ {α:Type} {cs:α->List Value} {m':Nat} {T:TypeId} {u:Value} {l:List α},T≠112->T≠43->Zg cs m' T w B u l->Zg cs m' T (w3.setCell ⟨b,18,none⟩ v) B u l:=fun h1 hT ho'=>ho'.block fun k e=>(hset k (Zu ho' h.blk h1 k e)).trans (hk3 k (ho'.lts k e).2 fun e'=>by
  obtain ⟨-,⟨hx,-⟩ | ⟨g,cap,cur,hx,-,hb',-⟩⟩:=h.out
  ·rw [hx] at e';cases e'
  obtain ⟨-,⟨hy,-⟩ | ⟨g2,cap2,cur2,hy,-,hb2,-⟩⟩:=ho'
  ·rw [hy] at e;cases e
  rw [hx] at e';rw [hy] at e;cases e';cases e;rw [hb2] at hb';simp only [Option.some.injEq,Obj.cells.injEq] at hb';exact hT hb'.2.1)
 have hae:∀ {u:Value} {l:List Ent},Zp w B u l->Zp (w3.setCell ⟨b,18,none⟩ v) B u l:=fun ho'=>ho'.block fun k e=>(hset k (Ym ho' h.blk (by decide) k e)).trans (hk3 k (World.ownsRow.lt ho'.2 k e).2 fun e'=>by
  obtain ⟨-,⟨hx,-⟩ | ⟨g,cap,cur,hx,-,hb',-⟩⟩:=h.out
  ·rw [hx] at e';cases e'
  obtain ⟨-,-,⟨hy,-⟩ | ⟨g2,cap2,cur2,hy,-,hb2,-⟩⟩:=ho'
  ·rw [hy] at e;cases e
  rw [hx] at e';rw [hy] at e;cases e';cases e;rw [hb2] at hb';simp only [Option.some.injEq,Obj.cells.injEq] at hb';exact absurd hb'.2.1 (by decide))
 refine ⟨⟨hbb.set 18 v,h.lo,hae h.log,hap (by decide) (by decide) h.gr,hap (by decide) (by decide) h.nx,hap (by decide) (by decide) h.mt,hap (by decide) (by decide) h.se,hap (by decide) (by decide) h.st,ho.block fun k e=>hset k ?_,?_,?_,h.ap⟩,?_,?_⟩
 ·rcases hg.at' with e' | ⟨g,e',hk⟩
  ·rw [e] at e';exact (hno k e'.symm).2.2
  ·rw [e] at e';cases e';have:=h.lt;omega
 ·show (x.L ++ [(⟨{ m with fr:=r.n.id },a,c⟩:Om)]).map Om.m=r.out ++ [{ m with fr:=r.n.id }]
  rw [List.map_append];exact congrArg (· ++ [{ m with fr:=r.n.id }]) h.outC
 ·intro p hp
  rcases List.mem_append.1 hp with hp | hp
  ·exact hae (h.ents p hp)
  ·rw [List.mem_singleton] at hp
   subst hp;exact hae he
 ·refine Below.setCell (p:=⟨b,18,none⟩) (w:=w3) ?_ h.lo v
  have hBs:B<=w.heap.size:=Nat.le_trans h.lo (Nat.le_of_lt h.lt);exact ((Below.refl B w).trans (h2.mono hBs)).grown hg.g (by omega) (fun k e=>(hno k e).1)
 ·have hs3:=hg.g.size
  exact ⟨hg.g.os.trans h2.os,hg.g.tape.trans h2.tape,hg.g.output.trans h2.output,by simp [World.setCell];omega,fun k hk hn hv=>(hset k hn).trans (hk3 k hk fun e=>hv e.symm),hg.at'.imp id fun ⟨k,e,hk⟩=>⟨k,e,by omega⟩⟩
theorem Z33 (b:Nat)(r:Rn)(x:RV)(m:Mg)(ea:Option Addr)(ec:Nat)(w:World)(B:Nat)(h:Zv w B b r x)(he:Zp w B (.slice ea m.es.length ec) m.es)(hl:x.L.length<=100000) :
  Calls Tryz.prog 146 #[.pointer (some ⟨b,0,none⟩),.agg #[.int .i64 m.ki,.int .i64 m.fr,.int .i64 m.td,.int .i64 m.tm,.int .i64 m.li,.int .i64 m.lt,.int .i64 m.cm,.int .i64 m.ok,.int .i64 m.hi,.slice ea m.es.length ec]] w fun e w'=>∃ v y,e=.returned (.tuple #[])/\Zv w' B b (r.send m) (x.sent v y)/\Below B w w'/\Gr2 w b x.vo w' v:=by
 have HR:Hid _:=h;have HE:Hid (Zp w B (.slice ea m.es.length ec) m.es):=he;have c0:w.cell? ⟨b,0,none⟩=some (.int .i64 r.n.id):=h.blk.cell 0;have c18:w.cell? ⟨b,18,none⟩=some x.vo:=h.blk.cell 18;have f18:w.frozen? ⟨b,18,none⟩=false:=h.blk.free 18;have hlt:=h.lt;have hBw:B<=w.heap.size:=Nat.le_trans h.lo (Nat.le_of_lt h.lt);obtain ⟨va,vc,hvo⟩:=h.out.shape;rw [hvo] at c18;have HVo:Hid (x.vo=.slice va x.L.length vc):=hvo;have HLl:Hid (∀ l,l=x.L->l.length<=100000):=fun l e=>by rw [e];exact hl
 clear h he hvo;generalize x.L.length=xn at *;go_enter Tryz.func146,Tryz.ntmps146;go_wp2;have BM:Hid (Blk (w.alloc (.cells #[.int .i64 m.ki,.int .i64 r.n.id,.int .i64 m.td,.int .i64 m.tm,.int .i64 m.li,.int .i64 m.lt,.int .i64 m.cm,.int .i64 m.ok,.int .i64 m.hi,.slice ea m.es.length ec] 43)) w.heap.size #[.int .i64 m.ki,.int .i64 r.n.id,.int .i64 m.td,.int .i64 m.tm,.int .i64 m.li,.int .i64 m.lt,.int .i64 m.cm,.int .i64 m.ok,.int .i64 m.hi,.slice ea m.es.length ec] 43):=Blk.new _ _ _;have HB2:Hid (Below w.heap.size w (w.alloc (.cells #[.int .i64 m.ki,.int .i64 r.n.id,.int .i64 m.td,.int .i64 m.tm,.int .i64 m.li,.int .i64 m.lt,.int .i64 m.cm,.int .i64 m.ok,.int .i64 m.hi,.slice ea m.es.length ec] 43))):=(Below.refl _ _).alloc (Nat.le_refl _) _;have hz2:w.heap.size<(w.alloc (.cells #[.int .i64 m.ki,.int .i64 r.n.id,.int .i64 m.td,.int .i64 m.tm,.int .i64 m.li,.int .i64 m.lt,.int .i64 m.cm,.int .i64 m.ok,.int .i64 m.hi,.slice ea m.es.length ec] 43)).heap.size:=by simp
 generalize w.alloc (.cells #[.int .i64 m.ki,.int .i64 r.n.id,.int .i64 m.td,.int .i64 m.tm,.int .i64 m.li,.int .i64 m.lt,.int .i64 m.cm,.int .i64 m.ok,.int .i64 m.hi,.slice ea m.es.length ec] 43)=w2 at *;clear c0 c18 f18;have HR2:Hid (Zv w2 B b r x):=HR.out.below HB2.out;have HO2:Hid (Zg omC 10 43 w2 B (.slice va xn vc) x.L):=by unfold Hid;rw [<-HVo.out];exact HR2.out.out
 have c18:w2.cell? ⟨b,18,none⟩=some (.slice va xn vc):=by rw [<-HVo.out];exact HR2.out.blk.cell 18
 have BR2:Hid (Blk w2 b (rnC r x) 112):=HR2.out.blk;have q0:w2.cell? ⟨w.heap.size,0,none⟩=some (.int .i64 m.ki):=BM.out.cell 0;have q1:w2.cell? ⟨w.heap.size,1,none⟩=some (.int .i64 r.n.id):=BM.out.cell 1;have q2:w2.cell? ⟨w.heap.size,2,none⟩=some (.int .i64 m.td):=BM.out.cell 2;have q3:w2.cell? ⟨w.heap.size,3,none⟩=some (.int .i64 m.tm):=BM.out.cell 3;have q4:w2.cell? ⟨w.heap.size,4,none⟩=some (.int .i64 m.li):=BM.out.cell 4;have q5:w2.cell? ⟨w.heap.size,5,none⟩=some (.int .i64 m.lt):=BM.out.cell 5;have q6:w2.cell? ⟨w.heap.size,6,none⟩=some (.int .i64 m.cm):=BM.out.cell 6;have q7:w2.cell? ⟨w.heap.size,7,none⟩=some (.int .i64 m.ok):=BM.out.cell 7;have q8:w2.cell? ⟨w.heap.size,8,none⟩=some (.int .i64 m.hi):=BM.out.cell 8;have q9:w2.cell? ⟨w.heap.size,9,none⟩=some (.slice ea m.es.length ec):=BM.out.cell 9;have pa:∀(o:Obj) (j:Nat),(w2.alloc o).cell? ⟨b,j,none⟩=w2.cell? ⟨b,j,none⟩:=fun o j=>World.cell?_alloc_lt _ _ _ (by show b<w2.heap.size;omega)
 have pa':∀(o:Obj) (j:Nat),(w2.drew.alloc o).cell? ⟨b,j,none⟩=w2.cell? ⟨b,j,none⟩:=fun o j=>World.cell?_alloc_lt _ _ _ (by show b<w2.heap.size;omega)
 have hne1:¬ w2.heap.size=b:=by omega
 have hne2:¬ b=w2.heap.size:=by omega
 have HNO:Hid ((Value.slice va xn vc).ownBlock≠some b):=fun e=>Zu HO2.out BR2.out (by decide) b e rfl
 have HFin:Hid (∀ w3 v,Zg omC 10 43 w3 B v (x.L ++ [⟨{ m with fr:=r.n.id },ea,ec⟩])->∀ w4,Below w2.heap.size w2 w4->Xa w4 (.slice va xn vc) w3 v->Zv (w3.setCell ⟨b,18,none⟩ v) B b (r.send m) (x.sent v ⟨{ m with fr:=r.n.id },ea,ec⟩)/\Below B w (w3.setCell ⟨b,18,none⟩ v)/\Gr2 w b x.vo (w3.setCell ⟨b,18,none⟩ v) v):=fun w3 v ho w4 h4 hg=>by
  rw [<-HVo.out] at hg;exact HR.out.sendAt HE.out (HB2.out.trans (h4.mono HB2.out.size)) ho hg
 clear HR HE HVo HR2 HB2
 go_region_law
  (refine Z0u omLaw rfl (.tmp 14) (.tmp 16) rfl ⟨{ m with fr:=r.n.id },ea,ec⟩ (Zg.below (Zg.below HO2.out ((Below.refl _ _).drew)) ((Below.refl _ _).alloc (Nat.le_refl _) _)) rfl w2.heap.size 1 (Z1e w2.drew (omC ⟨{ m with fr:=r.n.id },ea,ec⟩) 43) rfl (by have:=HLl.out x.L rfl;omega) (by simp;omega) ?_;intro v3 w3 ho3 hg3;have HO3:Hid (Zg omC 10 43 w3 B v3 (x.L ++ [⟨{ m with fr:=r.n.id },ea,ec⟩])):=ho3;obtain ⟨a3,c3,e3⟩:=ho3.shape;rw [List.length_append,List.length_singleton] at e3;have HG3:Hid (Xa _ (.slice va xn vc) w3 v3):=hg3;have BR3:Hid (Blk w3 b (rnC r x) 112):=(BR2.out.drew.alloc _).keep (hg3.g.block b (by simp;omega) (fun e=>HNO.out e.symm));obtain ⟨vq,p18⟩:∃ vq,w3.cell? ⟨b,18,none⟩=some vq:=⟨_,BR3.out.cell 18⟩;have pf:=BR3.out.free;subst e3;clear ho3 hg3)
 all_goals go_wp2
 all_goals (
  (try simp only [Exit.inBlock,Exit.then])
  refine bodyPost_end (results_none rfl _ _ _) rfl ⟨_,_,rfl,HFin.out _ _ HO3.out _ ((Below.refl _ _).drew.alloc (Nat.le_refl _) _) HG3.out⟩)
theorem blk_ne {w:World}{b q:Nat}{C D:Array Value}{t u:TypeId}(h:Blk w b C t)(k:Blk w q D u)(hne:t≠u):b≠q:=by
 rintro rfl;unfold Blk at h k;rw [h] at k;simp only [Option.some.injEq,Obj.cells.injEq] at k;exact hne k.2.1
theorem Zv.other {w w':World}{B b q:Nat}{r:Rn}{x:RV}{C:Array Value}(h:Zv w B b r x)(hq:Blk w q C 43)(hne:∀ g,x.vo.ownBlock=some g->g≠q)(hk:∀ k,k≠q->k<w.heap.size->w'.heap[k]? = w.heap[k]?):Zv w' B b r x:=by
 have hg:∀ {α:Type} {cs:α->List Value} {m:Nat} {T:TypeId} {v:Value} {l:List α},T≠43->Zg cs m T w B v l->Zg cs m T w' B v l:=fun hT ho=>ho.block fun k hk'=>hk k (Zu ho hq hT k hk') (ho.lts k hk').2
 have he:∀ {v:Value} {l:List Ent},Zp w B v l->Zp w' B v l:=fun ho=>ho.block fun k hk'=>hk k (Ym ho hq (by decide) k hk') (World.ownsRow.lt ho.2 k hk').2
 exact ⟨h.blk.keep (hk b (blk_ne h.blk hq (by decide)) h.lt),h.lo,he h.log,hg (by decide) h.gr,hg (by decide) h.nx,hg (by decide) h.mt,hg (by decide) h.se,hg (by decide) h.st,h.out.block fun k hk'=>hk k (hne k hk') (h.out.lts k hk').2,h.outC,fun p hp=>he (h.ents p hp),h.ap⟩
theorem ownE_ne {w:World}{B:Nat}{u v:Value}{l:List Ent}{L:List Om}(h:Zp w B u l)(k:Zg omC 10 43 w B v L):∀ j,u.ownBlock=some j->v.ownBlock≠some j:=by
 intro j e e';obtain ⟨-,-,⟨rfl,-⟩ | ⟨g,cap,cur,rfl,-,hb,-⟩⟩:=h
 ·cases e
 obtain ⟨-,⟨rfl,-⟩ | ⟨g2,cap2,cur2,rfl,-,hb2,-⟩⟩:=k
 ·cases e'
 cases e;cases e';rw [hb] at hb2;simp only [Option.some.injEq,Obj.cells.injEq] at hb2;exact absurd hb2.2.1 (by decide)
theorem allK_n (m:Mg)(k:Nat)(r:Rn):(Rn.allK m k r).n=r.n:=by
 induction k with
 | zero=>rfl
 | succ k ih=>
  rw [Rn.allK];split
  ·exact ih
  ·exact ih
structure AllI (m:Mg) (ea:Option Addr) (ec:Nat) (r:Rn) (w wr:World) (B b q l0 k:Nat) (x:RV) (t:Int):Prop where
 run:Zv wr B b (Rn.allK m k r) x
 blk:Blk wr q #[.int .i64 m.ki,.int .i64 m.fr,.int .i64 t,.int .i64 m.tm,.int .i64 m.li,.int .i64 m.lt,.int .i64 m.cm,.int .i64 m.ok,.int .i64 m.hi,.slice ea m.es.length ec] 43
 bl:Below B w wr
 ll:x.L.length<=l0+k
 ne:∀ g,x.vo.ownBlock=some g->g≠q
 ent:Zp wr B (.slice ea m.es.length ec) m.es
 qB:B<=q
theorem l4all_any (b:Nat)(r:Rn)(x:RV)(m:Mg)(ea:Option Addr)(ec:Nat)(w:World)(B:Nat)(h:Zv w B b r x)(he:Zp w B (.slice ea m.es.length ec) m.es)(hl:x.L.length<=1000)(hs0:0<=r.n.sz)(hs7:r.n.sz<=7)(hid:1<=r.n.id) :
  Calls Tryz.prog 117 #[.pointer (some ⟨b,0,none⟩),.agg #[.int .i64 m.ki,.int .i64 m.fr,.int .i64 m.td,.int .i64 m.tm,.int .i64 m.li,.int .i64 m.lt,.int .i64 m.cm,.int .i64 m.ok,.int .i64 m.hi,.slice ea m.es.length ec]] w fun e w'=>∃ x',e=.returned (.tuple #[])/\Zv w' B b (Rn.allK m r.n.sz.toNat r) x'/\Below B w w'/\x'.L.length<=x.L.length+7:=by
 have hBw:B<=w.heap.size:=Nat.le_trans h.lo (Nat.le_of_lt h.lt);have HI0:Hid (AllI m ea ec r w (w.alloc (.cells #[.int .i64 m.ki,.int .i64 m.fr,.int .i64 m.td,.int .i64 m.tm,.int .i64 m.li,.int .i64 m.lt,.int .i64 m.cm,.int .i64 m.ok,.int .i64 m.hi,.slice ea m.es.length ec] 43)) B b w.heap.size x.L.length 0 x m.td):=⟨h.below ((Below.refl _ _).alloc (Nat.le_refl _) _),Blk.new _ _ _,(Below.refl _ _).alloc hBw _,Nat.le_refl _,fun g e=>by have:=(h.out.lts g e).2;omega,he.below ((Below.refl _ _).alloc (Nat.le_refl _) _),hBw⟩;obtain ⟨N,hN⟩:∃ N:Nat,r.n.sz=N:=⟨r.n.sz.toNat,by omega⟩;have hNt:r.n.sz.toNat=N:=by omega
 rw [hNt];have HN:Hid (r.n.sz=N):=hN;have hN7:N<=7:=by omega
 have hqr:w.heap.size<(w.alloc (.cells #[.int .i64 m.ki,.int .i64 m.fr,.int .i64 m.td,.int .i64 m.tm,.int .i64 m.li,.int .i64 m.lt,.int .i64 m.cm,.int .i64 m.ok,.int .i64 m.hi,.slice ea m.es.length ec] 43)).heap.size:=by simp
 clear h he hN hNt hs0 hs7;go_enter Tryz.func117,Tryz.ntmps117;go_wp2;generalize w.alloc (.cells #[.int .i64 m.ki,.int .i64 m.fr,.int .i64 m.td,.int .i64 m.tm,.int .i64 m.li,.int .i64 m.lt,.int .i64 m.cm,.int .i64 m.ok,.int .i64 m.hi,.slice ea m.es.length ec] 43)=w1 at *
 go_loopw [4] (fun iv wr=>∃(k:Nat) (xx:RV) (t:Int),k<=N/\iv=.int .i64 ((k:Int)+1)/\AllI m ea ec r w wr B b w.heap.size x.L.length k xx t) (fun iv _=>N+1-(intOf iv).toNat)
 case atStart=>exact ⟨0,x,m.td,Nat.zero_le _,rfl,HI0.out⟩
 case round=>
  obtain ⟨k,xx,t,hk,rfl,hI⟩:=hrel;have HI:Hid (AllI m ea ec r w wr B b w.heap.size x.L.length k xx t):=hI;have c0:wr.cell? ⟨b,0,none⟩=some (.int .i64 r.n.id):=by have h9:=hI.run.blk.cell 0;rw [<-allK_n m k r];exact h9
  have c1:wr.cell? ⟨b,1,none⟩=some (.int .i64 (N:Int)):=by have h9:=hI.run.blk.cell 1;rw [<-HN.out,<-allK_n m k r];exact h9
  have c2:wr.cell? ⟨w.heap.size,2,none⟩=some (.int .i64 t):=hI.blk.cell 2;have f2:wr.frozen? ⟨w.heap.size,2,none⟩=false:=hI.blk.free 2;have hbq:b≠w.heap.size:=blk_ne hI.run.blk hI.blk (by decide);clear hI HI0;by_cases hlt:k<N
  ·have hle:((k:Int)+1)<=(N:Int):=by omega
   by_cases hid2:(k:Int)+1=r.n.id
   ·have HNx:Hid (Rn.allK m (k+1) r=Rn.allK m k r):=by unfold Hid;rw [Rn.allK,if_pos hid2]
    have hb1:(((k:Int)+1) != r.n.id)=false:=by rw [bne_eq_false_iff_eq];exact hid2
    have HK:Hid (AllI m ea ec r w wr B b w.heap.size x.L.length (k+1) xx t):={ HI.out with run:=by rw [HNx.out];exact HI.out.run,ll:=Nat.le_trans HI.out.ll (by omega) };clear hid2 HI HNx;go_wp2
    go_roundw
    case rel=>exact ⟨k+1,xx,t,by omega,by go_num,HK.out⟩
    case measure=>simp [intOf];omega
   ·have HNx:Hid (Rn.allK m (k+1) r=(Rn.allK m k r).send { m with td:=(k:Int)+1 }):=by unfold Hid;rw [Rn.allK,if_neg hid2]
    have hb1:(((k:Int)+1) != r.n.id)=true:=by rw [bne_iff_ne];exact hid2
    obtain ⟨wq,hwq⟩:∃ z,z=wr.setCell ⟨w.heap.size,2,none⟩ (.int .i64 ((k:Int)+1)):=⟨_,rfl⟩;have hkq:∀ j,j≠w.heap.size->j<wr.heap.size->wq.heap[j]? = wr.heap[j]?:=fun j hj _=>by rw [hwq];exact Below.heap_setCell _ _ _ _ hj
    have HRq:Hid (Zv wq B b (Rn.allK m k r) xx):=HI.out.run.other HI.out.blk HI.out.ne hkq;have HBq:Hid (Blk wq w.heap.size #[.int .i64 m.ki,.int .i64 m.fr,.int .i64 ((k:Int)+1),.int .i64 m.tm,.int .i64 m.li,.int .i64 m.lt,.int .i64 m.cm,.int .i64 m.ok,.int .i64 m.hi,.slice ea m.es.length ec] 43):=by rw [hwq];exact HI.out.blk.set 2 _
    have HEq:Hid (Zp wq B (.slice ea m.es.length ec) m.es):=HI.out.ent.block fun j hj=>hkq j (Ym HI.out.ent HI.out.blk (by decide) j hj) (World.ownsRow.lt HI.out.ent.2 j hj).2
    have HBl:Hid (Below B w wq):=by rw [hwq];exact HI.out.bl.setCell (p:=⟨w.heap.size,2,none⟩) HI.out.qB _
    have HSd:Hid (Calls Tryz.prog 146 #[.pointer (some ⟨b,0,none⟩),.agg #[.int .i64 m.ki,.int .i64 m.fr,.int .i64 ((k:Int)+1),.int .i64 m.tm,.int .i64 m.li,.int .i64 m.lt,.int .i64 m.cm,.int .i64 m.ok,.int .i64 m.hi,.slice ea m.es.length ec]] wq fun e w'=>∃ v y,e=.returned (.tuple #[])/\Zv w' B b ((Rn.allK m k r).send { m with td:=(k:Int)+1 }) (xx.sent v y)/\Below B wq w'/\Gr2 wq b xx.vo w' v):=Z33 b _ xx { m with td:=(k:Int)+1 } ea ec wq B HRq.out HEq.out (by have:=HI.out.ll;omega);have hqs:w.heap.size<wq.heap.size:=HBq.out.lt;have HNe:Hid (∀ g,xx.vo.ownBlock=some g->g≠w.heap.size):=HI.out.ne;have HLl:Hid (xx.L.length<=x.L.length+k):=HI.out.ll;have HqB:Hid (B<=w.heap.size):=HI.out.qB;have HSm:Hid (∀ j,(Value.slice ea m.es.length ec).ownBlock=some j->xx.vo.ownBlock≠some j):=fun j hj e'=>ownE_ne HEq.out HRq.out.out j hj e'
    clear hid2 HI hkq;have G1:Hid True:=trivial
    go_wp2_with (first
     |(have hBA:=G1;refine Zx 43 (.tmp 3) rfl ?_;clear hBA;rw [<-hwq];refine Zk rfl 43 (.tmp 3) rfl w.heap.size rfl HBq.out Tryz.underlying43 rfl sizeMg rfl ?_;clear G1 hwq)
     |(go_at_call 146;refine HSd.out.mono ?_;rintro e w5 ⟨v5,y5,rfl,hR5,hb5,hg5⟩;have HK:Hid (AllI m ea ec r w w5 B b w.heap.size x.L.length (k+1) (xx.sent v5 y5) ((k:Int)+1)):=⟨by rw [HNx.out];exact hR5,HBq.out.keep (hg5.block _ hqs (fun e=>hbq e.symm) (fun e=>HNe.out _ e.symm rfl)),HBl.out.trans hb5,(by have:=HLl.out;show (xx.L ++ [y5]).length<=_;rw [List.length_append];simp;omega),(fun g e=>by rcases hg5.at' with e' | ⟨g',e',hk'⟩;exact HNe.out g (e'.symm.trans e);(have h8:some g'=some g:=e'.symm.trans e);cases h8;omega),HEq.out.block (fun j hj=>hg5.block j (World.ownsRow.lt HEq.out.2 j hj).2 (Ym HEq.out HRq.out.blk (by decide) j hj) (fun e=>HSm.out j hj e.symm)),HqB.out⟩;clear hR5 hb5 hg5))
    go_roundw
    case rel=>exact ⟨k+1,_,_,by omega,by go_num,HK.out⟩
    case measure=>simp [intOf];omega
  ·obtain rfl:k=N:=by omega
   have hle:¬((k:Int)+1)<=(k:Int):=by omega
   have HF:Hid (Zv wr B b (Rn.allK m k r) xx/\Below B w wr/\xx.L.length<=x.L.length+7):=⟨HI.out.run,HI.out.bl,Nat.le_trans HI.out.ll (by omega)⟩;clear HI;go_wp2
   (try simp only [Exit.inBlock,Exit.then])
   exact bodyPost_end (results_none rfl _ _ _) rfl ⟨rfl,xx,HF.out⟩
theorem Z0w {B g:Nat}{w0:World}(hg:B<=g):∀(vs:List Value) (o:Nat) (w:World),Below B w0 w->Below B w0 (w.setCells g o vs)
 | [],_,_,h=>h
 | v :: vs,o,w,h=>Z0w hg vs (o+1) _ (h.setCell (show B<=(⟨g,o,none⟩:Addr).block from hg) v)
def idle (o:Oper):Oper:={ o with op:=.move (.const undef),dst:=none,guard:=none }
def Yx (ops:Array Oper)(oz:Oper):Array Oper:=ops.setIfInBounds (ops.size-1) (idle oz)
def lastB (ops:Array Oper)(oz:Oper):Bool:=
 Region.lexB .any (Yx ops oz) && (List.range (ops.size-1)).all (fun j=>(List.range ops.size).any fun i=>decide (j<i) && (Z0q .any ops i).contains j) &&
 ops.all (fun o=>match o.guard with | none=>true | some (j,_)=>j != ops.size-1) && oz.guard.isNone && (List.range ops.size).all (fun i=>(Z0q .any ops i).all (· < i))
section
variable {P:Program} {ops:Array Oper} {oz:Oper} {C:World->Prop}
theorem Z1x (hz:ops[ops.size-1]? = some oz)(i:Nat):(Yx ops oz)[i]? = if i=ops.size-1 then some (idle oz) else ops[i]?:=by
 unfold Yx;rw [Array.getElem?_setIfInBounds];by_cases h:ops.size-1=i
 ·subst h
  rw [if_pos rfl,if_pos rfl,if_pos (Array.getElem?_eq_some_iff.1 hz).1]
 ·rw [if_neg h,if_neg (fun e=>h e.symm)]
theorem Z1m (hz:ops[ops.size-1]? = some oz)(L:Array Bool):Region.ready .any (Yx ops oz) L=Region.ready .any ops L:=by
 unfold Region.ready;rw [show (Yx ops oz).size=ops.size by unfold Yx;simp];refine List.filter_congr fun i hi=>?_
 rw [Z1x hz i];by_cases h:i=ops.size-1
 ·subst h;rw [if_pos rfl,hz];rfl
 ·rw [if_neg h]
theorem Z2p (hz:ops[ops.size-1]? = some oz){o:Oper}(hg:(match o.guard with | none=>true | some (j,_)=>j != ops.size-1)=true)(t:Array Value):Region.wanted o (yielded (Yx ops oz) t)=Region.wanted o (yielded ops t):=by
 unfold Region.wanted
 cases h:o.guard with
 | none=>rfl
 | some g=>
  obtain ⟨j,b⟩:=g;rw [h] at hg;have hj:j≠ops.size-1:=by simpa using hg
  have:yielded (Yx ops oz) t j=yielded ops t j:=by unfold yielded;rw [Z1x hz j,if_neg hj]
  simp only [this]
theorem wpAny_last (hz:ops[ops.size-1]? = some oz)
  (hF:(List.range (ops.size-1)).all (fun j=>(List.range ops.size).any fun i=>decide (j<i) && (Z0q .any ops i).contains j)=true)
  (hG:ops.all (fun o=>match o.guard with | none=>true | some (j,_)=>j != ops.size-1)=true) (hN:oz.guard.isNone=true)
  (hO:(List.range ops.size).all (fun i=>(Z0q .any ops i).all (· < i))=true)
  {Q:Act->Prop} {Q':Exit->Act->World->Prop} (hQ:∀ a w,C w->Q a->oz.wp P a w (fun a' w'=>Q' .normal a' w') Q') :
  ∀(fuel:Nat) (L:Array Bool) (a:Act) (w:World),L.size=ops.size->(∀ i,L.getD i false=true->∀ j∈Z0q .any ops i,L.getD j false=true)->L.getD (ops.size-1) false=false->C w ->
   wpAnyQ P .any (Yx ops oz) C Q fuel L a->wpAny P .any ops Q' fuel L a w:=by
 have hpos:ops.size-1<ops.size:=(Array.getElem?_eq_some_iff.1 hz).1;intro fuel
 induction fuel with
 | zero=>
  intro L a w hs hdc hzl hw h;have hr:=h.1;rw [Z1m hz] at hr;have:=Xi hs hr hO _ hpos;rw [hzl] at this;cases this
 | succ fuel ih=>
  intro L a w hs hdc hzl hw h;refine ⟨fun hr=>?_,fun i hi=>?_⟩
  ·have:=Xi hs hr hO _ hpos
   rw [hzl] at this;cases this
  have hq:=h.2 i (by rw [Z1m hz];exact hi);obtain ⟨hi1,hi2⟩:=Y9 hs hi;by_cases hiz:i=ops.size-1
  ·subst hiz
   have hall:∀ d j,j<ops.size->ops.size-1-j=d->j≠ops.size-1->L.getD j false=true:=by
    intro d
    induction d using Nat.strongRecOn with
    | _ d ihd=>
     intro j hj hd hjz;have h1:=List.all_eq_true.1 hF j (List.mem_range.2 (by omega));obtain ⟨k,hk,hk2⟩:=List.any_eq_true.1 h1;have hk3:=List.mem_range.1 hk;simp only [Bool.and_eq_true,decide_eq_true_eq] at hk2;have hmem:j∈Z0q .any ops k:=List.contains_iff_mem.1 hk2.2;by_cases hkz:k=ops.size-1
     ·subst hkz;exact Z7 hi hmem
     ·exact hdc k (ihd (ops.size-1-k) (by omega) k hk3 rfl hkz) j hmem
   have hend:Region.ready .any ops (L.setIfInBounds (ops.size-1) true) = []:=by
    cases hc:Region.ready .any ops (L.setIfInBounds (ops.size-1) true) with
    | nil=>rfl
    | cons y ys=>
     exfalso;have hy:y∈Region.ready .any ops (L.setIfInBounds (ops.size-1) true):=by rw [hc];simp
     have hy1:=(Y9 (by simpa using hs) hy).1;refine readyBit (by simpa using hs) hy ?_;by_cases hyz:y=ops.size-1
     ·subst hyz;exact J4 (by omega)
     ·exact Y3 (hall _ y hy1 rfl hyz) (by omega)
   have hQa:Q a:=by
    unfold qOp at hq;rw [Z1x hz,if_pos rfl] at hq;simp only [idle,Region.wanted,if_true] at hq;obtain ⟨v,hv,hk⟩:=hq;have hend2:=hend;rw [<-Z1m hz] at hend2
    cases fuel with
    | zero=>exact hk.2
    | succ n=>exact hk.1 hend2
   refine Za hz (by simpa using hN) ?_;refine Oper.wp_mono ?_ (hQ a w hw hQa);intro a' w' hn
   cases fuel with
   | zero=>exact ⟨hend,hn⟩
   | succ n=>exact ⟨fun _=>hn,fun i hi=>by rw [hend] at hi;cases hi⟩
  ·obtain ⟨o,ho⟩:∃ o,ops[i]? = some o:=⟨_,Array.getElem?_eq_getElem hi1⟩
   have hq2:qOp P ops C i (wpAnyQ P .any (Yx ops oz) C Q fuel (L.setIfInBounds i true)) a:=by
    unfold qOp at hq ⊢;rw [Z1x hz,if_neg hiz,ho] at hq;rw [ho];simp only at hq ⊢;have hg:=Array.all_eq_true_iff_forall_mem.1 hG o (Array.mem_of_getElem? ho);rw [Z2p hz hg] at hq;exact hq
   refine wpOp_of_qOp hw (fun a' w' hw' hk=>ih _ a' w' (by simpa using hs) ?_ ?_ hw' hk) hq2
   ·intro k hk j hj
    by_cases hki:k=i
    ·subst hki;exact Y3 (Z7 hi hj) (by omega)
    ·exact Y3 (hdc k (Z0 hk (by omega) hki) j hj) (by omega)
   ·rw [Z0t _ _ _ (by omega),hzl]
    simp only [Bool.or_false,decide_eq_false_iff_not];exact fun e=>hiz e.symm
theorem Jw {id:Nat}{Q:Exit->Act->World->Prop}{a:Act}{w:World}{l:List Oper}(oz:Oper)(hm:P.follows .mixedOrders=true)(hz:l.toArray[l.toArray.size-1]? = some oz)(hB:lastB l.toArray oz=true)(hC:C { w with drawn:=w.drawn+1 })
  (h:wpQuiet P l.toArray C (fun a'=>∀ w',C w'->oz.wp P a' w' (fun a2 w2=>Q .normal a2 w2) Q) l.dropLast a):(Code.region id l.toArray true).wp P Q a w:=by
 simp only [lastB,Bool.and_eq_true] at hB;obtain ⟨⟨⟨⟨hL,hF⟩,hG⟩,hN⟩,hO⟩:=hB;simp only [Region.lexB,Bool.and_eq_true] at hL
 refine wp_region_any hm (wpAny_last (C:=C) (Q:=fun a'=>∀ w',C w'->oz.wp P a' w' (fun a2 w2=>Q .normal a2 w2) Q) hz hF hG hN hO (fun a' w' hw' h'=>h' w' hw') _ _ _ _ (by simp) (fun i hi=>absurd hi (fun hi=>Zt hi)) (by
  cases hc:(Array.replicate l.toArray.size false).getD (l.toArray.size-1) false with
  | false=>rfl
  | true=>exact absurd hc (fun hc=>Zt hc)) hC ?_)
 have hne:l≠[]:=fun e=>by subst e;simp at hz
 have hlast:l.getLast hne=oz:=by
  have:=hz;simp only [List.getElem?_toArray,List.size_toArray] at this;rw [List.getLast_eq_getElem];exact (List.getElem?_eq_some_iff.1 this).2
 have hli:(Yx l.toArray oz).toList=l.dropLast ++ [idle oz]:=by
  unfold Yx;simp only [List.size_toArray,List.setIfInBounds_toArray]
  conv=>lhs;rw [<-List.dropLast_concat_getLast hne]
  rw [List.set_append_right _ _ (by simp)];simp
 have hgl:∀ o∈l,(match o.guard with | none=>true | some (j,_)=>j != l.toArray.size-1)=true:=fun o ho=>Array.all_eq_true_iff_forall_mem.1 hG o (by simpa using ho)
 have hw2:∀(k:List Oper),(∀ o∈k,o∈l)->∀ a',wpQuiet P l.toArray C (fun a'=>∀ w',C w'->oz.wp P a' w' (fun a2 w2=>Q .normal a2 w2) Q) k a'->wpQuiet P (Yx l.toArray oz) C (fun a'=>∀ w',C w'->oz.wp P a' w' (fun a2 w2=>Q .normal a2 w2) Q) (k ++ [idle oz]) a':=by
  intro k
  induction k with
  | nil=>
   intro _ a' h1;rw [List.nil_append];unfold wpQuiet;rw [if_pos (show Region.wanted (idle oz) _=true from rfl)];refine ⟨undef,fun w' _=>?_,h1⟩;unfold Oper.quietAt execOp;simp only [idle,Act.eval,Sem.run_pure];exact ⟨rfl,rfl⟩
  | cons o k ihk=>
   intro hsub a' h1;have hih:=ihk (fun o' ho'=>hsub o' (List.mem_cons_of_mem _ ho'));rw [List.cons_append];unfold wpQuiet at h1 ⊢;rw [Z2p hz (hgl o (hsub o List.mem_cons_self))];split
   ·rename_i hwt;rw [if_pos hwt] at h1
    obtain ⟨v,hv,hk⟩:=h1;exact ⟨v,hv,hih _ hk⟩
   ·rename_i hwt;rw [if_neg hwt] at h1
    exact hih _ h1
 have:=wpAnyQ_lex (C:=C) (md:=.any) hL.1 (Yx l.toArray oz).toList 0 (Array.replicate (Yx l.toArray oz).size false) a (by simp) (by simpa using hL.2) (by rw [hli];exact hw2 _ (fun o ho=>List.dropLast_subset _ ho) a h);rw [show (Yx l.toArray oz).toList.length=l.toArray.size by unfold Yx;simp,show (Yx l.toArray oz).size=l.toArray.size by unfold Yx;simp] at this;exact this
end
def hasB (x:Int)(l:List Int):Bool:=l.contains x
theorem Z1t {x:Int}{l:List Int}{k:Nat}(h:x ∉ l.take k)(hlt:k<l.length)(hne:¬ x=l[k]):x ∉ l.take (k+1):=by
 intro hm;rw [List.take_succ_eq_append_getElem hlt] at hm;rcases List.mem_append.1 hm with h1 | h1
 ·exact h h1
 ·exact hne (List.mem_singleton.1 h1)
theorem indexI_any (v:Value)(l:List Int)(x:Int)(w:World)(hv:Ix w v l) :
  Calls Tryz.prog 145 #[v,.int .i64 x] w fun e w'=>∃ r:Int,e=.returned (.int .i64 r)/\decide (0<=r)=hasB x l/\w'=w:=by
 obtain ⟨hl,a,cap,rfl,hc⟩:=hv;unfold maxLen at hl;go_enter Tryz.func145,Tryz.ntmps145;go_wp2;go_loop [8] (fun i=>∃(k:Nat),k<=l.length/\i=.int .i64 k/\x ∉ l.take k) (fun i=>l.length-(intOf i).toNat)
 case atStart=>exact ⟨0,Nat.zero_le _,rfl,by simp⟩
 case round=>
  obtain ⟨k,hk,rfl,hx⟩:=hrel;by_cases hlt:k<l.length
  ·obtain ⟨b,off,rfl,hj⟩:=hc k hlt
   have hck:=hj k hlt;clear hc hj;by_cases hy:x=l[k]
   ·have ny:(x == l[k])=true:=by simpa using hy
    have hm:Hid (hasB x l=true):=(by simp [hasB,hy]:hasB x l=true);clear hy;generalize l[k]=y at hck ny;go_wp2;go_ret;exact ⟨_,rfl,by rw [hm.out];simp,rfl⟩
   ·have ny:(x == l[k])=false:=by simpa using hy
    have hx2:=Z1t hx hlt hy;clear hy hx;generalize l[k]=y at hck ny;go_wp2;go_round
    case rel=>exact ⟨k+1,by omega,by go_num,hx2⟩
    case measure=>simp [intOf];omega
  ·go_wp2
   go_ret;exact ⟨_,rfl,by rw [List.take_of_length_le (by omega)] at hx;simp [hasB,hx],rfl⟩
theorem Jl (v:Value)(l:List Int)(x:Int)(w:World)(hv:Ix w v l) :
  Calls Tryz.prog 111 #[v,.int .i64 x] w fun e w'=>e=.returned (.bool (hasB x l))/\w'=w:=by
 have HV:Hid (Ix w v l):=hv;obtain ⟨_,a,cap,rfl,_⟩:=hv;go_enter Tryz.func111,Tryz.ntmps111
 go_wp2_with (go_at_call 145;refine (indexI_any _ l x _ HV.out).mono ?_;rintro e w1 ⟨r,rfl,hr,hw⟩;obtain rfl:=hw.symm;clear hw)
 all_goals go_ret
 all_goals exact ⟨by rw [<-hr];rfl,rfl⟩
theorem Z13 (v:Value)(l:List Int)(x:Int)(w:World)(hv:Ix w v l) :
  Calls Tryz.prog 99 #[v,.int .i64 x] w fun e w'=>e=.returned (.bool (hasB x l))/\w'=w:=by
 obtain ⟨hl,a,cap,rfl,hc⟩:=hv;unfold maxLen at hl;go_enter Tryz.func99,Tryz.ntmps99;go_wp2;go_loop [5] (fun i=>∃(k:Nat),k<=l.length/\i=.int .i64 k/\x ∉ l.take k) (fun i=>l.length-(intOf i).toNat)
 case atStart=>exact ⟨0,Nat.zero_le _,rfl,by simp⟩
 case round=>
  obtain ⟨k,hk,rfl,hx⟩:=hrel;by_cases hlt:k<l.length
  ·obtain ⟨b,off,rfl,hj⟩:=hc k hlt
   have hck:=hj k hlt;clear hc hj;by_cases hy:x=l[k]
   ·have ny:(l[k] == x)=true:=by simp [hy]
    have hm:Hid (hasB x l=true):=(by simp [hasB,hy]:hasB x l=true);clear hy;generalize l[k]=y at hck ny;go_wp2;go_ret;exact ⟨by rw [hm.out];rfl,rfl⟩
   ·have ny:(l[k] == x)=false:=by simpa using fun h:l[k]=x=>hy h.symm
    have hx2:=Z1t hx hlt hy;clear hy hx;generalize l[k]=y at hck ny;go_wp2;go_round
    case rel=>exact ⟨k+1,by omega,by go_num,hx2⟩
    case measure=>simp [intOf];omega
  ·go_wp2
   go_ret;exact ⟨by rw [List.take_of_length_le (by omega)] at hx;simp [hasB,hx],rfl⟩
def majB (n sz:Int):Bool:=decide (sz / 2<n)
theorem Jx (n sz:Int)(hs:0<=sz)(hs7:sz<=7)(w:World):Calls Tryz.prog 112 #[.int .i64 n,.int .i64 sz] w fun e w'=>e=.returned (.bool (majB n sz))/\w'=w:=by
 go_enter Tryz.func112,Tryz.ntmps112;go_wp2
 all_goals go_ret
 all_goals exact ⟨rfl,rfl⟩
theorem Z01 (n sz:Int)(hs:sz%2=1)(h0:0<=n)(h1:n<=1099511627776)(w:World):Calls Tryz.prog 100 #[.int .i64 n,.int .i64 sz] w fun e w'=>e=.returned (.bool (majB n sz))/\w'=w:=by
 go_enter Tryz.func100,Tryz.ntmps100;go_wp2
 all_goals go_ret
 all_goals refine ⟨?_,rfl⟩
 all_goals
  show Ending.returned (.bool (decide (sz<2*n)))=_;unfold majB;congr 2;apply decide_eq_decide.2;omega
end Go.Proofs.YtmmpoppgabadmaaGreat
