import Derived.Test.YtmmpoppgabadmaaGreatG06
import Derived.Test.YtmmpoppgabadmaaGreatG04
set_option linter.unusedVariables false
set_option linter.unusedSimpArgs false
set_option maxRecDepth 100000
set_option maxHeartbeats 16000000
namespace Go.Proofs.YtmmpoppgabadmaaGreat
open Go.RowKit
def ndZ:Nd:=⟨0,0,0,0,0,0,0,0,0,0,0,0,[],[],[],[],[],[]⟩
def newN (id sz el bt t v dr:Int)(lg:List Ent):Nd:=if newB id sz el bt t v lg then ⟨id,sz,el,bt,t,v,0,0,0,0,J3 el dr,0,lg,[],[],[],[],[]⟩ else ndZ
structure DnH where
 sz:Nat
 el:Nat
 id:Nat
 k:Nat
def dnH (l:List Int)(k:Nat):DnH:=
 let sz:=if Z5 l (k+1) 2=0 then 3 else 3+2*Z5 l k 3
 let el:=if Z5 l (k+1+1+1) 10=0 then 1000 else 2+Z5 l (k+1+1) 12
 ⟨sz,el,1+Z5 l (k+1+1+1+1) sz,k+1+1+1+1+1⟩
theorem dnH_le (l:List Int)(k:Nat):3<=(dnH l k).sz/\(dnH l k).sz<=7/\2<=(dnH l k).el/\(dnH l k).el<=1000/\1<=(dnH l k).id/\(dnH l k).id<=(dnH l k).sz:=by
 have h1:=Zf l k 3 (by omega);have h2:=Zf l (k+1+1) 12 (by omega);have hs:3<=(dnH l k).sz/\(dnH l k).sz<=7:=by unfold dnH;dsimp only;split <;> omega
 have he:2<=(dnH l k).el/\(dnH l k).el<=1000:=by unfold dnH;dsimp only;split <;> omega
 have h3:=Zf l (k+1+1+1+1) (dnH l k).sz (by omega);have hi:(dnH l k).id=1+Z5 l (k+1+1+1+1) (dnH l k).sz:=rfl;omega
structure DnS where
 n:Nd
 k:Nat
def dn0 (l:List Int)(k n:Nat):DnS:=
 let s:=stD l k n
 let h:=dnH l s.2.2.2
 ⟨newN h.id h.sz h.el (1+(Z5 l h.k h.el:Nat)) s.1 (s.2.1%(h.sz+1)) (Ym l (h.k+Zm h.el)) s.2.2.1,h.k+Zm h.el+1⟩
def Ji (l:List Int)(d:DnS):DnS:=
 if Z5 l (d.k+1) 20=0 then ⟨{ d.n with nw:=1099511627776-(Z5 l (d.k+1+1) 2:Nat) },d.k+1+1+1⟩ else ⟨{ d.n with nw:=(Z5 l d.k 40:Nat) },d.k+1+1⟩
def Jn (l:List Int)(el:Nat)(d:DnS):DnS:=
 let q:=d.k+Zm (2*el+1)
 if Z5 l q 3=0 then ⟨{ d.n with dl:=d.n.nw+(Z5 l (q+1) 2:Nat) },q+1+1⟩ else ⟨{ d.n with dl:=d.n.nw+(Z5 l d.k (2*el+1):Nat) },q+1⟩
def Z04 (l:List Int)(el:Nat)(d:DnS):DnS:=
 let m:=min d.n.nw.toNat (2*el)+1
 ⟨{ d.n with hd:=d.n.nw-(Z5 l d.k m:Nat) },d.k+Zm m⟩
def Z0n (l:List Int)(d:DnS):DnS:=⟨{ d.n with cm:=(Z5 l d.k (d.n.log.length+1):Nat) },d.k+Zm (d.n.log.length+1)⟩
def Z03 (l:List Int)(h:DnH)(T:Int)(d:DnS):DnS:=
 let q:=Z5 l d.k 8
 if q=0 then
  let x:Int:=1+(((h.id:Int)+(Z5 l (d.k+1) (h.sz-1):Nat))%(h.sz:Int))
  ⟨{ d.n with ld:=if x=h.id then 0 else x },d.k+1+1⟩
 else if q<3 then ⟨{ d.n with ro:=1 },d.k+1⟩
 else if q<5/\0<T then ⟨{ d.n with ro:=2,vo:=h.id },d.k+1⟩
 else if 4<q/\0<T then ⟨{ d.n with ro:=3,vo:=h.id,ld:=h.id },d.k+1⟩
 else ⟨d.n,d.k+1⟩
structure DnG where
 gr:List Int
 ex:Nat
 k:Nat
def Xw (l:List Int)(id:Nat)(s:DnG):Nat->DnG
 | 0=>s
 | j+1=>
  let r:=Xw l id s j
  if j+1=id then ⟨r.gr ++ [(j:Int)+1],r.ex,r.k⟩
  else if 0<r.ex then (if Z5 l r.k 2=0 then ⟨r.gr ++ [(j:Int)+1],r.ex-1,r.k+1⟩ else ⟨r.gr,r.ex,r.k+1⟩)
  else r
def J9 (l:List Int)(h:DnH)(d:DnS):DnS:=
 if d.n.ro=1∨d.n.ro=2 then
  let r:=Xw l h.id ⟨d.n.gr,Z5 l d.k (h.sz / 2),d.k+1⟩ h.sz
  ⟨{ d.n with gr:=r.gr },r.k⟩
 else d
def Yz (T:Int)(L:List Ent)(o:Nat):List Ent:=L.take (L.length-o) ++ (L.drop (L.length-o)).map (Xm T)
structure DnR where
 nx:List Int
 mt:List Int
 se:List Int
 st:List Int
 k:Nat
def Xj (l:List Int)(h:DnH)(LN:Nat)(nw:Int)(s:DnR):Nat->DnR
 | 0=>s
 | j+1=>
  let r:=Xj l h LN nw s j
  if j+1=h.id then ⟨r.nx ++ [0],r.mt ++ [0],r.se ++ [0],r.st ++ [0],r.k⟩
  else
   let m6:=min LN 6+1
   let next:Nat:=LN+1-Z5 l r.k m6
   let k1:=r.k+1
   let mt0:=Z5 l k1 next
   let k2:=k1+Zm next
   let mt:Int:=if Z5 l k2 2=0 then (next:Int)-1 else mt0
   let bk:=min nw.toNat (h.el+2)+1
   let se:Int:=nw-(Z5 l (k2+1) bk:Nat)
   let st:Int:=nw-(Z5 l (k2+1+Zm bk) bk:Nat)
   ⟨r.nx ++ [(next:Int)],r.mt ++ [mt],r.se ++ [se],r.st ++ [st],k2+1+Zm bk+Zm bk⟩
def Z0s (l:List Int)(h:DnH)(d:DnS):DnS:=
 if d.n.ro=3 then
  let lg:=Yz d.n.tm d.n.log (Z5 l d.k 4)
  let cm:Int:=if Z5 l (d.k+1) 2=0 then max 0 ((lg.length:Int)-2) else d.n.cm
  let r:=Xj l h lg.length d.n.nw ⟨d.n.nx,d.n.mt,d.n.se,d.n.st,d.k+1+1⟩ h.sz
  ⟨{ d.n with log:=lg,cm:=cm,nx:=r.nx,mt:=r.mt,se:=r.se,st:=r.st },r.k⟩
 else d
def dnD (l:List Int)(k n:Nat):DnS:=
 let s:=stD l k n
 let h:=dnH l s.2.2.2
 Z0s l h (J9 l h (Z03 l h s.1 (Z0n l (Z04 l h.el (Jn l h.el (Ji l (dn0 l k n)))))))
def Jr:Array Value:=#[.int .i64 0,.int .i64 0,.int .i64 0,.int .i64 0,.int .i64 0,.int .i64 0,.int .i64 0,.int .i64 0,.int .i64 0,.int .i64 0,.int .i64 0,.int .i64 0,.slice none 0 0,.slice none 0 0,.slice none 0 0,.slice none 0 0,.slice none 0 0,.slice none 0 0]
structure NS (w0 w:World) (g:Nat) (v:Value) (l:List Int) (k b4 b5 b9:Nat) (S:Array Value) (n:Nd) (x:RV):Prop where
 dr:Dr w0 w g v l k [(b4,Jr,36),(b5,S,104),(b9,ndC n x,36)]
 log:Zv w w0.heap.size x.vl n.log
 gr:Zs inC 1 3 w w0.heap.size x.vg n.gr
 nx:Zs inC 1 3 w w0.heap.size x.vn n.nx
 mt:Zs inC 1 3 w w0.heap.size x.vm n.mt
 se:Zs inC 1 3 w w0.heap.size x.vs n.se
 st:Zs inC 1 3 w w0.heap.size x.vt n.st
 ap:[x.vg,x.vn,x.vm,x.vs,x.vt].Pairwise Xq
section
variable {w0 w w':World} {g:Nat} {v:Value} {l:List Int} {k k' b4 b5 b9:Nat} {S:Array Value} {n n':Nd} {x:RV}
theorem NS.keep (h:NS w0 w g v l k b4 b5 b9 S n x)(hd:Dr w0 w' g v l k' [(b4,Jr,36),(b5,S,104),(b9,ndC n x,36)])(hk:∀ q,w0.heap.size<=q->q<w.heap.size->w'.heap[q]? = w.heap[q]?):NS w0 w' g v l k' b4 b5 b9 S n x:=by
 have hg:∀ {v:Value} {l:List Int},Zs inC 1 3 w w0.heap.size v l->Zs inC 1 3 w' w0.heap.size v l:=fun ho=>ho.block fun q e=>hk q (ho.lts q e).1 (ho.lts q e).2
 exact ⟨hd,h.log.block fun q e=>hk q (World.ownsRow.lt h.log.2 q e).1 (World.ownsRow.lt h.log.2 q e).2,hg h.gr,hg h.nx,hg h.mt,hg h.se,hg h.st,h.ap⟩
theorem NS.call (h:NS w0 w g v l k b4 b5 b9 S n x)(hs:Src w' g v l k')(hg:w.grownBy w' (some g)):NS w0 w' g v l k' b4 b5 b9 S n x:=
 h.keep (h.dr.call hs hg) fun q h1 h2=>hg.block q h2 (fun e=>by injection e with e;have:=h.dr.gl;omega)
theorem NS.below (h:NS w0 w g v l k b4 b5 b9 S n x)(hb:Below w.heap.size w w'):NS w0 w' g v l k b4 b5 b9 S n x:=
 h.keep (h.dr.below hb) fun q _ h2=>hb.block q h2
theorem NS.drew (h:NS w0 w g v l k b4 b5 b9 S n x):NS w0 w.drew g v l k b4 b5 b9 S n x:=h.below (Below.refl _ _).drew
theorem NS.pick (h:NS w0 w g v l k b4 b5 b9 S n x)(m:Nat)(hL:l.length<=1048576)(hk:k<=900000000)(hm:0<m)(hM:m<=4294967296) :
  Calls Tryz.prog 53 #[.pointer (some ⟨g,0,none⟩),.int .i64 m] w fun e w'=>e=.returned (.int .i64 (Z5 l k m:Nat))/\NS w0 w' g v l (k+Zm m) b4 b5 b9 S n x:=
 (Zq g w v l k m hL hk hm hM h.dr.src).mono fun e w' ⟨h1,h2,h3⟩=>⟨h1,h.call h2 h3⟩
theorem NS.nodeB (h:NS w0 w g v l k b4 b5 b9 S n x):Blk w b9 (ndC n x) 36:=h.dr.blk 2 rfl
theorem NS.stB5 (h:NS w0 w g v l k b4 b5 b9 S n x):Blk w b5 S 104:=h.dr.blk 1 rfl
theorem NS.resB (h:NS w0 w g v l k b4 b5 b9 S n x):Blk w b4 Jr 36:=h.dr.blk 0 rfl
theorem NS.set (h:NS w0 w g v l k b4 b5 b9 S n x)(j:Nat)(hj:j<12)(y:Int)(hc:(ndC n x).setIfInBounds j (.int .i64 y)=ndC n' x)
  (e1:n'.log=n.log) (e2:n'.gr=n.gr) (e3:n'.nx=n.nx) (e4:n'.mt=n.mt) (e5:n'.se=n.se) (e6:n'.st=n.st):NS w0 (w.setCell ⟨b9,j,none⟩ (.int .i64 y)) g v l k b4 b5 b9 S n' x:=by
 have hd:=h.dr.set 2 rfl j (by show j<18;omega) (.int .i64 y) rfl;rw [hc] at hd;have hq:∀ q,q≠b9->(w.setCell ⟨b9,j,none⟩ (.int .i64 y)).heap[q]? = w.heap[q]?:=fun q hq=>Below.heap_setCell _ _ _ _ hq
 have hg:∀ {v:Value} {l:List Int},Zs inC 1 3 w w0.heap.size v l->Zs inC 1 3 (w.setCell ⟨b9,j,none⟩ (.int .i64 y)) w0.heap.size v l:=fun ho=>ho.block fun q e=>hq q (Yr ho h.nodeB (by decide) q e)
 exact ⟨hd,by rw [e1];exact h.log.block fun q e=>hq q (X4 h.log h.nodeB (by decide) q e),by rw [e2];exact hg h.gr,by rw [e3];exact hg h.nx,by rw [e4];exact hg h.mt,by rw [e5];exact hg h.se,by rw [e6];exact hg h.st,h.ap⟩
end
structure FmS where
 m:Mg
 k:Nat
def mgOf (d:MsgD):Mg:=⟨d.ki,d.fr,d.td,d.tm,d.li,d.lt,d.cm,d.ok,d.hi,d.es⟩
def Z0j (l:List Int)(k:Nat)(n:Nd):Int:=
 let x:=1+(n.id+(Z5 l k (n.sz.toNat-1):Nat))%n.sz
 if x=n.id then 1+n.id%n.sz else x
def Z38 (l:List Int)(k:Nat)(n:Nd)(ki:Int):Int×Nat:=
 if n.ro=1 then (if Z5 l k 3=0 then ki else 2,k+1)
 else if n.ro=2 then (if Z5 l k 3=0 then ki else 4,k+1)
 else if n.ro=3 then (if Z5 l k 3=0 then ki else 6,k+1)
 else (ki,k)
def dfTerm (l:List Int)(k:Nat)(n:Nd)(ki:Int):Int×Nat:=
 let q:=Z5 l k 7
 let r:Int×Nat:=if q=0 then (n.tm+1+(Z5 l (k+1) 2:Nat),k+1+1) else if q=1 then (n.tm-1,k+1) else if ki=1∨ki=2 then (n.tm+1,k+1) else (n.tm,k+1)
 (min (max r.1 1) 1073741824,r.2)
def Z09 (l:List Int)(k:Nat)(n:Nd)(m:Mg):FmS:=
 let kd:=Z38 l (k+1) n m.ki
 let t:=dfTerm l kd.2 n kd.1
 let ok:=Z5 l t.2 5
 let re:Bool:=kd.1 == 2 || kd.1 == 4 || kd.1 == 6
 ⟨⟨kd.1,Z0j l k n,n.id,t.1,0,0,0,if re=true/\1<ok then 1 else 0,0,if re=true then [] else m.es⟩,t.2+1⟩
def Yn (l:List Int)(k:Nat)(n:Nd):Int:=min (max ((n.log.length:Int)-(Z5 l k 4:Nat)+(Z5 l (k+1) 2:Nat)) 0) 4096
structure FeS where
 es:List Ent
 low:Int
 k:Nat
def dfEnt (l:List Int)(n:Nd)(other:Bool)(tm place:Int)(s:FeS)(i:Nat):FeS:=
 let e0:=(s.es[i]?).getD ⟨0,0,0,0,⟨#[]⟩,⟨#[]⟩,⟨#[]⟩⟩
 let a:=(place+i).toNat
 let r:Ent×Nat:=if other=true then (Xm tm e0,s.k) else if a<n.log.length then (if Z5 l s.k 3=0 then (e0,s.k+1) else ((n.log[a]?).getD e0,s.k+1)) else (e0,s.k)
 let e1:=if r.1.t<s.low then Xm s.low r.1 else r.1
 let e2:=if tm<e1.t then Xm tm e1 else e1
 ⟨s.es.set i e2,e2.t,r.2⟩
def J2 (l:List Int)(n:Nd)(other:Bool)(tm place:Int)(s:FeS):Nat->FeS
 | 0=>s
 | i+1=>dfEnt l n other tm place (J2 l n other tm place s i) i
theorem Z05 {n j:Nat} : (Array.replicate n false).getD j false=false:=by
 cases h:(Array.replicate n false).getD j false with
 | false=>rfl
 | true=>exact (Zl h).elim
theorem Zp {L:Array Bool}{i j:Nat}(hi:i<L.size)(hne:j≠i):(L.setIfInBounds i true).getD j false=L.getD j false:=by
 rw [Z2m L i j hi];simp [hne]
theorem kb {L:Array Bool}{i j:Nat}(h:(L.setIfInBounds i true).getD j false=true)(hi:i<L.size)(hne:j≠i:=by decide):L.getD j false=true:=Z0 h hi hne
theorem ku2 {P:Prop}{L:Array Bool}{i j:Nat}(hk:L.getD j false=true->P)(hi:i<L.size)(h:(L.setIfInBounds i true).getD j false=true)(hne:j≠i:=by decide):P:=hk (Z0 h hi hne)
theorem ke2 {x:Nat->Value}{t k:Nat}{v V:Value}{L:Array Bool}{i j:Nat}(hk:L.getD j false=true->x t=V)(hi:i<L.size)(h:(L.setIfInBounds i true).getD j false=true)(hne:j≠i:=by decide)(ht:t≠k:=by decide):upd x k v t=V:=ke hk hi hne ht h
def St3 (P0 P1 P2:World->Prop):Bool->Bool->World->Prop
 | false,false=>P0
 | false,true=>fun _=>False
 | true,false=>P1
 | true,true=>P2
theorem St3.any {P0 P1 P2 P:World->Prop}(h0:∀ w,P0 w->P w)(h1:∀ w,P1 w->P w)(h2:∀ w,P2 w->P w):∀ {a b:Bool} {w:World},St3 P0 P1 P2 a b w->P w
 | false,false,w,h=>h0 w h
 | false,true,w,h=>h.elim
 | true,false,w,h=>h1 w h
 | true,true,w,h=>h2 w h
theorem St3.fst {P0 P1 P2:World->Prop} : ∀ {b:Bool} {w:World},St3 P0 P1 P2 false b w->b=false/\P0 w
 | false,w,h=>⟨rfl,h⟩
 | true,w,h=>h.elim
theorem stD_v (l:List Int)(k n:Nat):0<=(stD l k n).2.1/\(stD l k n).2.1<=7:=by
 unfold stD;split
 ·dsimp only;omega
 ·have:=Zf l ((stE l k n).2.1+1+1) 8 (by omega)
  dsimp only;omega
theorem stD_k (l:List Int)(k n:Nat):(stD l k n).2.2.2<=k+16*n+6:=by
 unfold stD;split
 ·show k+1<=_
  omega
 ·have h1:=Z1g l (k+1+1+1) (1+((Z5 l (k+1+1) 3:Nat):Int)) (Z5 l (k+1) (n+1))
  have h2:=Zf l (k+1) (n+1) (by omega);show (stE l k n).2.1+1+1+1<=_;unfold stE;omega
theorem stD_len (l:List Int)(k n:Nat):(stD l k n).2.2.1.length<=n:=by
 unfold stD;split
 ·simp
 ·have:=Zf l (k+1) (n+1) (by omega)
  show (stE l k n).1.length<=n;unfold stE;rw [Jb];omega
def stC (T V:Int)(a:Option Addr)(N c:Nat):Array Value:=#[.int .i64 T,.int .i64 V,.slice a N c]
structure DL (w0 w:World) (g:Nat) (v:Value) (l:List Int) (k:Nat) (F:List (Nat×Array Value×TypeId)) (u:Value) (lg:List Ent):Prop where
 dr:Dr w0 w g v l k F
 log:Zv w w0.heap.size u lg
section
variable {w0 w w':World} {g:Nat} {v:Value} {l:List Int} {k k':Nat} {F:List (Nat×Array Value×TypeId)} {u:Value} {lg:List Ent}
theorem DL.call (h:DL w0 w g v l k F u lg)(hs:Src w' g v l k')(hg:w.grownBy w' (some g)):DL w0 w' g v l k' F u lg:=
 ⟨h.dr.call hs hg,h.log.block fun q e=>hg.block q (World.ownsRow.lt h.log.2 q e).2 (fun e'=>by injection e' with e';have h1:=(World.ownsRow.lt h.log.2 q e).1;have:=h.dr.gl;omega)⟩
theorem DL.pick (h:DL w0 w g v l k F u lg)(m:Nat)(hL:l.length<=1048576)(hk:k<=900000000)(hm:0<m)(hM:m<=256) :
  Calls Tryz.prog 53 #[.pointer (some ⟨g,0,none⟩),.int .i64 m] w fun e w'=>e=.returned (.int .i64 (Z5 l k m:Nat))/\DL w0 w' g v l (k+1) F u lg:=
 (Zq g w v l k m hL hk hm (by omega) h.dr.src).mono fun e w' ⟨h1,h2,h3⟩=>⟨h1,by have h9:=h.call h2 h3;rwa [show Zm m=1 by unfold Zm;rw [if_pos hM]] at h9⟩
theorem DL.pickG {w0 w:World}{g:Nat}{v:Value}{l:List Int}{k:Nat}{F:List (Nat×Array Value×TypeId)}{u:Value}{lg:List Ent}(h:DL w0 w g v l k F u lg)(m:Nat)(hL:l.length<=1048576)(hk:k<=900000000)(hm:0<m)(hM:m<=4294967296) :
  Calls Tryz.prog 53 #[.pointer (some ⟨g,0,none⟩),.int .i64 m] w fun e w'=>e=.returned (.int .i64 (Z5 l k m:Nat))/\DL w0 w' g v l (k+Zm m) F u lg/\w.grownBy w' (some g):=
 (Zq g w v l k m hL hk hm hM h.dr.src).mono fun e w' ⟨h1,h2,h3⟩=>⟨h1,h.call h2 h3,h3⟩
theorem DL.nextG {w0 w:World}{g:Nat}{v:Value}{l:List Int}{k:Nat}{F:List (Nat×Array Value×TypeId)}{u:Value}{lg:List Ent}(h:DL w0 w g v l k F u lg)(hL:l.length<=1048576)(hk:k<=900000000) :
  Calls Tryz.prog 93 #[.pointer (some ⟨g,0,none⟩)] w fun e w'=>e=.returned (.int .i64 (Ym l k))/\DL w0 w' g v l (k+1) F u lg/\w.grownBy w' (some g):=
 (Xn g w v l k hL (by omega) h.dr.src).mono fun e w' ⟨h1,h2,h3⟩=>⟨h1,h.call h2 h3,h3⟩
theorem DL.below {w0 w w':World}{g:Nat}{v:Value}{l:List Int}{k:Nat}{F:List (Nat×Array Value×TypeId)}{u:Value}{lg:List Ent}(h:DL w0 w g v l k F u lg)(hb:Below w.heap.size w w'):DL w0 w' g v l k F u lg:=⟨h.dr.below hb,h.log.below hb⟩
theorem DL.rowP {w0 w:World}{g:Nat}{v:Value}{l:List Int}{k B p:Nat}{F:List (Nat×Array Value×TypeId)}{u:Value}{lg:List Ent}{C:Array Value}(h:DL w0 w g v l k F u lg)(hp:Blk w p C 36)(hB:w0.heap.size<=B)(hF:∀ x∈F,x.1<B)(hpB:B<=p)(C':Array Value):DL w0 (w.setRow p C') g v l k F u lg:=
 ⟨h.dr.belowB (J0 (Below.refl _ _) hpB _) hB hF,h.log.block fun q e=>setRow_other w p q C' (X4 h.log hp (by decide) q e)⟩
theorem Z2k (w:World)(p:Nat)(C:Array Value):(w.setRow p C).heap.size=w.heap.size:=by simp [World.setRow]
theorem St3.tq {P0 P1 P2:World->Prop}{w w2:World}(h0:P0 w->P0 w2)(h1:P1 w->P1 w2)(h2:P2 w->P2 w2):∀ {a b:Bool},St3 P0 P1 P2 a b w->St3 P0 P1 P2 a b w2
 | false,false,h=>h0 h
 | false,true,h=>h
 | true,false,h=>h1 h
 | true,true,h=>h2 h
def rvZ (a:Option Addr)(N c:Nat):RV:=⟨.slice a N c,.slice none 0 0,.slice none 0 0,.slice none 0 0,.slice none 0 0,.slice none 0 0,.slice none 0 0,[]⟩
theorem newNode_d (id sz el bt t v dr:Int)(a:Option Addr)(cap:Nat)(lg:List Ent)(w:World)(hv:Es w (.slice a lg.length cap) lg)(hll:lg.length<=1048576)(hd1 : -(2^63)<=dr)(hd2:dr<2^63) :
  Calls Tryz.prog 63 #[.int .i64 id,.int .i64 sz,.int .i64 el,.int .i64 bt,.agg (stC t v a lg.length cap),.int .i64 dr] w fun e w'=>∃ b c,e=.returned (.agg (ndC (newN id sz el bt t v dr lg) (rvZ b (newN id sz el bt t v dr lg).log.length c)))/\Zv w' w.heap.size (.slice b (newN id sz el bt t v dr lg).log.length c) (newN id sz el bt t v dr lg).log/\Below w.heap.size w w':=by
 refine (sNewNode_any id sz el bt t v dr a cap lg w hv hll hd1 hd2).mono fun e w' h=>?_
 unfold NewAt at h;unfold newN;cases hn:newB id sz el bt t v lg
 ·rw [hn] at h
  simp only [Bool.false_eq_true,if_false] at h ⊢;exact ⟨none,0,h.1,Zv.nil _ _,h.2⟩
 ·rw [hn] at h
  simp only [if_true] at h ⊢;obtain ⟨b,c,h1,h2,h3⟩:=h;exact ⟨b,c,h1,h2,h3⟩
theorem Dr.add {w0 w:World}{g:Nat}{v:Value}{l:List Int}{k:Nat}{F:List (Nat×Array Value×TypeId)}(h:Dr w0 w g v l k F){p:Nat}{C:Array Value}{t:TypeId}(hP:Blk w p C t)(hp:w0.heap.size<=p)(hn:NoU8 C)(hF:∀ x∈F,x.1≠p):Dr w0 w g v l k (F ++ [(p,C,t)]):=by
 refine ⟨h.grown,h.src,h.gl,h.bs0,fun i x e=>?_,fun i j x y ei ej e=>?_⟩
 ·rcases Nat.lt_or_ge i F.length with hi | hi
  ·rw [List.getElem?_append_left hi] at e;exact h.blks i x e
  ·rw [List.getElem?_append_right hi] at e
   rcases Nat.eq_zero_or_pos (i-F.length) with hz | hz
   ·rw [hz] at e;simp at e;subst e;exact ⟨hp,hP,hn⟩
   ·rw [List.getElem?_eq_none (by simp;omega)] at e;cases e
 ·have key:∀(i:Nat) x,(F ++ [(p,C,t)])[i]? = some x->(i<F.length/\F[i]? = some x/\x.1≠p)∨(i=F.length/\x.1=p):=fun i x e=>by
   rcases Nat.lt_or_ge i F.length with hi | hi
   ·rw [List.getElem?_append_left hi] at e;exact .inl ⟨hi,e,hF x (List.mem_of_getElem? e)⟩
   ·rw [List.getElem?_append_right hi] at e
    rcases Nat.eq_zero_or_pos (i-F.length) with hz | hz
    ·rw [hz] at e;simp at e;subst e;exact .inr ⟨by omega,rfl⟩
    ·rw [List.getElem?_eq_none (by simp;omega)] at e;cases e
  rcases key i x ei with ⟨a1,a2,a3⟩ | ⟨a1,a2⟩ <;> rcases key j y ej with ⟨b1,b2,b3⟩ | ⟨b1,b2⟩
  ·exact h.dis i j x y a2 b2 e
  ·exact absurd (e.trans b2) a3
  ·exact absurd (e.symm.trans a2) b3
  ·omega
theorem newN_nil (id sz el bt t v dr:Int)(lg:List Ent):(newN id sz el bt t v dr lg).gr = []/\(newN id sz el bt t v dr lg).nx = []/\(newN id sz el bt t v dr lg).mt = []/\(newN id sz el bt t v dr lg).se = []/\(newN id sz el bt t v dr lg).st = []:=by
 unfold newN;split <;> exact ⟨rfl,rfl,rfl,rfl,rfl⟩
theorem NS.of {w0 w:World}{g:Nat}{v:Value}{l:List Int}{k b4 b5 p:Nat}{S:Array Value}{N0:Nd}{b:Option Addr}{c:Nat}(h:Dr w0 w g v l k [(b4,Jr,36),(b5,S,104)])(hP:Blk w p (ndC N0 (rvZ b N0.log.length c)) 36)(hp:w0.heap.size<=p)(h4:b4≠p)(h5:b5≠p)(hO:Zv w w0.heap.size (.slice b N0.log.length c) N0.log)(hn:N0.gr = []/\N0.nx = []/\N0.mt = []/\N0.se = []/\N0.st = []):NS w0 w g v l k b4 b5 p S N0 (rvZ b N0.log.length c):=by
 obtain ⟨n1,n2,n3,n4,n5⟩:=hn;refine ⟨h.add hP hp (Yd rfl) (fun x hx=>?_),hO,by rw [n1];exact Zs.nil _ _ _ _ _,by rw [n2];exact Zs.nil _ _ _ _ _,by rw [n3];exact Zs.nil _ _ _ _ _,by rw [n4];exact Zs.nil _ _ _ _ _,by rw [n5];exact Zs.nil _ _ _ _ _,?_⟩
 ·simp only [List.mem_cons,List.not_mem_nil,or_false] at hx
  rcases hx with rfl | rfl
  ·exact h4
  ·exact h5
 ·have hz:∀ u:Value,Xq (.slice none 0 0) u:=fun u k e=>by cases e
  simp only [rvZ,List.pairwise_cons,List.mem_cons,List.not_mem_nil,or_false,forall_eq_or_imp,forall_eq,List.Pairwise.nil,and_true,false_imp_iff,implies_true];exact ⟨⟨hz _,hz _,hz _,hz _⟩,⟨hz _,hz _,hz _⟩,⟨hz _,hz _⟩,hz _⟩
theorem NS.pick1 {w0 w:World}{g:Nat}{v:Value}{l:List Int}{k b4 b5 b9:Nat}{S:Array Value}{n:Nd}{x:RV}(h:NS w0 w g v l k b4 b5 b9 S n x)(m:Nat)(hL:l.length<=1048576)(hk:k<=900000000)(hm:0<m)(hM:m<=256) :
  Calls Tryz.prog 53 #[.pointer (some ⟨g,0,none⟩),.int .i64 m] w fun e w'=>e=.returned (.int .i64 (Z5 l k m:Nat))/\NS w0 w' g v l (k+1) b4 b5 b9 S n x:=
 (h.pick m hL hk hm (by omega)).mono fun e w' ⟨h1,h2⟩=>⟨h1,by rwa [show Zm m=1 by unfold Zm;rw [if_pos hM]] at h2⟩
theorem Z27 {o:Oper}{a:Act}{w:World}{K:Act->World->Prop}{Q:Exit->Act->World->Prop}(y z:Operand)(ho:o.op=.store 3 y z){b i:Nat}{v u:Int}(hy:a.eval y=.pointer (some ⟨b,i,none⟩))(hz:a.eval z=.int .i64 v)(hc:w.cell? ⟨b,i,none⟩=some (.int .i64 u))(hf:w.frozen? ⟨b,i,none⟩=false)(hd:o.dst=none)(h:K a (w.setCell ⟨b,i,none⟩ (.int .i64 v))):o.wp Tryz.prog a w K Q:=by
 unfold Oper.wp execOp;simp only [ho,hy,hz];go_simp;exact h
theorem Xg {P:Program}{c:Code}{Q:Exit->Act->World->Prop}{a:Act}{w:World}(Fa:Act->Prop)(R:Act->Act->World->Prop)(h:∀ a0,Fa a0->c.wp P (fun e a' w'=>e=Exit.normal/\R a0 a' w') a0 w)(hf:Fa a)(hq:∀ a' w',R a a' w'->Q Exit.normal a' w'):c.wp P Q a w:=wp_mono (h a hf) (by rintro e a' w' ⟨rfl,hr⟩;exact hq a' w' hr)
theorem DL.set5 {w0 w:World}{g:Nat}{v:Value}{l:List Int}{k b4 b5:Nat}{C4:Array Value}{T V:Int}{a:Option Addr}{N c:Nat}{u:Value}{lg:List Ent}(h:DL w0 w g v l k [(b4,C4,36),(b5,stC T V a N c,104)] u lg)(V2:Int):DL w0 (w.setCell ⟨b5,1,none⟩ (.int .i64 V2)) g v l k [(b4,C4,36),(b5,stC T V2 a N c,104)] u lg:=
 ⟨h.dr.set 1 rfl 1 (by show 1<3;omega) (.int .i64 V2) rfl,h.log.block fun q e=>Below.heap_setCell _ _ _ _ (X4 h.log (h.dr.blk 1 rfl) (by decide) q e)⟩
end
def Z1:Nat->Code->Code
 | 0,.seq a _=>a
 | n+1,.seq _ b=>Z1 n b
 | _,c=>c
def Z2:Nat->Code->Code
 | 0,c=>c
 | n+1,.seq _ b=>Z2 n b
 | _,c=>c
def Z3 (f:Func):Code:=f.body.getD .skip
def Zj:Code->Code
 | .cond _ a _=>a
 | c=>c
def Xx:Code->Code
 | .cond _ _ b=>b
 | c=>c
def Zn:Code->Code
 | .block _ c=>c
 | c=>c
def Y6:Code->Code
 | .loop c=>c
 | c=>c
def lst (t:Nat->Value):Nat->Nat->List Value
 | _,0=>[]
 | i,n+1=>t i :: lst t (i+1) n
theorem lst_eq (t:Nat->Value):∀(L:List Value) (i:Nat),(∀ j,j<L.length->L[j]? = some (t (i+j)))->L=lst t i L.length
 | [],i,_=>rfl
 | x :: L,i,h=>by
  have h0:=h 0 (by simp);simp at h0;subst h0
  have h1:=lst_eq t L (i+1) (fun j hj=>by
   have:=h (j+1) (by simp;omega);simp only [List.getElem?_cons_succ] at this;rw [this];congr 2;omega)
  show _=t i :: lst t (i+1) L.length;rw [<-h1]
theorem lst_of (L:List Value)(n:Nat)(hn:L.length=n):L=lst (fun i=>L.getD i undef) 0 n:=by
 subst hn;refine lst_eq _ L 0 (fun j hj=>?_);rw [List.getElem?_eq_getElem hj];simp [List.getD,hj]
structure DC where
 w0:World
 g:Nat
 v:Value
 l:List Int
 b4:Nat
 b5:Nat
 b9:Nat
 T:Int
 V:Int
 ea:Option Addr
 LN:Nat
 ec:Nat
 SZ:Nat
 EL:Nat
 ID:Nat
structure DC.Ok (c:DC):Prop where
 hL:c.l.length<=1048576
 sz:3<=c.SZ/\c.SZ<=7
 el:2<=c.EL/\c.EL<=1000
 id:1<=c.ID/\c.ID<=c.SZ
def DC.S (c:DC):Array Value:=stC c.T c.V c.ea c.LN c.ec
def DC.N (c:DC)(w:World)(d:DnS)(x:RV):Prop:=NS c.w0 w c.g c.v c.l d.k c.b4 c.b5 c.b9 c.S d.n x
def DC.h (c:DC):DnH:=⟨c.SZ,c.EL,c.ID,0⟩
structure DC.Fr (c:DC) (a:Act):Prop where
 sz:a.tmps.size=297
 df:a.defers = []
 e0:a.eval (.tmp 0)=.pointer (some ⟨c.g,0,none⟩)
 e4:a.eval (.tmp 4)=.pointer (some ⟨c.b4,0,none⟩)
 e5:a.eval (.tmp 5)=.pointer (some ⟨c.b5,0,none⟩)
 e6:a.eval (.tmp 6)=.int .i64 (c.SZ:Int)
 e7:a.eval (.tmp 7)=.int .i64 (c.EL:Int)
 e8:a.eval (.tmp 8)=.int .i64 (c.ID:Int)
 e9:a.eval (.tmp 9)=.pointer (some ⟨c.b9,0,none⟩)
structure DB (d:DnS) (m:Nat):Prop where
 k:d.k<=m
 nw:0<=d.n.nw/\d.n.nw<=1099511627776
 lg:d.n.log.length<=200
 tm:0<=d.n.tm/\d.n.tm<=1099511627776
section
variable {c:DC} {a:Act} {w w':World} {d:DnS} {x:RV}
theorem DC.Fr.frame (h:c.Fr a)(ds:List Nat)(y:Nat->Value)(hd:[0,4,5,6,7,8,9].all (fun s=>!ds.contains s)=true):c.Fr (frame a ds y):=by
 simp only [List.all_cons,List.all_nil,Bool.and_true,Bool.and_eq_true,Bool.not_eq_true'] at hd;obtain ⟨q0,q4,q5,q6,q7,q8,q9⟩:=hd;exact ⟨(Z1z a ds y).trans h.sz,h.df,(Zc a ds y 0 q0).trans h.e0,(Zc a ds y 4 q4).trans h.e4,(Zc a ds y 5 q5).trans h.e5,(Zc a ds y 6 q6).trans h.e6,(Zc a ds y 7 q7).trans h.e7,(Zc a ds y 8 q8).trans h.e8,(Zc a ds y 9 q9).trans h.e9⟩
theorem DC.Fr.opened (h:c.Fr a):∃ t:Nat->Value,a=⟨#[.pointer (some ⟨c.g,0,none⟩),t 1,t 2,t 3,.pointer (some ⟨c.b4,0,none⟩),.pointer (some ⟨c.b5,0,none⟩),.int .i64 (c.SZ:Int),.int .i64 (c.EL:Int),.int .i64 (c.ID:Int),.pointer (some ⟨c.b9,0,none⟩),t 10,t 11,t 12,t 13,t 14,t 15,t 16,t 17,t 18,t 19,t 20,t 21,t 22,t 23,t 24,t 25,t 26,t 27,t 28,t 29,t 30,t 31,t 32,t 33,t 34,t 35,t 36,t 37,t 38,t 39,t 40,t 41,t 42,t 43,t 44,t 45,t 46,t 47,t 48,t 49,t 50,t 51,t 52,t 53,t 54,t 55,t 56,t 57,t 58,t 59,t 60,t 61,t 62,t 63,t 64,t 65,t 66,t 67,t 68,t 69,t 70,t 71,t 72,t 73,t 74,t 75,t 76,t 77,t 78,t 79,t 80,t 81,t 82,t 83,t 84,t 85,t 86,t 87,t 88,t 89,t 90,t 91,t 92,t 93,t 94,t 95,t 96,t 97,t 98,t 99,t 100,t 101,t 102,t 103,t 104,t 105,t 106,t 107,t 108,t 109,t 110,t 111,t 112,t 113,t 114,t 115,t 116,t 117,t 118,t 119,t 120,t 121,t 122,t 123,t 124,t 125,t 126,t 127,t 128,t 129,t 130,t 131,t 132,t 133,t 134,t 135,t 136,t 137,t 138,t 139,t 140,t 141,t 142,t 143,t 144,t 145,t 146,t 147,t 148,t 149,t 150,t 151,t 152,t 153,t 154,t 155,t 156,t 157,t 158,t 159,t 160,t 161,t 162,t 163,t 164,t 165,t 166,t 167,t 168,t 169,t 170,t 171,t 172,t 173,t 174,t 175,t 176,t 177,t 178,t 179,t 180,t 181,t 182,t 183,t 184,t 185,t 186,t 187,t 188,t 189,t 190,t 191,t 192,t 193,t 194,t 195,t 196,t 197,t 198,t 199,t 200,t 201,t 202,t 203,t 204,t 205,t 206,t 207,t 208,t 209,t 210,t 211,t 212,t 213,t 214,t 215,t 216,t 217,t 218,t 219,t 220,t 221,t 222,t 223,t 224,t 225,t 226,t 227,t 228,t 229,t 230,t 231,t 232,t 233,t 234,t 235,t 236,t 237,t 238,t 239,t 240,t 241,t 242,t 243,t 244,t 245,t 246,t 247,t 248,t 249,t 250,t 251,t 252,t 253,t 254,t 255,t 256,t 257,t 258,t 259,t 260,t 261,t 262,t 263,t 264,t 265,t 266,t 267,t 268,t 269,t 270,t 271,t 272,t 273,t 274,t 275,t 276,t 277,t 278,t 279,t 280,t 281,t 282,t 283,t 284,t 285,t 286,t 287,t 288,t 289,t 290,t 291,t 292,t 293,t 294,t 295,t 296],[]⟩:=by
 obtain ⟨⟨L⟩,df⟩:=a;have hd:df = []:=h.df;subst hd;have hs:L.length=297:=h.sz;have e1:=lst_of L 297 hs;have h0:L.getD 0 undef=.pointer (some ⟨c.g,0,none⟩):=by have:=h.e0;simpa [Act.eval] using this
 have h4:L.getD 4 undef=.pointer (some ⟨c.b4,0,none⟩):=by have:=h.e4;simpa [Act.eval] using this
 have h5:L.getD 5 undef=.pointer (some ⟨c.b5,0,none⟩):=by have:=h.e5;simpa [Act.eval] using this
 have h6:L.getD 6 undef=.int .i64 (c.SZ:Int):=by have:=h.e6;simpa [Act.eval] using this
 have h7:L.getD 7 undef=.int .i64 (c.EL:Int):=by have:=h.e7;simpa [Act.eval] using this
 have h8:L.getD 8 undef=.int .i64 (c.ID:Int):=by have:=h.e8;simpa [Act.eval] using this
 have h9:L.getD 9 undef=.pointer (some ⟨c.b9,0,none⟩):=by have:=h.e9;simpa [Act.eval] using this
 obtain ⟨t,ht⟩:∃ t:Nat->Value,t=fun i=>L.getD i undef:=⟨_,rfl⟩
 rw [<-ht] at e1;replace h0:t 0=.pointer (some ⟨c.g,0,none⟩):=by rw [ht];exact h0
 replace h4:t 4=.pointer (some ⟨c.b4,0,none⟩):=by rw [ht];exact h4
 replace h5:t 5=.pointer (some ⟨c.b5,0,none⟩):=by rw [ht];exact h5
 replace h6:t 6=.int .i64 (c.SZ:Int):=by rw [ht];exact h6
 replace h7:t 7=.int .i64 (c.EL:Int):=by rw [ht];exact h7
 replace h8:t 8=.int .i64 (c.ID:Int):=by rw [ht];exact h8
 replace h9:t 9=.pointer (some ⟨c.b9,0,none⟩):=by rw [ht];exact h9
 refine ⟨t,?_⟩;have e2:lst t 0 297 = [t 0,t 1,t 2,t 3,t 4,t 5,t 6,t 7,t 8,t 9,t 10,t 11,t 12,t 13,t 14,t 15,t 16,t 17,t 18,t 19,t 20,t 21,t 22,t 23,t 24,t 25,t 26,t 27,t 28,t 29,t 30,t 31,t 32,t 33,t 34,t 35,t 36,t 37,t 38,t 39,t 40,t 41,t 42,t 43,t 44,t 45,t 46,t 47,t 48,t 49,t 50,t 51,t 52,t 53,t 54,t 55,t 56,t 57,t 58,t 59,t 60,t 61,t 62,t 63,t 64,t 65,t 66,t 67,t 68,t 69,t 70,t 71,t 72,t 73,t 74,t 75,t 76,t 77,t 78,t 79,t 80,t 81,t 82,t 83,t 84,t 85,t 86,t 87,t 88,t 89,t 90,t 91,t 92,t 93,t 94,t 95,t 96,t 97,t 98,t 99,t 100,t 101,t 102,t 103,t 104,t 105,t 106,t 107,t 108,t 109,t 110,t 111,t 112,t 113,t 114,t 115,t 116,t 117,t 118,t 119,t 120,t 121,t 122,t 123,t 124,t 125,t 126,t 127,t 128,t 129,t 130,t 131,t 132,t 133,t 134,t 135,t 136,t 137,t 138,t 139,t 140,t 141,t 142,t 143,t 144,t 145,t 146,t 147,t 148,t 149,t 150,t 151,t 152,t 153,t 154,t 155,t 156,t 157,t 158,t 159,t 160,t 161,t 162,t 163,t 164,t 165,t 166,t 167,t 168,t 169,t 170,t 171,t 172,t 173,t 174,t 175,t 176,t 177,t 178,t 179,t 180,t 181,t 182,t 183,t 184,t 185,t 186,t 187,t 188,t 189,t 190,t 191,t 192,t 193,t 194,t 195,t 196,t 197,t 198,t 199,t 200,t 201,t 202,t 203,t 204,t 205,t 206,t 207,t 208,t 209,t 210,t 211,t 212,t 213,t 214,t 215,t 216,t 217,t 218,t 219,t 220,t 221,t 222,t 223,t 224,t 225,t 226,t 227,t 228,t 229,t 230,t 231,t 232,t 233,t 234,t 235,t 236,t 237,t 238,t 239,t 240,t 241,t 242,t 243,t 244,t 245,t 246,t 247,t 248,t 249,t 250,t 251,t 252,t 253,t 254,t 255,t 256,t 257,t 258,t 259,t 260,t 261,t 262,t 263,t 264,t 265,t 266,t 267,t 268,t 269,t 270,t 271,t 272,t 273,t 274,t 275,t 276,t 277,t 278,t 279,t 280,t 281,t 282,t 283,t 284,t 285,t 286,t 287,t 288,t 289,t 290,t 291,t 292,t 293,t 294,t 295,t 296]:=rfl;rw [e2] at e1;rw [h0,h4,h5,h6,h7,h8,h9] at e1;rw [e1]
theorem beq0 (p:Nat):((p:Int) == 0)=decide (p=0):=by
 by_cases h:p=0
 ·subst h;rfl
 ·have:¬(p:Int)=0:=by omega
  simp [h,this]
theorem DB.step {m:Nat}(h:DB d m){d':DnS}(q:Nat)(hk:d'.k<=d.k+q)(h1:d'.n.nw=d.n.nw)(h2:d'.n.log.length=d.n.log.length)(h3:d'.n.tm=d.n.tm):DB d' (m+q):=⟨by have:=h.k;omega,by rw [h1];exact h.nw,by rw [h2];exact h.lg,by rw [h3];exact h.tm⟩
theorem Z0w (a:Act)(v:Value):a.eval (.const v)=v:=rfl
theorem DC.N.drew (h:c.N w d x):c.N w.drew d x:=NS.drew h
theorem DC.N.pick (h:c.N w d x)(hc:c.Ok)(m:Nat)(hk:d.k<=900000000)(hm:0<m)(hM:m<=4294967296) :
  Calls Tryz.prog 53 #[.pointer (some ⟨c.g,0,none⟩),.int .i64 m] w fun e w'=>e=.returned (.int .i64 (Z5 c.l d.k m:Nat))/\c.N w' ⟨d.n,d.k+Zm m⟩ x:=
 (NS.pick h m hc.hL hk hm hM).mono fun e w' h=>h
theorem DC.N.pick1 (h:c.N w d x)(hc:c.Ok)(m:Nat)(hk:d.k<=900000000)(hm:0<m)(hM:m<=256) :
  Calls Tryz.prog 53 #[.pointer (some ⟨c.g,0,none⟩),.int .i64 m] w fun e w'=>e=.returned (.int .i64 (Z5 c.l d.k m:Nat))/\c.N w' ⟨d.n,d.k+1⟩ x:=
 (NS.pick1 h m hc.hL hk hm hM).mono fun e w' h=>h
theorem DC.N.set (h:c.N w d x)(j:Nat)(hj:j<12)(y:Int){n':Nd}(hc:(ndC d.n x).setIfInBounds j (.int .i64 y)=ndC n' x)
  (e1:n'.log=d.n.log) (e2:n'.gr=d.n.gr) (e3:n'.nx=d.n.nx) (e4:n'.mt=d.n.mt) (e5:n'.se=d.n.se) (e6:n'.st=d.n.st):c.N (w.setCell ⟨c.b9,j,none⟩ (.int .i64 y)) ⟨n',d.k⟩ x:=NS.set h j hj y hc e1 e2 e3 e4 e5 e6
theorem DC.N.vl (h:c.N w d x):∃ a k,x.vl=.slice a d.n.log.length k:=(NS.log h).shape
theorem DC.N.blk (h:c.N w d x):Blk w c.b9 (ndC d.n x) 36:=NS.nodeB h
theorem DC.N.stb (h:c.N w d x):Blk w c.b5 c.S 104:=NS.stB5 h
theorem DC.N.res (h:c.N w d x):Blk w c.b4 Jr 36:=NS.resB h
end
section
variable {Q:Exit->Act->World->Prop} {K:Act->World->Prop} {c:DC} {d:DnS} {X:RV} {a:Act} {w:World}
theorem dnR14 (hc:c.Ok){m:Nat}(hm0:m<=899000000)(hb:DB d m)(hF:c.Fr a)(hS:c.N w d X)(hK:∀ a' w',c.Fr a'->c.N w' ⟨{ d.n with dl:=d.n.nw+(Z5 c.l d.k (2*c.EL+1):Nat) },d.k+Zm (2*c.EL+1)⟩ X->K a' w'):(Z1 11 (Z3 Tryz.f51)).wp Tryz.prog (Exit.then K Q) a w:=by
 obtain ⟨M,HM⟩:∃ q,q=2*c.EL+1:=⟨_,rfl⟩;rw [<-HM] at hK;have hM1:=HM;obtain ⟨pD,hpD⟩:∃ p,p=Z5 c.l d.k M:=⟨_,rfl⟩;rw [<-hpD] at hK;have HPD:Hid (pD=Z5 c.l d.k M):=hpD;have bD:pD<M:=by rw [hpD];exact Zf _ _ _ (by omega)
 clear hpD;have hsz:=hc.sz;have hel:=hc.el;have hid:=hc.id;have hnw:=hb.nw;have hkb:=hb.k
 conv=>arg 2;whnf
 refine Xg (fun a0=>a0.tmps.size=297/\a0.eval (.tmp 0)=.pointer (some ⟨c.g,0,none⟩)/\a0.eval (.tmp 7)=.int .i64 (c.EL:Int)/\a0.eval (.tmp 9)=.pointer (some ⟨c.b9,0,none⟩)) (fun a0 aF w'=>∃ x:Nat->Value,aF=frame a0 [68,69,70,71,72,73,74,75,76] x/\c.N w' ⟨{ d.n with dl:=d.n.nw+(pD:Int) },d.k+Zm M⟩ X) ?_ ⟨hF.sz,hF.e0,hF.e7,hF.e9⟩ ?_
 ·rintro a0 ⟨hsz0,e0,e7,e9⟩
  refine Y7 (by kernel_rfl) (fun L aF w'=>∃ x:Nat->Value,aF=frame a0 [68,69,70,71,72,73,74,75,76] x/\(St3 (fun W=>c.N W d X) (fun W=>c.N W ⟨d.n,d.k+Zm M⟩ X) (fun W=>c.N W ⟨{ d.n with dl:=d.n.nw+(pD:Int) },d.k+Zm M⟩ X)) (L.getD 6 false) (L.getD 9 false) w'/\(L.getD 0 false=true->x 68=.pointer (some ⟨c.b9,9,none⟩))/\(L.getD 1 false=true->x 69=.int .i64 d.n.nw)/\(L.getD 2 false=true->x 70=.pointer (some ⟨c.g,0,none⟩))/\(L.getD 3 false=true->x 71=.int .i64 (c.EL:Int))/\(L.getD 4 false=true->x 72=.int .i64 (2*(c.EL:Int)))/\(L.getD 5 false=true->x 73=.int .i64 (M:Int))/\(L.getD 6 false=true->x 74=.int .i64 (pD:Int))/\(L.getD 7 false=true->x 75=.int .i64 (d.n.nw+(pD:Int))/\L.getD 6 false=true)/\(L.getD 8 false=true->x 76=.pointer (some ⟨c.b9,10,none⟩))/\(L.getD 9 false=true->True)) ?_ ?_ ?_
  ·refine ⟨_,Yk a0 [68,69,70,71,72,73,74,75,76],?_,fun h=>(Zl h).elim,fun h=>(Zl h).elim,fun h=>(Zl h).elim,fun h=>(Zl h).elim,fun h=>(Zl h).elim,fun h=>(Zl h).elim,fun h=>(Zl h).elim,fun h=>(Zl h).elim,fun h=>(Zl h).elim,fun h=>(Zl h).elim⟩
   rw [Z05,Z05];exact hS.drew
  ·rintro L a w' i hsL hi ⟨x,rfl,hS,h0,h1,h2,h3,h4,h5,h6,h7,h8,h9⟩
   have hlt:∀ j,j<10->j<L.size:=fun j hj=>by rw [hsL];exact hj
   have hsl:∀ j,j<297->j<a0.tmps.size:=fun j hj=>by rw [hsz0];exact hj
   have hiL:i<10:=(Zx hsL hi).1;have hLz:L.size=10:=hsL;have Xa:w'.cell? ⟨c.b9,9,none⟩=some (.int .i64 d.n.nw):=by refine St3.any (P:=fun W=>W.cell? ⟨c.b9,9,none⟩=some (.int .i64 d.n.nw)) ?_ ?_ ?_ hS <;> intro W h <;> exact (DC.N.blk h).cell 9
   rcases (show i=0∨i=1∨i=2∨i=3∨i=4∨i=5∨i=6∨i=7∨i=8∨i=9 by omega) with rfl | rfl | rfl | rfl | rfl | rfl | rfl | rfl | rfl | rfl
   ·skip
    have hz:=hlt 0 (by decide);have ev9:(frame a0 [68,69,70,71,72,73,74,75,76] x).tmps[9]?.getD undef=.pointer (some ⟨c.b9,0,none⟩):=by have h:=(Zc a0 [68,69,70,71,72,73,74,75,76] x 9 rfl).trans e9;simpa [Act.eval] using h
    refine Z8 rfl rfl (Zd (v:=.pointer (some ⟨c.b9,9,none⟩)) ?_ ?_)
    ·obtain ⟨aa,haa⟩:∃ aa,aa=frame a0 [68,69,70,71,72,73,74,75,76] x:=⟨_,rfl⟩
     rw [<-haa] at ev9 ⊢;clear haa;go_simp
    exact ⟨_,Z9 _ _ _ 68 _ rfl,(by rw [Zp hz (by decide),Zp hz (by decide)];exact hS),fun h=>Zb _ _ _,fun h=>ke2 h1 hz h,fun h=>ke2 h2 hz h,fun h=>ke2 h3 hz h,fun h=>ke2 h4 hz h,fun h=>ke2 h5 hz h,fun h=>ke2 h6 hz h,fun h=>⟨(Z6 _ _ _ _ (by decide)).trans (h7 (kb h hz)).1,Zh (h7 (kb h hz)).2 hz⟩,fun h=>ke2 h8 hz h,fun h=>trivial⟩
   ·have d0:=h0 (Z7 hi (by decide))
    have hz:=hlt 1 (by decide);have ev68:(frame a0 [68,69,70,71,72,73,74,75,76] x).tmps[68]?.getD undef=.pointer (some ⟨c.b9,9,none⟩):=by have h:=(Z4 a0 [68,69,70,71,72,73,74,75,76] x 68 rfl (hsl 68 (by decide))).trans d0;simpa [Act.eval] using h
    refine Z8 rfl rfl (Zd (v:=.int .i64 d.n.nw) ?_ ?_)
    ·obtain ⟨aa,haa⟩:∃ aa,aa=frame a0 [68,69,70,71,72,73,74,75,76] x:=⟨_,rfl⟩
     rw [<-haa] at ev68 ⊢;clear haa;go_simp
    exact ⟨_,Z9 _ _ _ 69 _ rfl,(by rw [Zp hz (by decide),Zp hz (by decide)];exact hS),fun h=>ke2 h0 hz h,fun h=>Zb _ _ _,fun h=>ke2 h2 hz h,fun h=>ke2 h3 hz h,fun h=>ke2 h4 hz h,fun h=>ke2 h5 hz h,fun h=>ke2 h6 hz h,fun h=>⟨(Z6 _ _ _ _ (by decide)).trans (h7 (kb h hz)).1,Zh (h7 (kb h hz)).2 hz⟩,fun h=>ke2 h8 hz h,fun h=>trivial⟩
   ·skip
    have hz:=hlt 2 (by decide);refine Z8 rfl rfl (Y0 (.tmp 0) (Or.inl rfl) ?_);rw [Zc _ _ _ 0 rfl,e0];exact ⟨_,Z9 _ _ _ 70 _ rfl,(by rw [Zp hz (by decide),Zp hz (by decide)];exact hS),fun h=>ke2 h0 hz h,fun h=>ke2 h1 hz h,fun h=>Zb _ _ _,fun h=>ke2 h3 hz h,fun h=>ke2 h4 hz h,fun h=>ke2 h5 hz h,fun h=>ke2 h6 hz h,fun h=>⟨(Z6 _ _ _ _ (by decide)).trans (h7 (kb h hz)).1,Zh (h7 (kb h hz)).2 hz⟩,fun h=>ke2 h8 hz h,fun h=>trivial⟩
   ·skip
    have hz:=hlt 3 (by decide);refine Z8 rfl rfl (Y0 (.tmp 7) (Or.inl rfl) ?_);rw [Zc _ _ _ 7 rfl,e7];exact ⟨_,Z9 _ _ _ 71 _ rfl,(by rw [Zp hz (by decide),Zp hz (by decide)];exact hS),fun h=>ke2 h0 hz h,fun h=>ke2 h1 hz h,fun h=>ke2 h2 hz h,fun h=>Zb _ _ _,fun h=>ke2 h4 hz h,fun h=>ke2 h5 hz h,fun h=>ke2 h6 hz h,fun h=>⟨(Z6 _ _ _ _ (by decide)).trans (h7 (kb h hz)).1,Zh (h7 (kb h hz)).2 hz⟩,fun h=>ke2 h8 hz h,fun h=>trivial⟩
   ·have d3:=h3 (Z7 hi (by decide))
    have hz:=hlt 4 (by decide);have ev71:(frame a0 [68,69,70,71,72,73,74,75,76] x).tmps[71]?.getD undef=.int .i64 (c.EL:Int):=by have h:=(Z4 a0 [68,69,70,71,72,73,74,75,76] x 71 rfl (hsl 71 (by decide))).trans d3;simpa [Act.eval] using h
    refine Z8 rfl rfl (Zd (v:=.int .i64 (2*(c.EL:Int))) ?_ ?_)
    ·obtain ⟨aa,haa⟩:∃ aa,aa=frame a0 [68,69,70,71,72,73,74,75,76] x:=⟨_,rfl⟩
     rw [<-haa] at ev71 ⊢;clear haa;go_simp;rw [IntKind.wrap_i64];omega
    exact ⟨_,Z9 _ _ _ 72 _ rfl,(by rw [Zp hz (by decide),Zp hz (by decide)];exact hS),fun h=>ke2 h0 hz h,fun h=>ke2 h1 hz h,fun h=>ke2 h2 hz h,fun h=>ke2 h3 hz h,fun h=>Zb _ _ _,fun h=>ke2 h5 hz h,fun h=>ke2 h6 hz h,fun h=>⟨(Z6 _ _ _ _ (by decide)).trans (h7 (kb h hz)).1,Zh (h7 (kb h hz)).2 hz⟩,fun h=>ke2 h8 hz h,fun h=>trivial⟩
   ·have d4:=h4 (Z7 hi (by decide))
    have hz:=hlt 5 (by decide);have ev72:(frame a0 [68,69,70,71,72,73,74,75,76] x).tmps[72]?.getD undef=.int .i64 (2*(c.EL:Int)):=by have h:=(Z4 a0 [68,69,70,71,72,73,74,75,76] x 72 rfl (hsl 72 (by decide))).trans d4;simpa [Act.eval] using h
    refine Z8 rfl rfl (Zd (v:=.int .i64 (M:Int)) ?_ ?_)
    ·obtain ⟨aa,haa⟩:∃ aa,aa=frame a0 [68,69,70,71,72,73,74,75,76] x:=⟨_,rfl⟩
     rw [<-haa] at ev72 ⊢;clear haa;go_simp;rw [IntKind.wrap_i64];omega
    exact ⟨_,Z9 _ _ _ 73 _ rfl,(by rw [Zp hz (by decide),Zp hz (by decide)];exact hS),fun h=>ke2 h0 hz h,fun h=>ke2 h1 hz h,fun h=>ke2 h2 hz h,fun h=>ke2 h3 hz h,fun h=>ke2 h4 hz h,fun h=>Zb _ _ _,fun h=>ke2 h6 hz h,fun h=>⟨(Z6 _ _ _ _ (by decide)).trans (h7 (kb h hz)).1,Zh (h7 (kb h hz)).2 hz⟩,fun h=>ke2 h8 hz h,fun h=>trivial⟩
   ·have d2:=h2 (Z7 hi (by decide))
    have d5:=h5 (Z7 hi (by decide));have hz:=hlt 6 (by decide);have ev70:=(Z4 a0 [68,69,70,71,72,73,74,75,76] x 70 rfl (hsl 70 (by decide))).trans d2;have ev73:=(Z4 a0 [68,69,70,71,72,73,74,75,76] x 73 rfl (hsl 73 (by decide))).trans d5;refine Z8 rfl rfl (Y4 (N:=53) rfl (fun _ _=>by go_simp) #[.pointer (some ⟨c.g,0,none⟩),.int .i64 (M:Int)] (by simp only [List.map_toArray,List.map_cons,List.map_nil,ev70,ev73]) ?_);have hb6:L.getD 6 false=false:=by have h9:=(Zx hsL hi).2;rw [Array.getD_eq_getD_getElem?,h9];rfl
    rw [hb6] at hS;obtain ⟨hb9,hS0⟩:=hS.fst;refine Calls.mono (DC.N.pick hS0 hc M (by omega) (by omega) (by omega)) ?_;rw [<-HPD.out];rintro e w2 ⟨rfl,hd⟩;refine ⟨_,rfl,?_⟩;exact ⟨_,Z9 _ _ _ 74 _ rfl,(by rw [Yo hz,Zp hz (by decide),hb9];exact hd),fun h=>ke2 h0 hz h,fun h=>ke2 h1 hz h,fun h=>ke2 h2 hz h,fun h=>ke2 h3 hz h,fun h=>ke2 h4 hz h,fun h=>ke2 h5 hz h,fun h=>Zb _ _ _,fun h=>⟨(Z6 _ _ _ _ (by decide)).trans (h7 (kb h hz)).1,Zh (h7 (kb h hz)).2 hz⟩,fun h=>ke2 h8 hz h,fun h=>trivial⟩
   ·have d1:=h1 (Z7 hi (by decide))
    have d6:=h6 (Z7 hi (by decide));have hz:=hlt 7 (by decide);have ev69:(frame a0 [68,69,70,71,72,73,74,75,76] x).tmps[69]?.getD undef=.int .i64 d.n.nw:=by have h:=(Z4 a0 [68,69,70,71,72,73,74,75,76] x 69 rfl (hsl 69 (by decide))).trans d1;simpa [Act.eval] using h
    have ev74:(frame a0 [68,69,70,71,72,73,74,75,76] x).tmps[74]?.getD undef=.int .i64 (pD:Int):=by have h:=(Z4 a0 [68,69,70,71,72,73,74,75,76] x 74 rfl (hsl 74 (by decide))).trans d6;simpa [Act.eval] using h
    refine Z8 rfl rfl (Zd (v:=.int .i64 (d.n.nw+(pD:Int))) ?_ ?_)
    ·obtain ⟨aa,haa⟩:∃ aa,aa=frame a0 [68,69,70,71,72,73,74,75,76] x:=⟨_,rfl⟩
     rw [<-haa] at ev69 ev74 ⊢;clear haa;go_simp;rw [IntKind.wrap_i64];omega
    exact ⟨_,Z9 _ _ _ 75 _ rfl,(by rw [Zp hz (by decide),Zp hz (by decide)];exact hS),fun h=>ke2 h0 hz h,fun h=>ke2 h1 hz h,fun h=>ke2 h2 hz h,fun h=>ke2 h3 hz h,fun h=>ke2 h4 hz h,fun h=>ke2 h5 hz h,fun h=>ke2 h6 hz h,fun h=>⟨Zb _ _ _,Zh (Z7 hi (j:=6) (by decide)) hz⟩,fun h=>ke2 h8 hz h,fun h=>trivial⟩
   ·skip
    have hz:=hlt 8 (by decide);have ev9:(frame a0 [68,69,70,71,72,73,74,75,76] x).tmps[9]?.getD undef=.pointer (some ⟨c.b9,0,none⟩):=by have h:=(Zc a0 [68,69,70,71,72,73,74,75,76] x 9 rfl).trans e9;simpa [Act.eval] using h
    refine Z8 rfl rfl (Zd (v:=.pointer (some ⟨c.b9,10,none⟩)) ?_ ?_)
    ·obtain ⟨aa,haa⟩:∃ aa,aa=frame a0 [68,69,70,71,72,73,74,75,76] x:=⟨_,rfl⟩
     rw [<-haa] at ev9 ⊢;clear haa;go_simp
    exact ⟨_,Z9 _ _ _ 76 _ rfl,(by rw [Zp hz (by decide),Zp hz (by decide)];exact hS),fun h=>ke2 h0 hz h,fun h=>ke2 h1 hz h,fun h=>ke2 h2 hz h,fun h=>ke2 h3 hz h,fun h=>ke2 h4 hz h,fun h=>ke2 h5 hz h,fun h=>ke2 h6 hz h,fun h=>⟨(Z6 _ _ _ _ (by decide)).trans (h7 (kb h hz)).1,Zh (h7 (kb h hz)).2 hz⟩,fun h=>Zb _ _ _,fun h=>trivial⟩
   ·have d7:=h7 (Z7 hi (by decide))
    have d8:=h8 (Z7 hi (by decide));have hz:=hlt 9 (by decide);have hb9:L.getD 9 false=false:=by have h9:=(Zx hsL hi).2;rw [Array.getD_eq_getD_getElem?,h9];rfl
    have evp:=(Z4 a0 [68,69,70,71,72,73,74,75,76] x 76 rfl (hsl 76 (by decide))).trans d8;have evs:=(Z4 a0 [68,69,70,71,72,73,74,75,76] x 75 rfl (hsl 75 (by decide))).trans d7.1;have ha6:L.getD 6 false=true:=d7.2;rw [ha6,hb9] at hS;refine Z8 rfl rfl (Z27 (.tmp 76) (.tmp 75) rfl evp evs ((DC.N.blk hS).cell 10) ((DC.N.blk hS).free 10) rfl ?_);exact ⟨_,rfl,(by rw [Zp hz (by decide),ha6,Yo hz];exact DC.N.set (d:=⟨d.n,d.k+Zm M⟩) hS 10 (by omega) _ rfl rfl rfl rfl rfl rfl rfl),fun h=>ku2 h0 hz h,fun h=>ku2 h1 hz h,fun h=>ku2 h2 hz h,fun h=>ku2 h3 hz h,fun h=>ku2 h4 hz h,fun h=>ku2 h5 hz h,fun h=>ku2 h6 hz h,fun h=>⟨(h7 (kb h hz)).1,Zh (h7 (kb h hz)).2 hz⟩,fun h=>ku2 h8 hz h,fun h=>trivial⟩
  ·rintro L a w' hsL hr ⟨x,rfl,hS,h0,h1,h2,h3,h4,h5,h6,h7,h8,h9⟩
   have hall:=Yq hsL hr (by decide);replace h0:=h0 (hall 0 (by decide));replace h1:=h1 (hall 1 (by decide));replace h2:=h2 (hall 2 (by decide));replace h3:=h3 (hall 3 (by decide));replace h4:=h4 (hall 4 (by decide));replace h5:=h5 (hall 5 (by decide));replace h6:=h6 (hall 6 (by decide));replace h7:=h7 (hall 7 (by decide));replace h8:=h8 (hall 8 (by decide));replace h9:=h9 (hall 9 (by decide));rw [hall 6 (by decide),hall 9 (by decide)] at hS;exact ⟨rfl,x,rfl,hS⟩
 ·rintro a' w' ⟨x,rfl,hFin⟩
  exact hK _ _ (hF.frame _ _ (by decide)) hFin
theorem dnR16 (hc:c.Ok){m:Nat}(hm0:m<=899000000)(hb:DB d m)(hF:c.Fr a)(hS:c.N w d X)(hK:∀ a' w',c.Fr a'->c.N w' ⟨{ d.n with dl:=d.n.nw+(Z5 c.l d.k 2:Nat) },d.k+1⟩ X->K a' w'):(Zj (Z2 1 (Z1 12 (Z3 Tryz.f51)))).wp Tryz.prog (Exit.then K Q) a w:=by
 obtain ⟨pD,hpD⟩:∃ p,p=Z5 c.l d.k 2:=⟨_,rfl⟩;rw [<-hpD] at hK;have HPD:Hid (pD=Z5 c.l d.k 2):=hpD;have bD:pD<2:=by rw [hpD];exact Zf _ _ _ (by omega)
 clear hpD;have hsz:=hc.sz;have hel:=hc.el;have hid:=hc.id;have hnw:=hb.nw;have hkb:=hb.k
 conv=>arg 2;whnf
 refine Xg (fun a0=>a0.tmps.size=297/\a0.eval (.tmp 0)=.pointer (some ⟨c.g,0,none⟩)/\a0.eval (.tmp 9)=.pointer (some ⟨c.b9,0,none⟩)) (fun a0 aF w'=>∃ x:Nat->Value,aF=frame a0 [80,81,82,83,84,85] x/\c.N w' ⟨{ d.n with dl:=d.n.nw+(pD:Int) },d.k+1⟩ X) ?_ ⟨hF.sz,hF.e0,hF.e9⟩ ?_
 ·rintro a0 ⟨hsz0,e0,e9⟩
  refine Y7 (by kernel_rfl) (fun L aF w'=>∃ x:Nat->Value,aF=frame a0 [80,81,82,83,84,85] x/\(St3 (fun W=>c.N W d X) (fun W=>c.N W ⟨d.n,d.k+1⟩ X) (fun W=>c.N W ⟨{ d.n with dl:=d.n.nw+(pD:Int) },d.k+1⟩ X)) (L.getD 3 false) (L.getD 6 false) w'/\(L.getD 0 false=true->x 80=.pointer (some ⟨c.b9,9,none⟩))/\(L.getD 1 false=true->x 81=.int .i64 d.n.nw)/\(L.getD 2 false=true->x 82=.pointer (some ⟨c.g,0,none⟩))/\(L.getD 3 false=true->x 83=.int .i64 (pD:Int))/\(L.getD 4 false=true->x 84=.int .i64 (d.n.nw+(pD:Int))/\L.getD 3 false=true)/\(L.getD 5 false=true->x 85=.pointer (some ⟨c.b9,10,none⟩))/\(L.getD 6 false=true->True)) ?_ ?_ ?_
  ·refine ⟨_,Yk a0 [80,81,82,83,84,85],?_,fun h=>(Zl h).elim,fun h=>(Zl h).elim,fun h=>(Zl h).elim,fun h=>(Zl h).elim,fun h=>(Zl h).elim,fun h=>(Zl h).elim,fun h=>(Zl h).elim⟩
   rw [Z05,Z05];exact hS.drew
  ·rintro L a w' i hsL hi ⟨x,rfl,hS,h0,h1,h2,h3,h4,h5,h6⟩
   have hlt:∀ j,j<7->j<L.size:=fun j hj=>by rw [hsL];exact hj
   have hsl:∀ j,j<297->j<a0.tmps.size:=fun j hj=>by rw [hsz0];exact hj
   have hiL:i<7:=(Zx hsL hi).1;have hLz:L.size=7:=hsL;have Xa:w'.cell? ⟨c.b9,9,none⟩=some (.int .i64 d.n.nw):=by refine St3.any (P:=fun W=>W.cell? ⟨c.b9,9,none⟩=some (.int .i64 d.n.nw)) ?_ ?_ ?_ hS <;> intro W h <;> exact (DC.N.blk h).cell 9
   rcases (show i=0∨i=1∨i=2∨i=3∨i=4∨i=5∨i=6 by omega) with rfl | rfl | rfl | rfl | rfl | rfl | rfl
   ·skip
    have hz:=hlt 0 (by decide);have ev9:(frame a0 [80,81,82,83,84,85] x).tmps[9]?.getD undef=.pointer (some ⟨c.b9,0,none⟩):=by have h:=(Zc a0 [80,81,82,83,84,85] x 9 rfl).trans e9;simpa [Act.eval] using h
    refine Z8 rfl rfl (Zd (v:=.pointer (some ⟨c.b9,9,none⟩)) ?_ ?_)
    ·obtain ⟨aa,haa⟩:∃ aa,aa=frame a0 [80,81,82,83,84,85] x:=⟨_,rfl⟩
     rw [<-haa] at ev9 ⊢;clear haa;go_simp
    exact ⟨_,Z9 _ _ _ 80 _ rfl,(by rw [Zp hz (by decide),Zp hz (by decide)];exact hS),fun h=>Zb _ _ _,fun h=>ke2 h1 hz h,fun h=>ke2 h2 hz h,fun h=>ke2 h3 hz h,fun h=>⟨(Z6 _ _ _ _ (by decide)).trans (h4 (kb h hz)).1,Zh (h4 (kb h hz)).2 hz⟩,fun h=>ke2 h5 hz h,fun h=>trivial⟩
   ·have d0:=h0 (Z7 hi (by decide))
    have hz:=hlt 1 (by decide);have ev80:(frame a0 [80,81,82,83,84,85] x).tmps[80]?.getD undef=.pointer (some ⟨c.b9,9,none⟩):=by have h:=(Z4 a0 [80,81,82,83,84,85] x 80 rfl (hsl 80 (by decide))).trans d0;simpa [Act.eval] using h
    refine Z8 rfl rfl (Zd (v:=.int .i64 d.n.nw) ?_ ?_)
    ·obtain ⟨aa,haa⟩:∃ aa,aa=frame a0 [80,81,82,83,84,85] x:=⟨_,rfl⟩
     rw [<-haa] at ev80 ⊢;clear haa;go_simp
    exact ⟨_,Z9 _ _ _ 81 _ rfl,(by rw [Zp hz (by decide),Zp hz (by decide)];exact hS),fun h=>ke2 h0 hz h,fun h=>Zb _ _ _,fun h=>ke2 h2 hz h,fun h=>ke2 h3 hz h,fun h=>⟨(Z6 _ _ _ _ (by decide)).trans (h4 (kb h hz)).1,Zh (h4 (kb h hz)).2 hz⟩,fun h=>ke2 h5 hz h,fun h=>trivial⟩
   ·skip
    have hz:=hlt 2 (by decide);refine Z8 rfl rfl (Y0 (.tmp 0) (Or.inl rfl) ?_);rw [Zc _ _ _ 0 rfl,e0];exact ⟨_,Z9 _ _ _ 82 _ rfl,(by rw [Zp hz (by decide),Zp hz (by decide)];exact hS),fun h=>ke2 h0 hz h,fun h=>ke2 h1 hz h,fun h=>Zb _ _ _,fun h=>ke2 h3 hz h,fun h=>⟨(Z6 _ _ _ _ (by decide)).trans (h4 (kb h hz)).1,Zh (h4 (kb h hz)).2 hz⟩,fun h=>ke2 h5 hz h,fun h=>trivial⟩
   ·have d2:=h2 (Z7 hi (by decide))
    have hz:=hlt 3 (by decide);have ev82:=(Z4 a0 [80,81,82,83,84,85] x 82 rfl (hsl 82 (by decide))).trans d2;refine Z8 rfl rfl (Y4 (N:=53) rfl (fun _ _=>by go_simp) #[.pointer (some ⟨c.g,0,none⟩),.int .i64 2] (by simp only [List.map_toArray,List.map_cons,List.map_nil,ev82,Z0w]) ?_);have hb3:L.getD 3 false=false:=by have h9:=(Zx hsL hi).2;rw [Array.getD_eq_getD_getElem?,h9];rfl
    rw [hb3] at hS;obtain ⟨hb9,hS0⟩:=hS.fst;refine Calls.mono (DC.N.pick1 hS0 hc 2 (by omega) (by omega) (by omega)) ?_;rw [<-HPD.out];rintro e w2 ⟨rfl,hd⟩;refine ⟨_,rfl,?_⟩;exact ⟨_,Z9 _ _ _ 83 _ rfl,(by rw [Yo hz,Zp hz (by decide),hb9];exact hd),fun h=>ke2 h0 hz h,fun h=>ke2 h1 hz h,fun h=>ke2 h2 hz h,fun h=>Zb _ _ _,fun h=>⟨(Z6 _ _ _ _ (by decide)).trans (h4 (kb h hz)).1,Zh (h4 (kb h hz)).2 hz⟩,fun h=>ke2 h5 hz h,fun h=>trivial⟩
   ·have d1:=h1 (Z7 hi (by decide))
    have d3:=h3 (Z7 hi (by decide));have hz:=hlt 4 (by decide);have ev81:(frame a0 [80,81,82,83,84,85] x).tmps[81]?.getD undef=.int .i64 d.n.nw:=by have h:=(Z4 a0 [80,81,82,83,84,85] x 81 rfl (hsl 81 (by decide))).trans d1;simpa [Act.eval] using h
    have ev83:(frame a0 [80,81,82,83,84,85] x).tmps[83]?.getD undef=.int .i64 (pD:Int):=by have h:=(Z4 a0 [80,81,82,83,84,85] x 83 rfl (hsl 83 (by decide))).trans d3;simpa [Act.eval] using h
    refine Z8 rfl rfl (Zd (v:=.int .i64 (d.n.nw+(pD:Int))) ?_ ?_)
    ·obtain ⟨aa,haa⟩:∃ aa,aa=frame a0 [80,81,82,83,84,85] x:=⟨_,rfl⟩
     rw [<-haa] at ev81 ev83 ⊢;clear haa;go_simp;rw [IntKind.wrap_i64];omega
    exact ⟨_,Z9 _ _ _ 84 _ rfl,(by rw [Zp hz (by decide),Zp hz (by decide)];exact hS),fun h=>ke2 h0 hz h,fun h=>ke2 h1 hz h,fun h=>ke2 h2 hz h,fun h=>ke2 h3 hz h,fun h=>⟨Zb _ _ _,Zh (Z7 hi (j:=3) (by decide)) hz⟩,fun h=>ke2 h5 hz h,fun h=>trivial⟩
   ·skip
    have hz:=hlt 5 (by decide);have ev9:(frame a0 [80,81,82,83,84,85] x).tmps[9]?.getD undef=.pointer (some ⟨c.b9,0,none⟩):=by have h:=(Zc a0 [80,81,82,83,84,85] x 9 rfl).trans e9;simpa [Act.eval] using h
    refine Z8 rfl rfl (Zd (v:=.pointer (some ⟨c.b9,10,none⟩)) ?_ ?_)
    ·obtain ⟨aa,haa⟩:∃ aa,aa=frame a0 [80,81,82,83,84,85] x:=⟨_,rfl⟩
     rw [<-haa] at ev9 ⊢;clear haa;go_simp
    exact ⟨_,Z9 _ _ _ 85 _ rfl,(by rw [Zp hz (by decide),Zp hz (by decide)];exact hS),fun h=>ke2 h0 hz h,fun h=>ke2 h1 hz h,fun h=>ke2 h2 hz h,fun h=>ke2 h3 hz h,fun h=>⟨(Z6 _ _ _ _ (by decide)).trans (h4 (kb h hz)).1,Zh (h4 (kb h hz)).2 hz⟩,fun h=>Zb _ _ _,fun h=>trivial⟩
   ·have d4:=h4 (Z7 hi (by decide))
    have d5:=h5 (Z7 hi (by decide));have hz:=hlt 6 (by decide);have hb6:L.getD 6 false=false:=by have h9:=(Zx hsL hi).2;rw [Array.getD_eq_getD_getElem?,h9];rfl
    have evp:=(Z4 a0 [80,81,82,83,84,85] x 85 rfl (hsl 85 (by decide))).trans d5;have evs:=(Z4 a0 [80,81,82,83,84,85] x 84 rfl (hsl 84 (by decide))).trans d4.1;have ha6:L.getD 3 false=true:=d4.2;rw [ha6,hb6] at hS;refine Z8 rfl rfl (Z27 (.tmp 85) (.tmp 84) rfl evp evs ((DC.N.blk hS).cell 10) ((DC.N.blk hS).free 10) rfl ?_);exact ⟨_,rfl,(by rw [Zp hz (by decide),ha6,Yo hz];exact DC.N.set (d:=⟨d.n,d.k+1⟩) hS 10 (by omega) _ rfl rfl rfl rfl rfl rfl rfl),fun h=>ku2 h0 hz h,fun h=>ku2 h1 hz h,fun h=>ku2 h2 hz h,fun h=>ku2 h3 hz h,fun h=>⟨(h4 (kb h hz)).1,Zh (h4 (kb h hz)).2 hz⟩,fun h=>ku2 h5 hz h,fun h=>trivial⟩
  ·rintro L a w' hsL hr ⟨x,rfl,hS,h0,h1,h2,h3,h4,h5,h6⟩
   have hall:=Yq hsL hr (by decide);replace h0:=h0 (hall 0 (by decide));replace h1:=h1 (hall 1 (by decide));replace h2:=h2 (hall 2 (by decide));replace h3:=h3 (hall 3 (by decide));replace h4:=h4 (hall 4 (by decide));replace h5:=h5 (hall 5 (by decide));replace h6:=h6 (hall 6 (by decide));rw [hall 3 (by decide),hall 6 (by decide)] at hS;exact ⟨rfl,x,rfl,hS⟩
 ·rintro a' w' ⟨x,rfl,hFin⟩
  exact hK _ _ (hF.frame _ _ (by decide)) hFin
theorem dnR17 (hc:c.Ok){m:Nat}(hm0:m<=899000000)(hb:DB d m)(hF:c.Fr a)(hS:c.N w d X)(hK:∀ a' w',c.Fr a'->c.N w' (Z04 c.l c.EL d) X->K a' w'):(Z1 13 (Z3 Tryz.f51)).wp Tryz.prog (Exit.then K Q) a w:=by
 obtain ⟨mi,hm⟩:∃ q,q=min d.n.nw (2*(c.EL:Int)):=⟨_,rfl⟩;have HMi:Hid (mi=min d.n.nw (2*(c.EL:Int))):=hm;obtain ⟨M,HM⟩:∃ q,q=min d.n.nw.toNat (2*c.EL)+1:=⟨_,rfl⟩;rw [show Z04 c.l c.EL d=⟨{ d.n with hd:=d.n.nw-(Z5 c.l d.k (min d.n.nw.toNat (2*c.EL)+1):Nat) },d.k+Zm (min d.n.nw.toNat (2*c.EL)+1)⟩ from rfl,<-HM] at hK;have hM1:(M:Int)=mi+1:=by have:=hb.nw;omega
 have hM2:M<=2*c.EL+1:=by omega
 obtain ⟨pD,hpD⟩:∃ p,p=Z5 c.l d.k M:=⟨_,rfl⟩;rw [<-hpD] at hK;have HPD:Hid (pD=Z5 c.l d.k M):=hpD;have bD:pD<M:=by rw [hpD];exact Zf _ _ _ (by omega)
 clear hpD hm;have hsz:=hc.sz;have hel:=hc.el;have hid:=hc.id;have hnw:=hb.nw;have hkb:=hb.k
 conv=>arg 2;whnf
 refine Xg (fun a0=>a0.tmps.size=297/\a0.eval (.tmp 0)=.pointer (some ⟨c.g,0,none⟩)/\a0.eval (.tmp 7)=.int .i64 (c.EL:Int)/\a0.eval (.tmp 9)=.pointer (some ⟨c.b9,0,none⟩)) (fun a0 aF w'=>∃ x:Nat->Value,aF=frame a0 [86,87,88,89,90,91,92,93,94,95,96,97] x/\c.N w' ⟨{ d.n with hd:=d.n.nw-(pD:Int) },d.k+Zm M⟩ X) ?_ ⟨hF.sz,hF.e0,hF.e7,hF.e9⟩ ?_
 ·rintro a0 ⟨hsz0,e0,e7,e9⟩
  refine Y7 (by kernel_rfl) (fun L aF w'=>∃ x:Nat->Value,aF=frame a0 [86,87,88,89,90,91,92,93,94,95,96,97] x/\(St3 (fun W=>c.N W d X) (fun W=>c.N W ⟨d.n,d.k+Zm M⟩ X) (fun W=>c.N W ⟨{ d.n with hd:=d.n.nw-(pD:Int) },d.k+Zm M⟩ X)) (L.getD 9 false) (L.getD 12 false) w'/\(L.getD 0 false=true->x 86=.pointer (some ⟨c.b9,9,none⟩))/\(L.getD 1 false=true->x 87=.int .i64 d.n.nw)/\(L.getD 2 false=true->x 88=.pointer (some ⟨c.g,0,none⟩))/\(L.getD 3 false=true->x 89=.pointer (some ⟨c.b9,9,none⟩))/\(L.getD 4 false=true->x 90=.int .i64 d.n.nw)/\(L.getD 5 false=true->x 91=.int .i64 (c.EL:Int))/\(L.getD 6 false=true->x 92=.int .i64 (2*(c.EL:Int)))/\(L.getD 7 false=true->x 93=.int .i64 mi)/\(L.getD 8 false=true->x 94=.int .i64 (M:Int))/\(L.getD 9 false=true->x 95=.int .i64 (pD:Int))/\(L.getD 10 false=true->x 96=.int .i64 (d.n.nw-(pD:Int))/\L.getD 9 false=true)/\(L.getD 11 false=true->x 97=.pointer (some ⟨c.b9,11,none⟩))/\(L.getD 12 false=true->True)) ?_ ?_ ?_
  ·refine ⟨_,Yk a0 [86,87,88,89,90,91,92,93,94,95,96,97],?_,fun h=>(Zl h).elim,fun h=>(Zl h).elim,fun h=>(Zl h).elim,fun h=>(Zl h).elim,fun h=>(Zl h).elim,fun h=>(Zl h).elim,fun h=>(Zl h).elim,fun h=>(Zl h).elim,fun h=>(Zl h).elim,fun h=>(Zl h).elim,fun h=>(Zl h).elim,fun h=>(Zl h).elim,fun h=>(Zl h).elim⟩
   rw [Z05,Z05];exact hS.drew
  ·rintro L a w' i hsL hi ⟨x,rfl,hS,h0,h1,h2,h3,h4,h5,h6,h7,h8,h9,h10,h11,h12⟩
   have hlt:∀ j,j<13->j<L.size:=fun j hj=>by rw [hsL];exact hj
   have hsl:∀ j,j<297->j<a0.tmps.size:=fun j hj=>by rw [hsz0];exact hj
   have hiL:i<13:=(Zx hsL hi).1;have hLz:L.size=13:=hsL;have Xa:w'.cell? ⟨c.b9,9,none⟩=some (.int .i64 d.n.nw):=by refine St3.any (P:=fun W=>W.cell? ⟨c.b9,9,none⟩=some (.int .i64 d.n.nw)) ?_ ?_ ?_ hS <;> intro W h <;> exact (DC.N.blk h).cell 9
   rcases (show i=0∨i=1∨i=2∨i=3∨i=4∨i=5∨i=6∨i=7∨i=8∨i=9∨i=10∨i=11∨i=12 by omega) with rfl | rfl | rfl | rfl | rfl | rfl | rfl | rfl | rfl | rfl | rfl | rfl | rfl
   ·skip
    have hz:=hlt 0 (by decide);have ev9:(frame a0 [86,87,88,89,90,91,92,93,94,95,96,97] x).tmps[9]?.getD undef=.pointer (some ⟨c.b9,0,none⟩):=by have h:=(Zc a0 [86,87,88,89,90,91,92,93,94,95,96,97] x 9 rfl).trans e9;simpa [Act.eval] using h
    refine Z8 rfl rfl (Zd (v:=.pointer (some ⟨c.b9,9,none⟩)) ?_ ?_)
    ·obtain ⟨aa,haa⟩:∃ aa,aa=frame a0 [86,87,88,89,90,91,92,93,94,95,96,97] x:=⟨_,rfl⟩
     rw [<-haa] at ev9 ⊢;clear haa;go_simp
    exact ⟨_,Z9 _ _ _ 86 _ rfl,(by rw [Zp hz (by decide),Zp hz (by decide)];exact hS),fun h=>Zb _ _ _,fun h=>ke2 h1 hz h,fun h=>ke2 h2 hz h,fun h=>ke2 h3 hz h,fun h=>ke2 h4 hz h,fun h=>ke2 h5 hz h,fun h=>ke2 h6 hz h,fun h=>ke2 h7 hz h,fun h=>ke2 h8 hz h,fun h=>ke2 h9 hz h,fun h=>⟨(Z6 _ _ _ _ (by decide)).trans (h10 (kb h hz)).1,Zh (h10 (kb h hz)).2 hz⟩,fun h=>ke2 h11 hz h,fun h=>trivial⟩
   ·have d0:=h0 (Z7 hi (by decide))
    have hz:=hlt 1 (by decide);have ev86:(frame a0 [86,87,88,89,90,91,92,93,94,95,96,97] x).tmps[86]?.getD undef=.pointer (some ⟨c.b9,9,none⟩):=by have h:=(Z4 a0 [86,87,88,89,90,91,92,93,94,95,96,97] x 86 rfl (hsl 86 (by decide))).trans d0;simpa [Act.eval] using h
    refine Z8 rfl rfl (Zd (v:=.int .i64 d.n.nw) ?_ ?_)
    ·obtain ⟨aa,haa⟩:∃ aa,aa=frame a0 [86,87,88,89,90,91,92,93,94,95,96,97] x:=⟨_,rfl⟩
     rw [<-haa] at ev86 ⊢;clear haa;go_simp
    exact ⟨_,Z9 _ _ _ 87 _ rfl,(by rw [Zp hz (by decide),Zp hz (by decide)];exact hS),fun h=>ke2 h0 hz h,fun h=>Zb _ _ _,fun h=>ke2 h2 hz h,fun h=>ke2 h3 hz h,fun h=>ke2 h4 hz h,fun h=>ke2 h5 hz h,fun h=>ke2 h6 hz h,fun h=>ke2 h7 hz h,fun h=>ke2 h8 hz h,fun h=>ke2 h9 hz h,fun h=>⟨(Z6 _ _ _ _ (by decide)).trans (h10 (kb h hz)).1,Zh (h10 (kb h hz)).2 hz⟩,fun h=>ke2 h11 hz h,fun h=>trivial⟩
   ·skip
    have hz:=hlt 2 (by decide);refine Z8 rfl rfl (Y0 (.tmp 0) (Or.inl rfl) ?_);rw [Zc _ _ _ 0 rfl,e0];exact ⟨_,Z9 _ _ _ 88 _ rfl,(by rw [Zp hz (by decide),Zp hz (by decide)];exact hS),fun h=>ke2 h0 hz h,fun h=>ke2 h1 hz h,fun h=>Zb _ _ _,fun h=>ke2 h3 hz h,fun h=>ke2 h4 hz h,fun h=>ke2 h5 hz h,fun h=>ke2 h6 hz h,fun h=>ke2 h7 hz h,fun h=>ke2 h8 hz h,fun h=>ke2 h9 hz h,fun h=>⟨(Z6 _ _ _ _ (by decide)).trans (h10 (kb h hz)).1,Zh (h10 (kb h hz)).2 hz⟩,fun h=>ke2 h11 hz h,fun h=>trivial⟩
   ·skip
    have hz:=hlt 3 (by decide);have ev9:(frame a0 [86,87,88,89,90,91,92,93,94,95,96,97] x).tmps[9]?.getD undef=.pointer (some ⟨c.b9,0,none⟩):=by have h:=(Zc a0 [86,87,88,89,90,91,92,93,94,95,96,97] x 9 rfl).trans e9;simpa [Act.eval] using h
    refine Z8 rfl rfl (Zd (v:=.pointer (some ⟨c.b9,9,none⟩)) ?_ ?_)
    ·obtain ⟨aa,haa⟩:∃ aa,aa=frame a0 [86,87,88,89,90,91,92,93,94,95,96,97] x:=⟨_,rfl⟩
     rw [<-haa] at ev9 ⊢;clear haa;go_simp
    exact ⟨_,Z9 _ _ _ 89 _ rfl,(by rw [Zp hz (by decide),Zp hz (by decide)];exact hS),fun h=>ke2 h0 hz h,fun h=>ke2 h1 hz h,fun h=>ke2 h2 hz h,fun h=>Zb _ _ _,fun h=>ke2 h4 hz h,fun h=>ke2 h5 hz h,fun h=>ke2 h6 hz h,fun h=>ke2 h7 hz h,fun h=>ke2 h8 hz h,fun h=>ke2 h9 hz h,fun h=>⟨(Z6 _ _ _ _ (by decide)).trans (h10 (kb h hz)).1,Zh (h10 (kb h hz)).2 hz⟩,fun h=>ke2 h11 hz h,fun h=>trivial⟩
   ·have d3:=h3 (Z7 hi (by decide))
    have hz:=hlt 4 (by decide);have ev89:(frame a0 [86,87,88,89,90,91,92,93,94,95,96,97] x).tmps[89]?.getD undef=.pointer (some ⟨c.b9,9,none⟩):=by have h:=(Z4 a0 [86,87,88,89,90,91,92,93,94,95,96,97] x 89 rfl (hsl 89 (by decide))).trans d3;simpa [Act.eval] using h
    refine Z8 rfl rfl (Zd (v:=.int .i64 d.n.nw) ?_ ?_)
    ·obtain ⟨aa,haa⟩:∃ aa,aa=frame a0 [86,87,88,89,90,91,92,93,94,95,96,97] x:=⟨_,rfl⟩
     rw [<-haa] at ev89 ⊢;clear haa;go_simp
    exact ⟨_,Z9 _ _ _ 90 _ rfl,(by rw [Zp hz (by decide),Zp hz (by decide)];exact hS),fun h=>ke2 h0 hz h,fun h=>ke2 h1 hz h,fun h=>ke2 h2 hz h,fun h=>ke2 h3 hz h,fun h=>Zb _ _ _,fun h=>ke2 h5 hz h,fun h=>ke2 h6 hz h,fun h=>ke2 h7 hz h,fun h=>ke2 h8 hz h,fun h=>ke2 h9 hz h,fun h=>⟨(Z6 _ _ _ _ (by decide)).trans (h10 (kb h hz)).1,Zh (h10 (kb h hz)).2 hz⟩,fun h=>ke2 h11 hz h,fun h=>trivial⟩
   ·skip
    have hz:=hlt 5 (by decide);refine Z8 rfl rfl (Y0 (.tmp 7) (Or.inl rfl) ?_);rw [Zc _ _ _ 7 rfl,e7];exact ⟨_,Z9 _ _ _ 91 _ rfl,(by rw [Zp hz (by decide),Zp hz (by decide)];exact hS),fun h=>ke2 h0 hz h,fun h=>ke2 h1 hz h,fun h=>ke2 h2 hz h,fun h=>ke2 h3 hz h,fun h=>ke2 h4 hz h,fun h=>Zb _ _ _,fun h=>ke2 h6 hz h,fun h=>ke2 h7 hz h,fun h=>ke2 h8 hz h,fun h=>ke2 h9 hz h,fun h=>⟨(Z6 _ _ _ _ (by decide)).trans (h10 (kb h hz)).1,Zh (h10 (kb h hz)).2 hz⟩,fun h=>ke2 h11 hz h,fun h=>trivial⟩
   ·have d5:=h5 (Z7 hi (by decide))
    have hz:=hlt 6 (by decide);have ev91:(frame a0 [86,87,88,89,90,91,92,93,94,95,96,97] x).tmps[91]?.getD undef=.int .i64 (c.EL:Int):=by have h:=(Z4 a0 [86,87,88,89,90,91,92,93,94,95,96,97] x 91 rfl (hsl 91 (by decide))).trans d5;simpa [Act.eval] using h
    refine Z8 rfl rfl (Zd (v:=.int .i64 (2*(c.EL:Int))) ?_ ?_)
    ·obtain ⟨aa,haa⟩:∃ aa,aa=frame a0 [86,87,88,89,90,91,92,93,94,95,96,97] x:=⟨_,rfl⟩
     rw [<-haa] at ev91 ⊢;clear haa;go_simp;rw [IntKind.wrap_i64];omega
    exact ⟨_,Z9 _ _ _ 92 _ rfl,(by rw [Zp hz (by decide),Zp hz (by decide)];exact hS),fun h=>ke2 h0 hz h,fun h=>ke2 h1 hz h,fun h=>ke2 h2 hz h,fun h=>ke2 h3 hz h,fun h=>ke2 h4 hz h,fun h=>ke2 h5 hz h,fun h=>Zb _ _ _,fun h=>ke2 h7 hz h,fun h=>ke2 h8 hz h,fun h=>ke2 h9 hz h,fun h=>⟨(Z6 _ _ _ _ (by decide)).trans (h10 (kb h hz)).1,Zh (h10 (kb h hz)).2 hz⟩,fun h=>ke2 h11 hz h,fun h=>trivial⟩
   ·have d4:=h4 (Z7 hi (by decide))
    have d6:=h6 (Z7 hi (by decide));have hz:=hlt 7 (by decide);have ev90:=(Z4 a0 [86,87,88,89,90,91,92,93,94,95,96,97] x 90 rfl (hsl 90 (by decide))).trans d4;have ev92:=(Z4 a0 [86,87,88,89,90,91,92,93,94,95,96,97] x 92 rfl (hsl 92 (by decide))).trans d6;refine Z8 rfl rfl (Y4 (N:=55) rfl (fun _ _=>by go_simp) #[.int .i64 d.n.nw,.int .i64 (2*(c.EL:Int))] (by simp only [List.map_toArray,List.map_cons,List.map_nil,ev90,ev92]) ?_);refine Calls.mono (Xf _ _ _) ?_;rw [<-HMi.out];rintro e w2 ⟨rfl,rfl⟩;refine ⟨_,rfl,?_⟩;exact ⟨_,Z9 _ _ _ 93 _ rfl,(by rw [Zp hz (by decide),Zp hz (by decide)];exact hS),fun h=>ke2 h0 hz h,fun h=>ke2 h1 hz h,fun h=>ke2 h2 hz h,fun h=>ke2 h3 hz h,fun h=>ke2 h4 hz h,fun h=>ke2 h5 hz h,fun h=>ke2 h6 hz h,fun h=>Zb _ _ _,fun h=>ke2 h8 hz h,fun h=>ke2 h9 hz h,fun h=>⟨(Z6 _ _ _ _ (by decide)).trans (h10 (kb h hz)).1,Zh (h10 (kb h hz)).2 hz⟩,fun h=>ke2 h11 hz h,fun h=>trivial⟩
   ·have d7:=h7 (Z7 hi (by decide))
    have hz:=hlt 8 (by decide);have ev93:(frame a0 [86,87,88,89,90,91,92,93,94,95,96,97] x).tmps[93]?.getD undef=.int .i64 mi:=by have h:=(Z4 a0 [86,87,88,89,90,91,92,93,94,95,96,97] x 93 rfl (hsl 93 (by decide))).trans d7;simpa [Act.eval] using h
    refine Z8 rfl rfl (Zd (v:=.int .i64 (M:Int)) ?_ ?_)
    ·obtain ⟨aa,haa⟩:∃ aa,aa=frame a0 [86,87,88,89,90,91,92,93,94,95,96,97] x:=⟨_,rfl⟩
     rw [<-haa] at ev93 ⊢;clear haa;go_simp;rw [IntKind.wrap_i64];omega
    exact ⟨_,Z9 _ _ _ 94 _ rfl,(by rw [Zp hz (by decide),Zp hz (by decide)];exact hS),fun h=>ke2 h0 hz h,fun h=>ke2 h1 hz h,fun h=>ke2 h2 hz h,fun h=>ke2 h3 hz h,fun h=>ke2 h4 hz h,fun h=>ke2 h5 hz h,fun h=>ke2 h6 hz h,fun h=>ke2 h7 hz h,fun h=>Zb _ _ _,fun h=>ke2 h9 hz h,fun h=>⟨(Z6 _ _ _ _ (by decide)).trans (h10 (kb h hz)).1,Zh (h10 (kb h hz)).2 hz⟩,fun h=>ke2 h11 hz h,fun h=>trivial⟩
   ·have d2:=h2 (Z7 hi (by decide))
    have d8:=h8 (Z7 hi (by decide));have hz:=hlt 9 (by decide);have ev88:=(Z4 a0 [86,87,88,89,90,91,92,93,94,95,96,97] x 88 rfl (hsl 88 (by decide))).trans d2;have ev94:=(Z4 a0 [86,87,88,89,90,91,92,93,94,95,96,97] x 94 rfl (hsl 94 (by decide))).trans d8;refine Z8 rfl rfl (Y4 (N:=53) rfl (fun _ _=>by go_simp) #[.pointer (some ⟨c.g,0,none⟩),.int .i64 (M:Int)] (by simp only [List.map_toArray,List.map_cons,List.map_nil,ev88,ev94]) ?_);have hb9:L.getD 9 false=false:=by have h9:=(Zx hsL hi).2;rw [Array.getD_eq_getD_getElem?,h9];rfl
    rw [hb9] at hS;obtain ⟨hb12,hS0⟩:=hS.fst;refine Calls.mono (DC.N.pick hS0 hc M (by omega) (by omega) (by omega)) ?_;rw [<-HPD.out];rintro e w2 ⟨rfl,hd⟩;refine ⟨_,rfl,?_⟩;exact ⟨_,Z9 _ _ _ 95 _ rfl,(by rw [Yo hz,Zp hz (by decide),hb12];exact hd),fun h=>ke2 h0 hz h,fun h=>ke2 h1 hz h,fun h=>ke2 h2 hz h,fun h=>ke2 h3 hz h,fun h=>ke2 h4 hz h,fun h=>ke2 h5 hz h,fun h=>ke2 h6 hz h,fun h=>ke2 h7 hz h,fun h=>ke2 h8 hz h,fun h=>Zb _ _ _,fun h=>⟨(Z6 _ _ _ _ (by decide)).trans (h10 (kb h hz)).1,Zh (h10 (kb h hz)).2 hz⟩,fun h=>ke2 h11 hz h,fun h=>trivial⟩
   ·have d1:=h1 (Z7 hi (by decide))
    have d9:=h9 (Z7 hi (by decide));have hz:=hlt 10 (by decide);have ev87:(frame a0 [86,87,88,89,90,91,92,93,94,95,96,97] x).tmps[87]?.getD undef=.int .i64 d.n.nw:=by have h:=(Z4 a0 [86,87,88,89,90,91,92,93,94,95,96,97] x 87 rfl (hsl 87 (by decide))).trans d1;simpa [Act.eval] using h
    have ev95:(frame a0 [86,87,88,89,90,91,92,93,94,95,96,97] x).tmps[95]?.getD undef=.int .i64 (pD:Int):=by have h:=(Z4 a0 [86,87,88,89,90,91,92,93,94,95,96,97] x 95 rfl (hsl 95 (by decide))).trans d9;simpa [Act.eval] using h
    refine Z8 rfl rfl (Zd (v:=.int .i64 (d.n.nw-(pD:Int))) ?_ ?_)
    ·obtain ⟨aa,haa⟩:∃ aa,aa=frame a0 [86,87,88,89,90,91,92,93,94,95,96,97] x:=⟨_,rfl⟩
     rw [<-haa] at ev87 ev95 ⊢;clear haa;go_simp;rw [IntKind.wrap_i64];omega
    exact ⟨_,Z9 _ _ _ 96 _ rfl,(by rw [Zp hz (by decide),Zp hz (by decide)];exact hS),fun h=>ke2 h0 hz h,fun h=>ke2 h1 hz h,fun h=>ke2 h2 hz h,fun h=>ke2 h3 hz h,fun h=>ke2 h4 hz h,fun h=>ke2 h5 hz h,fun h=>ke2 h6 hz h,fun h=>ke2 h7 hz h,fun h=>ke2 h8 hz h,fun h=>ke2 h9 hz h,fun h=>⟨Zb _ _ _,Zh (Z7 hi (j:=9) (by decide)) hz⟩,fun h=>ke2 h11 hz h,fun h=>trivial⟩
   ·skip
    have hz:=hlt 11 (by decide);have ev9:(frame a0 [86,87,88,89,90,91,92,93,94,95,96,97] x).tmps[9]?.getD undef=.pointer (some ⟨c.b9,0,none⟩):=by have h:=(Zc a0 [86,87,88,89,90,91,92,93,94,95,96,97] x 9 rfl).trans e9;simpa [Act.eval] using h
    refine Z8 rfl rfl (Zd (v:=.pointer (some ⟨c.b9,11,none⟩)) ?_ ?_)
    ·obtain ⟨aa,haa⟩:∃ aa,aa=frame a0 [86,87,88,89,90,91,92,93,94,95,96,97] x:=⟨_,rfl⟩
     rw [<-haa] at ev9 ⊢;clear haa;go_simp
    exact ⟨_,Z9 _ _ _ 97 _ rfl,(by rw [Zp hz (by decide),Zp hz (by decide)];exact hS),fun h=>ke2 h0 hz h,fun h=>ke2 h1 hz h,fun h=>ke2 h2 hz h,fun h=>ke2 h3 hz h,fun h=>ke2 h4 hz h,fun h=>ke2 h5 hz h,fun h=>ke2 h6 hz h,fun h=>ke2 h7 hz h,fun h=>ke2 h8 hz h,fun h=>ke2 h9 hz h,fun h=>⟨(Z6 _ _ _ _ (by decide)).trans (h10 (kb h hz)).1,Zh (h10 (kb h hz)).2 hz⟩,fun h=>Zb _ _ _,fun h=>trivial⟩
   ·have d10:=h10 (Z7 hi (by decide))
    have d11:=h11 (Z7 hi (by decide));have hz:=hlt 12 (by decide);have hb12:L.getD 12 false=false:=by have h9:=(Zx hsL hi).2;rw [Array.getD_eq_getD_getElem?,h9];rfl
    have evp:=(Z4 a0 [86,87,88,89,90,91,92,93,94,95,96,97] x 97 rfl (hsl 97 (by decide))).trans d11;have evs:=(Z4 a0 [86,87,88,89,90,91,92,93,94,95,96,97] x 96 rfl (hsl 96 (by decide))).trans d10.1;have ha6:L.getD 9 false=true:=d10.2;rw [ha6,hb12] at hS;refine Z8 rfl rfl (Z27 (.tmp 97) (.tmp 96) rfl evp evs ((DC.N.blk hS).cell 11) ((DC.N.blk hS).free 11) rfl ?_);exact ⟨_,rfl,(by rw [Zp hz (by decide),ha6,Yo hz];exact DC.N.set (d:=⟨d.n,d.k+Zm M⟩) hS 11 (by omega) _ rfl rfl rfl rfl rfl rfl rfl),fun h=>ku2 h0 hz h,fun h=>ku2 h1 hz h,fun h=>ku2 h2 hz h,fun h=>ku2 h3 hz h,fun h=>ku2 h4 hz h,fun h=>ku2 h5 hz h,fun h=>ku2 h6 hz h,fun h=>ku2 h7 hz h,fun h=>ku2 h8 hz h,fun h=>ku2 h9 hz h,fun h=>⟨(h10 (kb h hz)).1,Zh (h10 (kb h hz)).2 hz⟩,fun h=>ku2 h11 hz h,fun h=>trivial⟩
  ·rintro L a w' hsL hr ⟨x,rfl,hS,h0,h1,h2,h3,h4,h5,h6,h7,h8,h9,h10,h11,h12⟩
   have hall:=Yq hsL hr (by decide);replace h0:=h0 (hall 0 (by decide));replace h1:=h1 (hall 1 (by decide));replace h2:=h2 (hall 2 (by decide));replace h3:=h3 (hall 3 (by decide));replace h4:=h4 (hall 4 (by decide));replace h5:=h5 (hall 5 (by decide));replace h6:=h6 (hall 6 (by decide));replace h7:=h7 (hall 7 (by decide));replace h8:=h8 (hall 8 (by decide));replace h9:=h9 (hall 9 (by decide));replace h10:=h10 (hall 10 (by decide));replace h11:=h11 (hall 11 (by decide));replace h12:=h12 (hall 12 (by decide));rw [hall 9 (by decide),hall 12 (by decide)] at hS;exact ⟨rfl,x,rfl,hS⟩
 ·rintro a' w' ⟨x,rfl,hFin⟩
  exact hK _ _ (hF.frame _ _ (by decide)) hFin
end
section
variable {Q:Exit->Act->World->Prop} {K:Act->World->Prop} {c:DC} {d:DnS} {X:RV} {a:Act} {w:World}
theorem dnR15 (hc:c.Ok){m:Nat}(hm0:m<=899000000)(hb:DB d m)(hF:c.Fr a)(hS:c.N w d X)(hK:∀ a' w',c.Fr a'->c.N w' ⟨d.n,d.k+1⟩ X/\a'.eval (.tmp 79)=.bool (decide (Z5 c.l d.k 3=0))->K a' w'):(Z1 0 (Z1 12 (Z3 Tryz.f51))).wp Tryz.prog (Exit.then K Q) a w:=by
 obtain ⟨t,rfl⟩:=hF.opened;have hsz:=hc.sz;have hel:=hc.el;have hid:=hc.id;have hnw:=hb.nw;have hkb:=hb.k;have hlg:=hb.lg;clear hF;have HS:Hid (c.N w d X):=hS;clear hS;obtain ⟨p,hp⟩:∃ p,p=Z5 c.l d.k 3:=⟨_,rfl⟩;have Hp:Hid (p=Z5 c.l d.k 3):=hp;rw [<-hp] at hK;have bp:p<3:=by rw [hp];exact Zf _ _ _ (by omega)
 clear hp
 conv=>arg 2;whnf
 go_wp2_with (go_at_call 53;go_loud (refine (HS.out.pick1 hc 3 (by omega) (by omega) (by omega)).mono ?_;rw [<-Hp.out];rintro r w9 ⟨rfl,hd⟩;have HS9:Hid _:=hd;clear hd))
 exact hK _ _ ⟨rfl,rfl,rfl,rfl,rfl,rfl,rfl,rfl,rfl⟩ ⟨HS9.out,by simp [Act.eval,beq0]⟩
theorem dnI12 (hc:c.Ok){m:Nat}(hm0:m<=898999000)(hb:DB d m)(hF:c.Fr a)(hS:c.N w d X)(hK:∀ a' w',c.Fr a'->c.N w' (if Z5 c.l d.k 3=0 then ⟨{ d.n with dl:=d.n.nw+(Z5 c.l (d.k+1) 2:Nat) },d.k+1+1⟩ else ⟨d.n,d.k+1⟩) X->K a' w'):(Z1 12 (Z3 Tryz.f51)).wp Tryz.prog (Exit.then K Q) a w:=by
 rw [show Z1 12 (Z3 Tryz.f51)=.seq (Z1 0 (Z1 12 (Z3 Tryz.f51))) (.cond (.tmp 79) (Zj (Z2 1 (Z1 12 (Z3 Tryz.f51)))) .skip) from rfl];refine wp_seq_k ?_;intro K2 hK2;refine dnR15 hc (by omega) hb hF hS fun a' w' h1 h2=>hK2 _ _ ?_
 refine wp_cond h2.2 ?_;by_cases h:Z5 c.l d.k 3=0
 ·simp only [h,decide_true,if_true] at hK ⊢
  exact dnR16 (d:=⟨d.n,d.k+1⟩) hc (m:=m+1) (by omega) (hb.step 1 (Nat.le_refl _) rfl rfl rfl) h1 h2.1 hK
 ·simp only [h,decide_false,if_false,Bool.false_eq_true] at hK ⊢
  exact wp_skip (hK _ _ h1 h2.1)
theorem dnR18 (hc:c.Ok){m:Nat}(hm0:m<=899000000)(hb:DB d m)(hF:c.Fr a)(hS:c.N w d X)(hK:∀ a' w',c.Fr a'->c.N w' (Z0n c.l d) X->K a' w'):(Z1 14 (Z3 Tryz.f51)).wp Tryz.prog (Exit.then K Q) a w:=by
 obtain ⟨t,rfl⟩:=hF.opened;have hsz:=hc.sz;have hel:=hc.el;have hid:=hc.id;have hnw:=hb.nw;have hkb:=hb.k;have hlg:=hb.lg;clear hF;have HS:Hid (c.N w d X):=hS;clear hS;rw [show Z0n c.l d=⟨{ d.n with cm:=(Z5 c.l d.k (d.n.log.length+1):Nat) },d.k+Zm (d.n.log.length+1)⟩ from rfl] at hK;obtain ⟨p,hp⟩:∃ p,p=Z5 c.l d.k (d.n.log.length+1):=⟨_,rfl⟩;have Hp:Hid (p=Z5 c.l d.k (d.n.log.length+1)):=hp;rw [<-hp] at hK;have bp:p<(d.n.log.length+1):=by rw [hp];exact Zf _ _ _ (by omega)
 clear hp;obtain ⟨ra,rc,hvl⟩:=HS.out.vl;have c12:w.cell? ⟨c.b9,12,none⟩=some (.slice ra d.n.log.length rc):=by rw [<-hvl];exact HS.out.blk.cell 12
 clear hvl;obtain ⟨N,hN⟩:∃ N,N=d.n.log.length:=⟨_,rfl⟩;rw [<-hN] at c12 Hp bp hlg hK;have HN:Hid (N=d.n.log.length):=hN;clear hN
 conv=>arg 2;whnf
 go_wp2_with (go_at_call 53;go_loud (refine (HS.out.pick hc (N+1) (by omega) (by omega) (by omega)).mono ?_;rw [<-Hp.out];rintro r w9 ⟨rfl,hd⟩;have HS9:Hid _:=hd;have c8:w9.cell? ⟨c.b9,8,none⟩=some (.int .i64 d.n.cm):=(DC.N.blk (d:=⟨d.n,d.k+Zm (N+1)⟩) hd).cell 8;have f8:w9.frozen? ⟨c.b9,8,none⟩=false:=(DC.N.blk (d:=⟨d.n,d.k+Zm (N+1)⟩) hd).free 8;clear hd))
 exact hK _ _ ⟨rfl,rfl,rfl,rfl,rfl,rfl,rfl,rfl,rfl⟩ (DC.N.set (d:=⟨d.n,d.k+Zm (N+1)⟩) HS9.out 8 (by omega) _ rfl rfl rfl rfl rfl rfl rfl)
theorem dnR19 (hc:c.Ok){m:Nat}(hm0:m<=899000000)(hb:DB d m)(hF:c.Fr a)(hS:c.N w d X)(hK:∀ a' w',c.Fr a'->c.N w' ⟨d.n,d.k+1⟩ X/\a'.eval (.tmp 10)=.int .i64 (Z5 c.l d.k 8:Nat)->K a' w'):(Z1 15 (Z3 Tryz.f51)).wp Tryz.prog (Exit.then K Q) a w:=by
 obtain ⟨t,rfl⟩:=hF.opened;have hsz:=hc.sz;have hel:=hc.el;have hid:=hc.id;have hnw:=hb.nw;have hkb:=hb.k;have hlg:=hb.lg;clear hF;have HS:Hid (c.N w d X):=hS;clear hS;obtain ⟨p,hp⟩:∃ p,p=Z5 c.l d.k 8:=⟨_,rfl⟩;have Hp:Hid (p=Z5 c.l d.k 8):=hp;rw [<-hp] at hK;have bp:p<8:=by rw [hp];exact Zf _ _ _ (by omega)
 clear hp
 conv=>arg 2;whnf
 go_wp2_with (go_at_call 53;go_loud (refine (HS.out.pick1 hc 8 (by omega) (by omega) (by omega)).mono ?_;rw [<-Hp.out];rintro r w9 ⟨rfl,hd⟩;have HS9:Hid _:=hd;clear hd))
 exact hK _ _ ⟨rfl,rfl,rfl,rfl,rfl,rfl,rfl,rfl,rfl⟩ ⟨HS9.out,rfl⟩
theorem dnI16a (hc:c.Ok){m:Nat}(hm0:m<=899000000)(hb:DB d m)(q0:Z5 c.l d.k 8=0)(h10:a.eval (.tmp 10)=.int .i64 (Z5 c.l d.k 8:Nat))(hF:c.Fr a)(hS:c.N w ⟨d.n,d.k+1⟩ X)(hK:∀ a' w',c.Fr a'->c.N w' (Z03 c.l c.h c.T d) X->K a' w'):(Z1 16 (Z3 Tryz.f51)).wp Tryz.prog (Exit.then K Q) a w:=by
 obtain ⟨t,rfl⟩:=hF.opened;have hsz:=hc.sz;have hel:=hc.el;have hid:=hc.id;have hnw:=hb.nw;have hkb:=hb.k;have hlg:=hb.lg;clear hF;have HS:Hid (c.N w ⟨d.n,d.k+1⟩ X):=hS;clear hS;have ht:t 10=.int .i64 (Z5 c.l d.k 8:Nat):=h10;rw [ht];clear ht h10;rw [show Z03 c.l c.h c.T d=⟨{ d.n with ld:=if 1+(((c.ID:Int)+(Z5 c.l (d.k+1) (c.SZ-1):Nat))%(c.SZ:Int))=c.ID then 0 else 1+(((c.ID:Int)+(Z5 c.l (d.k+1) (c.SZ-1):Nat))%(c.SZ:Int)) },d.k+1+1⟩ by unfold Z03;rw [if_pos q0];rfl] at hK;rw [q0];obtain ⟨p,hp⟩:∃ p,p=Z5 c.l (d.k+1) (c.SZ-1):=⟨_,rfl⟩;have Hp:Hid (p=Z5 c.l (d.k+1) (c.SZ-1)):=hp;rw [<-hp] at hK;have bp:p<(c.SZ-1):=by rw [hp];exact Zf _ _ _ (by omega)
 clear hp;obtain ⟨M,hM⟩:∃ M,M=c.SZ-1:=⟨_,rfl⟩;rw [<-hM] at Hp bp;have hy1:=Int.emod_nonneg ((c.ID:Int)+(p:Int)) (b:=(c.SZ:Int)) (by omega);have hy2:=Int.emod_lt_of_pos ((c.ID:Int)+(p:Int)) (b:=(c.SZ:Int)) (by omega)
 conv=>arg 2;whnf
 go_wp2_with (go_at_call 53;rw [show ((c.SZ:Int)-1)=(M:Int) by omega];go_loud (refine (HS.out.pick1 hc M (by show d.k+1<=_;omega) (by omega) (by omega)).mono ?_;rw [<-Hp.out];rintro r w9 ⟨rfl,hd⟩;have HS9:Hid (c.N w9 ⟨d.n,d.k+1+1⟩ X):=hd;have c7:w9.cell? ⟨c.b9,7,none⟩=some (.int .i64 d.n.ld):=HS9.out.blk.cell 7;have f7:w9.frozen? ⟨c.b9,7,none⟩=false:=HS9.out.blk.free 7;clear hd))
 ·rename_i hz
  have heq:1+((c.ID:Int)+(p:Int))%(c.SZ:Int)=c.ID:=by simpa using hz
  rw [if_pos heq] at hK;exact hK _ _ ⟨rfl,rfl,rfl,rfl,rfl,rfl,rfl,rfl,rfl⟩ (DC.N.set (HS9.out.set (n':={ d.n with ld:=1+((c.ID:Int)+(p:Int))%(c.SZ:Int) }) 7 (by omega) _ rfl rfl rfl rfl rfl rfl rfl) 7 (by omega) _ rfl rfl rfl rfl rfl rfl rfl)
 ·rename_i hz
  have hne:¬ 1+((c.ID:Int)+(p:Int))%(c.SZ:Int)=c.ID:=by simpa using hz
  rw [if_neg hne] at hK;exact hK _ _ ⟨rfl,rfl,rfl,rfl,rfl,rfl,rfl,rfl,rfl⟩ (HS9.out.set 7 (by omega) _ rfl rfl rfl rfl rfl rfl rfl)
theorem dnI16b (hc:c.Ok){m:Nat}(hm0:m<=899000000)(hb:DB d m)(q0:¬ Z5 c.l d.k 8=0)(h10:a.eval (.tmp 10)=.int .i64 (Z5 c.l d.k 8:Nat))(hF:c.Fr a)(hS:c.N w ⟨d.n,d.k+1⟩ X)(hK:∀ a' w',c.Fr a'->c.N w' (Z03 c.l c.h c.T d) X->K a' w'):(Z1 16 (Z3 Tryz.f51)).wp Tryz.prog (Exit.then K Q) a w:=by
 obtain ⟨t,rfl⟩:=hF.opened;have hsz:=hc.sz;have hel:=hc.el;have hid:=hc.id;have hnw:=hb.nw;have hkb:=hb.k;have hlg:=hb.lg;clear hF;have HS:Hid (c.N w ⟨d.n,d.k+1⟩ X):=hS;clear hS;have ht:t 10=.int .i64 (Z5 c.l d.k 8:Nat):=h10;rw [ht];clear ht h10;have hr:Z03 c.l c.h c.T d=if Z5 c.l d.k 8<3 then ⟨{ d.n with ro:=1 },d.k+1⟩ else if Z5 c.l d.k 8<5/\0<c.T then ⟨{ d.n with ro:=2,vo:=c.ID },d.k+1⟩ else if 4<Z5 c.l d.k 8/\0<c.T then ⟨{ d.n with ro:=3,vo:=c.ID,ld:=c.ID },d.k+1⟩ else ⟨d.n,d.k+1⟩:=by unfold Z03;rw [if_neg q0];rfl
 rw [hr] at hK;clear hr;obtain ⟨q,hq⟩:∃ q,q=Z5 c.l d.k 8:=⟨_,rfl⟩;rw [<-hq] at hK q0 ⊢;have bq:q<8:=by rw [hq];exact Zf _ _ _ (by omega)
 clear hq;obtain ⟨T,hT⟩:∃ T,T=c.T:=⟨_,rfl⟩;have c50:w.cell? ⟨c.b5,0,none⟩=some (.int .i64 T):=by rw [hT];exact HS.out.stb.cell 0
 rw [<-hT] at hK;clear hT;have c5:w.cell? ⟨c.b9,5,none⟩=some (.int .i64 d.n.vo):=HS.out.blk.cell 5;have f5:w.frozen? ⟨c.b9,5,none⟩=false:=HS.out.blk.free 5;have c6:w.cell? ⟨c.b9,6,none⟩=some (.int .i64 d.n.ro):=HS.out.blk.cell 6;have f6:w.frozen? ⟨c.b9,6,none⟩=false:=HS.out.blk.free 6;have c7:w.cell? ⟨c.b9,7,none⟩=some (.int .i64 d.n.ld):=HS.out.blk.cell 7;have f7:w.frozen? ⟨c.b9,7,none⟩=false:=HS.out.blk.free 7
 conv=>arg 2;whnf
 by_cases h3:q<3
 ·rw [if_pos h3] at hK
  go_wp2_with fail
  exact hK _ _ ⟨rfl,rfl,rfl,rfl,rfl,rfl,rfl,rfl,rfl⟩ (HS.out.set 6 (by omega) _ rfl rfl rfl rfl rfl rfl rfl)
 ·rw [if_neg h3] at hK
  by_cases hTp:0<T
  ·by_cases h5:q<5
   ·rw [if_pos ⟨h5,hTp⟩] at hK
    go_wp2_with fail
    exact hK _ _ ⟨rfl,rfl,rfl,rfl,rfl,rfl,rfl,rfl,rfl⟩ (DC.N.set (HS.out.set (n':={ d.n with ro:=2 }) 6 (by omega) _ rfl rfl rfl rfl rfl rfl rfl) 5 (by omega) _ rfl rfl rfl rfl rfl rfl rfl)
   ·rw [if_neg (fun h=>h5 h.1),if_pos ⟨by omega,hTp⟩] at hK
    go_wp2_with fail
    exact hK _ _ ⟨rfl,rfl,rfl,rfl,rfl,rfl,rfl,rfl,rfl⟩ (DC.N.set (DC.N.set (HS.out.set (n':={ d.n with ro:=3 }) 6 (by omega) _ rfl rfl rfl rfl rfl rfl rfl) (n':={ d.n with ro:=3,vo:=c.ID }) 5 (by omega) _ rfl rfl rfl rfl rfl rfl rfl) 7 (by omega) _ rfl rfl rfl rfl rfl rfl rfl)
  ·rw [if_neg (fun h=>hTp h.2),if_neg (fun h=>hTp h.2)] at hK
   by_cases h5:q<5
   ·go_wp2_with fail
    exact hK _ _ ⟨rfl,rfl,rfl,rfl,rfl,rfl,rfl,rfl,rfl⟩ HS.out
   ·go_wp2_with fail
    exact hK _ _ ⟨rfl,rfl,rfl,rfl,rfl,rfl,rfl,rfl,rfl⟩ HS.out
theorem dnI16 (hc:c.Ok){m:Nat}(hm0:m<=899000000)(hb:DB d m)(h10:a.eval (.tmp 10)=.int .i64 (Z5 c.l d.k 8:Nat))(hF:c.Fr a)(hS:c.N w ⟨d.n,d.k+1⟩ X)(hK:∀ a' w',c.Fr a'->c.N w' (Z03 c.l c.h c.T d) X->K a' w'):(Z1 16 (Z3 Tryz.f51)).wp Tryz.prog (Exit.then K Q) a w:=by
 by_cases q0:Z5 c.l d.k 8=0
 ·exact dnI16a hc hm0 hb q0 h10 hF hS hK
 ·exact dnI16b hc hm0 hb q0 h10 hF hS hK
end
section
variable {w0 w w2 w3:World} {g:Nat} {v:Value} {l:List Int} {k b4 b5 b9:Nat} {S:Array Value} {n:Nd} {x:RV} {u:Value} {q:List Int}
theorem NS.grNew (h:NS w0 w g v l k b4 b5 b9 S n x)(h2:Below w.heap.size w w2)(ho:Zs inC 1 3 w3 w0.heap.size u q)(hg:Xe w2 x.vg w3 u) :
  Blk w3 b9 (ndC n x) 36/\NS w0 (w3.setCell ⟨b9,13,none⟩ u) g v l k b4 b5 b9 S { n with gr:=q } { x with vg:=u }:=by
 have hs2:=h2.size;have hno:∀ p,x.vg.ownBlock=some p->w0.heap.size<=p/\p<w.heap.size/\p≠b9:=fun p e=>⟨(h.gr.lts p e).1,(h.gr.lts p e).2,Yr h.gr h.nodeB (by decide) p e⟩
 have hk3:∀ p,p<w.heap.size->x.vg.ownBlock≠some p->w3.heap[p]? = w.heap[p]?:=fun p hp hne=>(hg.g.block p (by omega) (fun e=>hne e.symm)).trans (h2.block p hp)
 have hset:∀ p,p≠b9->(w3.setCell ⟨b9,13,none⟩ u).heap[p]? = w3.heap[p]?:=fun p hp=>Below.heap_setCell _ _ _ _ hp
 have hmv:∀ {α:Type} {cs:α->List Value} {m':Nat} {T:TypeId} {y:Value} {q:List α},T≠36->Zs cs m' T w w0.heap.size y q->Xq x.vg y->Zs cs m' T (w3.setCell ⟨b9,13,none⟩ u) w0.heap.size y q:=fun h1 ho' ha=>ho'.block fun p e=>(hset p (Yr ho' h.nodeB h1 p e)).trans (hk3 p (ho'.lts p e).2 fun e'=>ha p e' e)
 have hnb:∀ p,u.ownBlock=some p->p≠b9:=fun p e=>by
  rcases hg.at' with e' | ⟨r,e',hp⟩
  ·rw [e] at e';exact (hno p e'.symm).2.2
  ·rw [e] at e';cases e';have:=h.nodeB.lt;omega
 have hA:∀ {y:Value} {q':List Int},Zs inC 1 3 w w0.heap.size y q'->Xq x.vg y->Xq u y:=fun hu ha p e1 e2=>by
  rcases hg.at' with e' | ⟨r,e',hp⟩
  ·rw [e1] at e';exact ha p e'.symm e2
  ·rw [e1] at e';cases e';have:=(hu.lts _ e2).2;omega
 have hD:Dr w0 w3 g v l k [(b4,Jr,36),(b5,S,104),(b9,ndC n x,36)]:=(h.dr.below h2).grew hg (fun p e=>(hno p e).1) fun y hy e=>by
  simp only [List.mem_cons,List.not_mem_nil,or_false] at hy;rcases hy with rfl | rfl | rfl
  ·exact Yr h.gr h.resB (by decide) _ e rfl
  ·exact Yr h.gr h.stB5 (by decide) _ e rfl
  ·exact (hno _ e).2.2 rfl
 have hu8:isU8 u=false:=by obtain ⟨a,c,rfl⟩:=ho.shape;rfl
 refine ⟨hD.blk 2 rfl,hD.set 2 rfl 13 (by show 13<18;omega) u hu8,Zs.e (hmv (by decide) h.log.g (Z1j h.gr h.log.g (by decide))) h.log.1,ho.block fun p e=>hset p (hnb p e),hmv (by decide) h.nx (Zt h.ap 0 1 (by decide) rfl rfl),hmv (by decide) h.mt (Zt h.ap 0 2 (by decide) rfl rfl),hmv (by decide) h.se (Zt h.ap 0 3 (by decide) rfl rfl),hmv (by decide) h.st (Zt h.ap 0 4 (by decide) rfl rfl),pw5 ((hA h.nx (Zt h.ap 0 1 (by decide) rfl rfl))) ((hA h.mt (Zt h.ap 0 2 (by decide) rfl rfl))) ((hA h.se (Zt h.ap 0 3 (by decide) rfl rfl))) ((hA h.st (Zt h.ap 0 4 (by decide) rfl rfl))) ((Zt h.ap 1 2 (by decide) rfl rfl)) ((Zt h.ap 1 3 (by decide) rfl rfl)) ((Zt h.ap 1 4 (by decide) rfl rfl)) ((Zt h.ap 2 3 (by decide) rfl rfl)) ((Zt h.ap 2 4 (by decide) rfl rfl)) ((Zt h.ap 3 4 (by decide) rfl rfl))⟩
theorem NS.nxNew (h:NS w0 w g v l k b4 b5 b9 S n x)(h2:Below w.heap.size w w2)(ho:Zs inC 1 3 w3 w0.heap.size u q)(hg:Xe w2 x.vn w3 u) :
  Blk w3 b9 (ndC n x) 36/\NS w0 (w3.setCell ⟨b9,14,none⟩ u) g v l k b4 b5 b9 S { n with nx:=q } { x with vn:=u }:=by
 have hs2:=h2.size;have hno:∀ p,x.vn.ownBlock=some p->w0.heap.size<=p/\p<w.heap.size/\p≠b9:=fun p e=>⟨(h.nx.lts p e).1,(h.nx.lts p e).2,Yr h.nx h.nodeB (by decide) p e⟩
 have hk3:∀ p,p<w.heap.size->x.vn.ownBlock≠some p->w3.heap[p]? = w.heap[p]?:=fun p hp hne=>(hg.g.block p (by omega) (fun e=>hne e.symm)).trans (h2.block p hp)
 have hset:∀ p,p≠b9->(w3.setCell ⟨b9,14,none⟩ u).heap[p]? = w3.heap[p]?:=fun p hp=>Below.heap_setCell _ _ _ _ hp
 have hmv:∀ {α:Type} {cs:α->List Value} {m':Nat} {T:TypeId} {y:Value} {q:List α},T≠36->Zs cs m' T w w0.heap.size y q->Xq x.vn y->Zs cs m' T (w3.setCell ⟨b9,14,none⟩ u) w0.heap.size y q:=fun h1 ho' ha=>ho'.block fun p e=>(hset p (Yr ho' h.nodeB h1 p e)).trans (hk3 p (ho'.lts p e).2 fun e'=>ha p e' e)
 have hnb:∀ p,u.ownBlock=some p->p≠b9:=fun p e=>by
  rcases hg.at' with e' | ⟨r,e',hp⟩
  ·rw [e] at e';exact (hno p e'.symm).2.2
  ·rw [e] at e';cases e';have:=h.nodeB.lt;omega
 have hA:∀ {y:Value} {q':List Int},Zs inC 1 3 w w0.heap.size y q'->Xq x.vn y->Xq u y:=fun hu ha p e1 e2=>by
  rcases hg.at' with e' | ⟨r,e',hp⟩
  ·rw [e1] at e';exact ha p e'.symm e2
  ·rw [e1] at e';cases e';have:=(hu.lts _ e2).2;omega
 have hD:Dr w0 w3 g v l k [(b4,Jr,36),(b5,S,104),(b9,ndC n x,36)]:=(h.dr.below h2).grew hg (fun p e=>(hno p e).1) fun y hy e=>by
  simp only [List.mem_cons,List.not_mem_nil,or_false] at hy;rcases hy with rfl | rfl | rfl
  ·exact Yr h.nx h.resB (by decide) _ e rfl
  ·exact Yr h.nx h.stB5 (by decide) _ e rfl
  ·exact (hno _ e).2.2 rfl
 have hu8:isU8 u=false:=by obtain ⟨a,c,rfl⟩:=ho.shape;rfl
 refine ⟨hD.blk 2 rfl,hD.set 2 rfl 14 (by show 14<18;omega) u hu8,Zs.e (hmv (by decide) h.log.g (Z1j h.nx h.log.g (by decide))) h.log.1,hmv (by decide) h.gr (Zt h.ap 0 1 (by decide) rfl rfl).symm,ho.block fun p e=>hset p (hnb p e),hmv (by decide) h.mt (Zt h.ap 1 2 (by decide) rfl rfl),hmv (by decide) h.se (Zt h.ap 1 3 (by decide) rfl rfl),hmv (by decide) h.st (Zt h.ap 1 4 (by decide) rfl rfl),pw5 ((hA h.gr (Zt h.ap 0 1 (by decide) rfl rfl).symm).symm) ((Zt h.ap 0 2 (by decide) rfl rfl)) ((Zt h.ap 0 3 (by decide) rfl rfl)) ((Zt h.ap 0 4 (by decide) rfl rfl)) ((hA h.mt (Zt h.ap 1 2 (by decide) rfl rfl))) ((hA h.se (Zt h.ap 1 3 (by decide) rfl rfl))) ((hA h.st (Zt h.ap 1 4 (by decide) rfl rfl))) ((Zt h.ap 2 3 (by decide) rfl rfl)) ((Zt h.ap 2 4 (by decide) rfl rfl)) ((Zt h.ap 3 4 (by decide) rfl rfl))⟩
theorem NS.mtNew (h:NS w0 w g v l k b4 b5 b9 S n x)(h2:Below w.heap.size w w2)(ho:Zs inC 1 3 w3 w0.heap.size u q)(hg:Xe w2 x.vm w3 u) :
  Blk w3 b9 (ndC n x) 36/\NS w0 (w3.setCell ⟨b9,15,none⟩ u) g v l k b4 b5 b9 S { n with mt:=q } { x with vm:=u }:=by
 have hs2:=h2.size;have hno:∀ p,x.vm.ownBlock=some p->w0.heap.size<=p/\p<w.heap.size/\p≠b9:=fun p e=>⟨(h.mt.lts p e).1,(h.mt.lts p e).2,Yr h.mt h.nodeB (by decide) p e⟩
 have hk3:∀ p,p<w.heap.size->x.vm.ownBlock≠some p->w3.heap[p]? = w.heap[p]?:=fun p hp hne=>(hg.g.block p (by omega) (fun e=>hne e.symm)).trans (h2.block p hp)
 have hset:∀ p,p≠b9->(w3.setCell ⟨b9,15,none⟩ u).heap[p]? = w3.heap[p]?:=fun p hp=>Below.heap_setCell _ _ _ _ hp
 have hmv:∀ {α:Type} {cs:α->List Value} {m':Nat} {T:TypeId} {y:Value} {q:List α},T≠36->Zs cs m' T w w0.heap.size y q->Xq x.vm y->Zs cs m' T (w3.setCell ⟨b9,15,none⟩ u) w0.heap.size y q:=fun h1 ho' ha=>ho'.block fun p e=>(hset p (Yr ho' h.nodeB h1 p e)).trans (hk3 p (ho'.lts p e).2 fun e'=>ha p e' e)
 have hnb:∀ p,u.ownBlock=some p->p≠b9:=fun p e=>by
  rcases hg.at' with e' | ⟨r,e',hp⟩
  ·rw [e] at e';exact (hno p e'.symm).2.2
  ·rw [e] at e';cases e';have:=h.nodeB.lt;omega
 have hA:∀ {y:Value} {q':List Int},Zs inC 1 3 w w0.heap.size y q'->Xq x.vm y->Xq u y:=fun hu ha p e1 e2=>by
  rcases hg.at' with e' | ⟨r,e',hp⟩
  ·rw [e1] at e';exact ha p e'.symm e2
  ·rw [e1] at e';cases e';have:=(hu.lts _ e2).2;omega
 have hD:Dr w0 w3 g v l k [(b4,Jr,36),(b5,S,104),(b9,ndC n x,36)]:=(h.dr.below h2).grew hg (fun p e=>(hno p e).1) fun y hy e=>by
  simp only [List.mem_cons,List.not_mem_nil,or_false] at hy;rcases hy with rfl | rfl | rfl
  ·exact Yr h.mt h.resB (by decide) _ e rfl
  ·exact Yr h.mt h.stB5 (by decide) _ e rfl
  ·exact (hno _ e).2.2 rfl
 have hu8:isU8 u=false:=by obtain ⟨a,c,rfl⟩:=ho.shape;rfl
 refine ⟨hD.blk 2 rfl,hD.set 2 rfl 15 (by show 15<18;omega) u hu8,Zs.e (hmv (by decide) h.log.g (Z1j h.mt h.log.g (by decide))) h.log.1,hmv (by decide) h.gr (Zt h.ap 0 2 (by decide) rfl rfl).symm,hmv (by decide) h.nx (Zt h.ap 1 2 (by decide) rfl rfl).symm,ho.block fun p e=>hset p (hnb p e),hmv (by decide) h.se (Zt h.ap 2 3 (by decide) rfl rfl),hmv (by decide) h.st (Zt h.ap 2 4 (by decide) rfl rfl),pw5 ((Zt h.ap 0 1 (by decide) rfl rfl)) ((hA h.gr (Zt h.ap 0 2 (by decide) rfl rfl).symm).symm) ((Zt h.ap 0 3 (by decide) rfl rfl)) ((Zt h.ap 0 4 (by decide) rfl rfl)) ((hA h.nx (Zt h.ap 1 2 (by decide) rfl rfl).symm).symm) ((Zt h.ap 1 3 (by decide) rfl rfl)) ((Zt h.ap 1 4 (by decide) rfl rfl)) ((hA h.se (Zt h.ap 2 3 (by decide) rfl rfl))) ((hA h.st (Zt h.ap 2 4 (by decide) rfl rfl))) ((Zt h.ap 3 4 (by decide) rfl rfl))⟩
theorem NS.seNew (h:NS w0 w g v l k b4 b5 b9 S n x)(h2:Below w.heap.size w w2)(ho:Zs inC 1 3 w3 w0.heap.size u q)(hg:Xe w2 x.vs w3 u) :
  Blk w3 b9 (ndC n x) 36/\NS w0 (w3.setCell ⟨b9,16,none⟩ u) g v l k b4 b5 b9 S { n with se:=q } { x with vs:=u }:=by
 have hs2:=h2.size;have hno:∀ p,x.vs.ownBlock=some p->w0.heap.size<=p/\p<w.heap.size/\p≠b9:=fun p e=>⟨(h.se.lts p e).1,(h.se.lts p e).2,Yr h.se h.nodeB (by decide) p e⟩
 have hk3:∀ p,p<w.heap.size->x.vs.ownBlock≠some p->w3.heap[p]? = w.heap[p]?:=fun p hp hne=>(hg.g.block p (by omega) (fun e=>hne e.symm)).trans (h2.block p hp)
 have hset:∀ p,p≠b9->(w3.setCell ⟨b9,16,none⟩ u).heap[p]? = w3.heap[p]?:=fun p hp=>Below.heap_setCell _ _ _ _ hp
 have hmv:∀ {α:Type} {cs:α->List Value} {m':Nat} {T:TypeId} {y:Value} {q:List α},T≠36->Zs cs m' T w w0.heap.size y q->Xq x.vs y->Zs cs m' T (w3.setCell ⟨b9,16,none⟩ u) w0.heap.size y q:=fun h1 ho' ha=>ho'.block fun p e=>(hset p (Yr ho' h.nodeB h1 p e)).trans (hk3 p (ho'.lts p e).2 fun e'=>ha p e' e)
 have hnb:∀ p,u.ownBlock=some p->p≠b9:=fun p e=>by
  rcases hg.at' with e' | ⟨r,e',hp⟩
  ·rw [e] at e';exact (hno p e'.symm).2.2
  ·rw [e] at e';cases e';have:=h.nodeB.lt;omega
 have hA:∀ {y:Value} {q':List Int},Zs inC 1 3 w w0.heap.size y q'->Xq x.vs y->Xq u y:=fun hu ha p e1 e2=>by
  rcases hg.at' with e' | ⟨r,e',hp⟩
  ·rw [e1] at e';exact ha p e'.symm e2
  ·rw [e1] at e';cases e';have:=(hu.lts _ e2).2;omega
 have hD:Dr w0 w3 g v l k [(b4,Jr,36),(b5,S,104),(b9,ndC n x,36)]:=(h.dr.below h2).grew hg (fun p e=>(hno p e).1) fun y hy e=>by
  simp only [List.mem_cons,List.not_mem_nil,or_false] at hy;rcases hy with rfl | rfl | rfl
  ·exact Yr h.se h.resB (by decide) _ e rfl
  ·exact Yr h.se h.stB5 (by decide) _ e rfl
  ·exact (hno _ e).2.2 rfl
 have hu8:isU8 u=false:=by obtain ⟨a,c,rfl⟩:=ho.shape;rfl
 refine ⟨hD.blk 2 rfl,hD.set 2 rfl 16 (by show 16<18;omega) u hu8,Zs.e (hmv (by decide) h.log.g (Z1j h.se h.log.g (by decide))) h.log.1,hmv (by decide) h.gr (Zt h.ap 0 3 (by decide) rfl rfl).symm,hmv (by decide) h.nx (Zt h.ap 1 3 (by decide) rfl rfl).symm,hmv (by decide) h.mt (Zt h.ap 2 3 (by decide) rfl rfl).symm,ho.block fun p e=>hset p (hnb p e),hmv (by decide) h.st (Zt h.ap 3 4 (by decide) rfl rfl),pw5 ((Zt h.ap 0 1 (by decide) rfl rfl)) ((Zt h.ap 0 2 (by decide) rfl rfl)) ((hA h.gr (Zt h.ap 0 3 (by decide) rfl rfl).symm).symm) ((Zt h.ap 0 4 (by decide) rfl rfl)) ((Zt h.ap 1 2 (by decide) rfl rfl)) ((hA h.nx (Zt h.ap 1 3 (by decide) rfl rfl).symm).symm) ((Zt h.ap 1 4 (by decide) rfl rfl)) ((hA h.mt (Zt h.ap 2 3 (by decide) rfl rfl).symm).symm) ((Zt h.ap 2 4 (by decide) rfl rfl)) ((hA h.st (Zt h.ap 3 4 (by decide) rfl rfl)))⟩
theorem NS.stNew (h:NS w0 w g v l k b4 b5 b9 S n x)(h2:Below w.heap.size w w2)(ho:Zs inC 1 3 w3 w0.heap.size u q)(hg:Xe w2 x.vt w3 u) :
  Blk w3 b9 (ndC n x) 36/\NS w0 (w3.setCell ⟨b9,17,none⟩ u) g v l k b4 b5 b9 S { n with st:=q } { x with vt:=u }:=by
 have hs2:=h2.size;have hno:∀ p,x.vt.ownBlock=some p->w0.heap.size<=p/\p<w.heap.size/\p≠b9:=fun p e=>⟨(h.st.lts p e).1,(h.st.lts p e).2,Yr h.st h.nodeB (by decide) p e⟩
 have hk3:∀ p,p<w.heap.size->x.vt.ownBlock≠some p->w3.heap[p]? = w.heap[p]?:=fun p hp hne=>(hg.g.block p (by omega) (fun e=>hne e.symm)).trans (h2.block p hp)
 have hset:∀ p,p≠b9->(w3.setCell ⟨b9,17,none⟩ u).heap[p]? = w3.heap[p]?:=fun p hp=>Below.heap_setCell _ _ _ _ hp
 have hmv:∀ {α:Type} {cs:α->List Value} {m':Nat} {T:TypeId} {y:Value} {q:List α},T≠36->Zs cs m' T w w0.heap.size y q->Xq x.vt y->Zs cs m' T (w3.setCell ⟨b9,17,none⟩ u) w0.heap.size y q:=fun h1 ho' ha=>ho'.block fun p e=>(hset p (Yr ho' h.nodeB h1 p e)).trans (hk3 p (ho'.lts p e).2 fun e'=>ha p e' e)
 have hnb:∀ p,u.ownBlock=some p->p≠b9:=fun p e=>by
  rcases hg.at' with e' | ⟨r,e',hp⟩
  ·rw [e] at e';exact (hno p e'.symm).2.2
  ·rw [e] at e';cases e';have:=h.nodeB.lt;omega
 have hA:∀ {y:Value} {q':List Int},Zs inC 1 3 w w0.heap.size y q'->Xq x.vt y->Xq u y:=fun hu ha p e1 e2=>by
  rcases hg.at' with e' | ⟨r,e',hp⟩
  ·rw [e1] at e';exact ha p e'.symm e2
  ·rw [e1] at e';cases e';have:=(hu.lts _ e2).2;omega
 have hD:Dr w0 w3 g v l k [(b4,Jr,36),(b5,S,104),(b9,ndC n x,36)]:=(h.dr.below h2).grew hg (fun p e=>(hno p e).1) fun y hy e=>by
  simp only [List.mem_cons,List.not_mem_nil,or_false] at hy;rcases hy with rfl | rfl | rfl
  ·exact Yr h.st h.resB (by decide) _ e rfl
  ·exact Yr h.st h.stB5 (by decide) _ e rfl
  ·exact (hno _ e).2.2 rfl
 have hu8:isU8 u=false:=by obtain ⟨a,c,rfl⟩:=ho.shape;rfl
 refine ⟨hD.blk 2 rfl,hD.set 2 rfl 17 (by show 17<18;omega) u hu8,Zs.e (hmv (by decide) h.log.g (Z1j h.st h.log.g (by decide))) h.log.1,hmv (by decide) h.gr (Zt h.ap 0 4 (by decide) rfl rfl).symm,hmv (by decide) h.nx (Zt h.ap 1 4 (by decide) rfl rfl).symm,hmv (by decide) h.mt (Zt h.ap 2 4 (by decide) rfl rfl).symm,hmv (by decide) h.se (Zt h.ap 3 4 (by decide) rfl rfl).symm,ho.block fun p e=>hset p (hnb p e),pw5 ((Zt h.ap 0 1 (by decide) rfl rfl)) ((Zt h.ap 0 2 (by decide) rfl rfl)) ((Zt h.ap 0 3 (by decide) rfl rfl)) ((hA h.gr (Zt h.ap 0 4 (by decide) rfl rfl).symm).symm) ((Zt h.ap 1 2 (by decide) rfl rfl)) ((Zt h.ap 1 3 (by decide) rfl rfl)) ((hA h.nx (Zt h.ap 1 4 (by decide) rfl rfl).symm).symm) ((Zt h.ap 2 3 (by decide) rfl rfl)) ((hA h.mt (Zt h.ap 2 4 (by decide) rfl rfl).symm).symm) ((hA h.se (Zt h.ap 3 4 (by decide) rfl rfl).symm).symm)⟩
theorem NS.logT (h:NS w0 w g v l k b4 b5 b9 S n x){p cp:Nat}(hv:x.vl=.slice (some ⟨p,0,none⟩) n.log.length cp)(i:Nat)(hi:i<n.log.length)(T:Int):NS w0 (w.setCell ⟨p,i*7,none⟩ (.int .i64 T)) g v l k b4 b5 b9 S { n with log:=n.log.set i (Xm T n.log[i]) } x:=by
 have hlog:=h.log;rw [hv] at hlog;have hp:x.vl.ownBlock=some p:=by rw [hv];rfl
 have hst:=(hlog.2.stored (i*7) (.int .i64 T)).2;have hset:∀ q,q≠p->(w.setCell ⟨p,i*7,none⟩ (.int .i64 T)).heap[q]? = w.heap[q]?:=fun q hq=>Below.heap_setCell _ _ _ _ hq
 have hD:=h.dr.grew (u:=.slice (some ⟨p,0,none⟩) n.log.length cp) (u':=.slice (some ⟨p,0,none⟩) n.log.length cp) ⟨hst,.inl rfl⟩ (fun q' hq'=>(hlog.2.lt q' hq').1) (fun y hy=>by
  simp only [List.mem_cons,List.not_mem_nil,or_false] at hy;rcases hy with rfl | rfl | rfl
  ·exact fun e=>X4 hlog h.resB (by decide) _ e rfl
  ·exact fun e=>X4 hlog h.stB5 (by decide) _ e rfl
  ·exact fun e=>X4 hlog h.nodeB (by decide) _ e rfl)
 have hmv:∀ {y:Value} {q:List Int},Zs inC 1 3 w w0.heap.size y q->Zs inC 1 3 (w.setCell ⟨p,i*7,none⟩ (.int .i64 T)) w0.heap.size y q:=fun ho=>ho.block fun q e=>hset q fun e'=>Z1j ho h.log.g (by decide) q e (by rw [hp,e'])
 refine ⟨hD,?_,hmv h.gr,hmv h.nx,hmv h.mt,hmv h.se,hmv h.st,h.ap⟩;show Zv _ _ x.vl _;rw [hv];exact hlog.setT rfl i hi T
end
section
variable {c:DC} {w w2 w3:World} {d:DnS} {x:RV} {u:Value} {q:List Int}
theorem DC.N.grNew (h:c.N w d x)(h2:Below w.heap.size w w2)(ho:Zs inC 1 3 w3 c.w0.heap.size u q)(hg:Xe w2 x.vg w3 u):c.N (w3.setCell ⟨c.b9,13,none⟩ u) ⟨{ d.n with gr:=q },d.k⟩ { x with vg:=u }:=(NS.grNew h h2 ho hg).2
theorem DC.N.grBlk (h:c.N w d x)(h2:Below w.heap.size w w2)(ho:Zs inC 1 3 w3 c.w0.heap.size u q)(hg:Xe w2 x.vg w3 u):Blk w3 c.b9 (ndC d.n x) 36:=(NS.grNew h h2 ho hg).1
theorem DC.N.grOwn (h:c.N w d x):Zs inC 1 3 w c.w0.heap.size x.vg d.n.gr:=NS.gr h
theorem DC.N.nxNew (h:c.N w d x)(h2:Below w.heap.size w w2)(ho:Zs inC 1 3 w3 c.w0.heap.size u q)(hg:Xe w2 x.vn w3 u):c.N (w3.setCell ⟨c.b9,14,none⟩ u) ⟨{ d.n with nx:=q },d.k⟩ { x with vn:=u }:=(NS.nxNew h h2 ho hg).2
theorem DC.N.nxBlk (h:c.N w d x)(h2:Below w.heap.size w w2)(ho:Zs inC 1 3 w3 c.w0.heap.size u q)(hg:Xe w2 x.vn w3 u):Blk w3 c.b9 (ndC d.n x) 36:=(NS.nxNew h h2 ho hg).1
theorem DC.N.nxOwn (h:c.N w d x):Zs inC 1 3 w c.w0.heap.size x.vn d.n.nx:=NS.nx h
theorem DC.N.mtNew (h:c.N w d x)(h2:Below w.heap.size w w2)(ho:Zs inC 1 3 w3 c.w0.heap.size u q)(hg:Xe w2 x.vm w3 u):c.N (w3.setCell ⟨c.b9,15,none⟩ u) ⟨{ d.n with mt:=q },d.k⟩ { x with vm:=u }:=(NS.mtNew h h2 ho hg).2
theorem DC.N.mtBlk (h:c.N w d x)(h2:Below w.heap.size w w2)(ho:Zs inC 1 3 w3 c.w0.heap.size u q)(hg:Xe w2 x.vm w3 u):Blk w3 c.b9 (ndC d.n x) 36:=(NS.mtNew h h2 ho hg).1
theorem DC.N.mtOwn (h:c.N w d x):Zs inC 1 3 w c.w0.heap.size x.vm d.n.mt:=NS.mt h
theorem DC.N.seNew (h:c.N w d x)(h2:Below w.heap.size w w2)(ho:Zs inC 1 3 w3 c.w0.heap.size u q)(hg:Xe w2 x.vs w3 u):c.N (w3.setCell ⟨c.b9,16,none⟩ u) ⟨{ d.n with se:=q },d.k⟩ { x with vs:=u }:=(NS.seNew h h2 ho hg).2
theorem DC.N.seBlk (h:c.N w d x)(h2:Below w.heap.size w w2)(ho:Zs inC 1 3 w3 c.w0.heap.size u q)(hg:Xe w2 x.vs w3 u):Blk w3 c.b9 (ndC d.n x) 36:=(NS.seNew h h2 ho hg).1
theorem DC.N.seOwn (h:c.N w d x):Zs inC 1 3 w c.w0.heap.size x.vs d.n.se:=NS.se h
theorem DC.N.stNew (h:c.N w d x)(h2:Below w.heap.size w w2)(ho:Zs inC 1 3 w3 c.w0.heap.size u q)(hg:Xe w2 x.vt w3 u):c.N (w3.setCell ⟨c.b9,17,none⟩ u) ⟨{ d.n with st:=q },d.k⟩ { x with vt:=u }:=(NS.stNew h h2 ho hg).2
theorem DC.N.stBlk (h:c.N w d x)(h2:Below w.heap.size w w2)(ho:Zs inC 1 3 w3 c.w0.heap.size u q)(hg:Xe w2 x.vt w3 u):Blk w3 c.b9 (ndC d.n x) 36:=(NS.stNew h h2 ho hg).1
theorem DC.N.stOwn (h:c.N w d x):Zs inC 1 3 w c.w0.heap.size x.vt d.n.st:=NS.st h
theorem DC.N.logT (h:c.N w d x){p cp:Nat}(hv:x.vl=.slice (some ⟨p,0,none⟩) d.n.log.length cp)(i:Nat)(hi:i<d.n.log.length)(T:Int):c.N (w.setCell ⟨p,i*7,none⟩ (.int .i64 T)) ⟨{ d.n with log:=d.n.log.set i (Xm T d.n.log[i]) },d.k⟩ x:=NS.logT h hv i hi T
theorem DC.N.logOwn (h:c.N w d x):Zv w c.w0.heap.size x.vl d.n.log:=NS.log h
theorem DC.N.wsize (h:c.N w d x):c.w0.heap.size<=w.heap.size:=(NS.dr h).size
end
section
variable {Q:Exit->Act->World->Prop} {K:Act->World->Prop} {c:DC} {d:DnS} {X:RV} {a:Act} {w:World}
def dnGrS (l:List Int)(id:Nat)(r:DnG)(j:Nat):DnG:=
 if j+1=id then ⟨r.gr ++ [(j:Int)+1],r.ex,r.k⟩
 else if 0<r.ex then (if Z5 l r.k 2=0 then ⟨r.gr ++ [(j:Int)+1],r.ex-1,r.k+1⟩ else ⟨r.gr,r.ex,r.k+1⟩)
 else r
theorem dnGrK_succ (l:List Int)(id:Nat)(s:DnG)(j:Nat):Xw l id s (j+1)=dnGrS l id (Xw l id s j) j:=rfl
theorem dnGrK_le (l:List Int)(id:Nat)(s:DnG):∀ j,(Xw l id s j).gr.length<=s.gr.length+j/\(Xw l id s j).k<=s.k+j/\(Xw l id s j).ex<=s.ex
 | 0=>⟨Nat.le_refl _,Nat.le_refl _,Nat.le_refl _⟩
 | j+1=>by
  have ih:=dnGrK_le l id s j;rw [dnGrK_succ];unfold dnGrS;split
  ·simp;omega
  ·split
   ·split
    ·simp;omega
    ·dsimp only;omega
   ·omega
theorem dnR33 (hc:c.Ok){m:Nat}(hm0:m<=899000000)(hb:DB d m)(hF:c.Fr a)(hS:c.N w d X)(hK:∀ a' w',c.Fr a'->c.N w' d X/\a'.eval (.tmp 156)=.bool (decide (d.n.ro=1∨d.n.ro=2))->K a' w'):(Z1 0 (Z1 17 (Z3 Tryz.f51))).wp Tryz.prog (Exit.then K Q) a w:=by
 obtain ⟨t,rfl⟩:=hF.opened;have hsz:=hc.sz;have hel:=hc.el;have hid:=hc.id;have hnw:=hb.nw;have hkb:=hb.k;have hlg:=hb.lg;clear hF;have HS:Hid (c.N w d X):=hS;clear hS;obtain ⟨r,hr⟩:∃ r,r=d.n.ro:=⟨_,rfl⟩;have c6:w.cell? ⟨c.b9,6,none⟩=some (.int .i64 r):=by rw [hr];exact HS.out.blk.cell 6
 rw [<-hr] at hK;clear hr
 conv=>arg 2;whnf
 by_cases h1:r=1
 ·go_wp2_with fail
  exact hK _ _ ⟨rfl,rfl,rfl,rfl,rfl,rfl,rfl,rfl,rfl⟩ ⟨HS.out,by simp [Act.eval,h1]⟩
 ·by_cases h2:r=2
  ·go_wp2_with fail
   exact hK _ _ ⟨rfl,rfl,rfl,rfl,rfl,rfl,rfl,rfl,rfl⟩ ⟨HS.out,by simp [Act.eval,h2]⟩
  ·go_wp2_with fail
   exact hK _ _ ⟨rfl,rfl,rfl,rfl,rfl,rfl,rfl,rfl,rfl⟩ ⟨HS.out,by simp [Act.eval,h1,h2]⟩
theorem dnR34 (hc:c.Ok){m:Nat}(hm0:m<=899000000)(hb:DB d m)(hF:c.Fr a)(hS:c.N w d X)(hK:∀ a' w',c.Fr a'->c.N w' ⟨d.n,d.k+1⟩ X/\a'.eval (.tmp 11)=.int .i64 (Z5 c.l d.k (c.SZ / 2):Nat)->K a' w'):(Z1 0 (Zj (Z2 1 (Z1 17 (Z3 Tryz.f51))))).wp Tryz.prog (Exit.then K Q) a w:=by
 obtain ⟨t,rfl⟩:=hF.opened;have hsz:=hc.sz;have hel:=hc.el;have hid:=hc.id;have hnw:=hb.nw;have hkb:=hb.k;have hlg:=hb.lg;clear hF;have HS:Hid (c.N w d X):=hS;clear hS;obtain ⟨p,hp⟩:∃ p,p=Z5 c.l d.k (c.SZ / 2):=⟨_,rfl⟩;have Hp:Hid (p=Z5 c.l d.k (c.SZ / 2)):=hp;rw [<-hp] at hK;have bp:p<(c.SZ / 2):=by rw [hp];exact Zf _ _ _ (by omega)
 clear hp;obtain ⟨M,hM⟩:∃ M,M=c.SZ / 2:=⟨_,rfl⟩;rw [<-hM] at Hp bp
 conv=>arg 2;whnf
 go_wp2_with (go_at_call 53;rw [show ((c.SZ:Int) / 2)=(M:Int) by omega];go_loud (refine (HS.out.pick1 hc M (by omega) (by omega) (by omega)).mono ?_;rw [<-Hp.out];rintro r w9 ⟨rfl,hd⟩;have HS9:Hid (c.N w9 ⟨d.n,d.k+1⟩ X):=hd;clear hd))
 exact hK _ _ ⟨rfl,rfl,rfl,rfl,rfl,rfl,rfl,rfl,rfl⟩ ⟨HS9.out,rfl⟩
theorem dnR35 (hc:c.Ok){m:Nat}(hm0:m<=899000000)(hb:DB d m){e11:Value}(h11:a.eval (.tmp 11)=e11)(hF:c.Fr a)(hS:c.N w d X)(hK:∀ a' w',c.Fr a'->c.N w' d X/\a'.eval (.tmp 11)=e11/\a'.eval (.tmp 12)=.int .i64 1->K a' w'):(Z1 1 (Zj (Z2 1 (Z1 17 (Z3 Tryz.f51))))).wp Tryz.prog (Exit.then K Q) a w:=by
 obtain ⟨t,rfl⟩:=hF.opened;have hsz:=hc.sz;have hel:=hc.el;have hid:=hc.id;have hnw:=hb.nw;have hkb:=hb.k;have hlg:=hb.lg;clear hF;have HS:Hid (c.N w d X):=hS;clear hS;have ht:t 11=e11:=h11
 conv=>arg 2;whnf
 go_wp2_with fail
 exact hK _ _ ⟨rfl,rfl,rfl,rfl,rfl,rfl,rfl,rfl,rfl⟩ ⟨HS.out,rfl,rfl⟩
theorem dnG1 {s:DnG}{j:Nat}(hc:c.Ok){m:Nat}(hm0:m<=899000000)(hb:DB d m)(hj:j<c.SZ)(hsk:s.k<=899000000)(hgl:s.gr.length<=1000)(hex:s.ex<=1000)(hF:c.Fr a)(h12:a.eval (.tmp 12)=.int .i64 ((j:Int)+1))(h11:a.eval (.tmp 11)=.int .i64 (s.ex:Nat))(hS:c.N w ⟨{ d.n with gr:=s.gr },s.k⟩ X)(hP:∀ a' w' x',c.Fr a'->a'.eval (.tmp 12)=.int .i64 ((j:Int)+1+1)->a'.eval (.tmp 11)=.int .i64 ((dnGrS c.l c.ID s j).ex:Nat)->c.N w' ⟨{ d.n with gr:=(dnGrS c.l c.ID s j).gr },(dnGrS c.l c.ID s j).k⟩ x'->K a' w'):(Y6 (Zn (Z2 2 (Zj (Z2 1 (Z1 17 (Z3 Tryz.f51))))))).wp Tryz.prog (Exit.then K Q) a w:=by
 obtain ⟨t,rfl⟩:=hF.opened;have hsz:=hc.sz;have hel:=hc.el;have hid:=hc.id;have hnw:=hb.nw;have hkb:=hb.k;have hlg:=hb.lg;clear hF;have HS:Hid (c.N w ⟨{ d.n with gr:=s.gr },s.k⟩ X):=hS;clear hS;have ht:t 12=.int .i64 ((j:Int)+1):=h12;have ht2:t 11=.int .i64 (s.ex:Nat):=h11;rw [ht,ht2];clear ht ht2 h11 h12;obtain ⟨ga,gc,hvg⟩:=HS.out.grOwn.shape;have Hvg:Hid (X.vg=.slice ga s.gr.length gc):=hvg;have c13:w.cell? ⟨c.b9,13,none⟩=some (.slice ga s.gr.length gc):=by rw [<-Hvg.out];exact HS.out.blk.cell 13
 have f13:w.frozen? ⟨c.b9,13,none⟩=false:=HS.out.blk.free 13;have HO:Hid (Zs inC 1 3 w c.w0.heap.size (.slice ga s.gr.length gc) s.gr):=by unfold Hid;rw [<-Hvg.out];exact HS.out.grOwn
 have hw0:=HS.out.wsize;clear hvg;obtain ⟨p,hp⟩:∃ p,p=Z5 c.l s.k 2:=⟨_,rfl⟩;have Hp:Hid (p=Z5 c.l s.k 2):=hp;have hGS:dnGrS c.l c.ID s j=if j+1=c.ID then ⟨s.gr ++ [(j:Int)+1],s.ex,s.k⟩ else if 0<s.ex then (if p=0 then ⟨s.gr ++ [(j:Int)+1],s.ex-1,s.k+1⟩ else ⟨s.gr,s.ex,s.k+1⟩) else s:=by rw [hp];rfl
 rw [hGS] at hP;have bp:p<2:=by rw [hp];exact Zf _ _ _ (by omega)
 clear hp hGS
 conv=>arg 2;whnf
 by_cases hi:j+1=c.ID
 ·rw [if_pos hi] at hP
  go_wp2_with (at_builtin;refine J8 Jh rfl (.tmp 170) (.tmp 172) rfl (((j:Int)+1)) (HO.out.below ((Below.refl _ _).alloc (Nat.le_refl _) _)) rfl (w.heap.size) 1 (Blk.new _ _ _).range rfl (by omega) (by simp;omega) ?_;intro v2 w2 ho2 hg2;obtain ⟨a2,n2,c2,hv2⟩:∃ a n c,v2=.slice a n c:=(by obtain ⟨a,c,e⟩:=ho2.shape;exact ⟨a,_,c,e⟩);subst hv2;have HO2:Hid (Zs inC 1 3 w2 c.w0.heap.size (.slice a2 n2 c2) (s.gr ++ [((j:Int)+1)])):=ho2;have HG2:Hid (Xe (w.alloc (.cells #[.int .i64 (((j:Int)+1))] 3)) X.vg w2 (.slice a2 n2 c2)):=(by unfold Hid;rw [Hvg.out];exact hg2);have hB:=HS.out.grBlk ((Below.refl _ _).alloc (Nat.le_refl _) _) ho2 HG2.out;have cb2:w2.cell? ⟨c.b9,13,none⟩=some (.slice ga s.gr.length gc):=(by rw [<-Hvg.out];exact hB.cell 13);have fb2:w2.frozen? ⟨c.b9,13,none⟩=false:=hB.free 13;clear ho2 hg2 hB)
  exact hP _ _ _ ⟨rfl,rfl,rfl,rfl,rfl,rfl,rfl,rfl,rfl⟩ rfl rfl (HS.out.grNew ((Below.refl _ _).alloc (Nat.le_refl _) _) HO2.out HG2.out)
 ·rw [if_neg hi] at hP
  by_cases hx:0<s.ex
  ·rw [if_pos hx] at hP
   by_cases hp0:p=0
   ·rw [if_pos hp0] at hP
    obtain ⟨ex1,hex1⟩:∃ q,s.ex=q+1:=⟨s.ex-1,by omega⟩;rw [hex1] at hP ⊢
    go_wp2_with (first
     |(go_at_call 53;go_loud (refine (HS.out.pick1 hc 2 (by show s.k<=_;omega) (by omega) (by omega)).mono ?_;rw [<-Hp.out];rintro r w9 ⟨rfl,hd⟩;have HS9:Hid (c.N w9 ⟨{ d.n with gr:=s.gr },s.k+1⟩ X):=hd;have c139:w9.cell? ⟨c.b9,13,none⟩=some (.slice ga s.gr.length gc):=(by rw [<-Hvg.out];exact HS9.out.blk.cell 13);have f139:w9.frozen? ⟨c.b9,13,none⟩=false:=HS9.out.blk.free 13;have HO9:Hid (Zs inC 1 3 w9 c.w0.heap.size (.slice ga s.gr.length gc) s.gr):=(by unfold Hid;rw [<-Hvg.out];exact HS9.out.grOwn);have hw9:c.w0.heap.size<=w9.heap.size:=HS9.out.wsize;clear hd))
     |(at_builtin;refine J8 Jh rfl (.tmp 183) (.tmp 185) rfl (((j:Int)+1)) (HO9.out.below ((Below.refl _ _).alloc (Nat.le_refl _) _)) rfl (w9.heap.size) 1 (Blk.new _ _ _).range rfl (by omega) (by simp;omega) ?_;intro v2 w2 ho2 hg2;obtain ⟨a2,n2,c2,hv2⟩:∃ a n c,v2=.slice a n c:=(by obtain ⟨a,c,e⟩:=ho2.shape;exact ⟨a,_,c,e⟩);subst hv2;have HO2:Hid (Zs inC 1 3 w2 c.w0.heap.size (.slice a2 n2 c2) (s.gr ++ [((j:Int)+1)])):=ho2;have HG2:Hid (Xe (w9.alloc (.cells #[.int .i64 (((j:Int)+1))] 3)) X.vg w2 (.slice a2 n2 c2)):=(by unfold Hid;rw [Hvg.out];exact hg2);have hB:=HS9.out.grBlk ((Below.refl _ _).alloc (Nat.le_refl _) _) ho2 HG2.out;have cb2:w2.cell? ⟨c.b9,13,none⟩=some (.slice ga s.gr.length gc):=(by rw [<-Hvg.out];exact hB.cell 13);have fb2:w2.frozen? ⟨c.b9,13,none⟩=false:=hB.free 13;clear ho2 hg2 hB))
    exact hP _ _ _ ⟨rfl,rfl,rfl,rfl,rfl,rfl,rfl,rfl,rfl⟩ rfl (by simp [Act.eval]) (HS9.out.grNew ((Below.refl _ _).alloc (Nat.le_refl _) _) HO2.out HG2.out)
   ·rw [if_neg hp0] at hP
    go_wp2_with (go_at_call 53;go_loud (refine (HS.out.pick1 hc 2 (by show s.k<=_;omega) (by omega) (by omega)).mono ?_;rw [<-Hp.out];rintro r w9 ⟨rfl,hd⟩;have HS9:Hid (c.N w9 ⟨{ d.n with gr:=s.gr },s.k+1⟩ X):=hd;have c139:w9.cell? ⟨c.b9,13,none⟩=some (.slice ga s.gr.length gc):=(by rw [<-Hvg.out];exact HS9.out.blk.cell 13);have f139:w9.frozen? ⟨c.b9,13,none⟩=false:=HS9.out.blk.free 13;have HO9:Hid (Zs inC 1 3 w9 c.w0.heap.size (.slice ga s.gr.length gc) s.gr):=(by unfold Hid;rw [<-Hvg.out];exact HS9.out.grOwn);have hw9:c.w0.heap.size<=w9.heap.size:=HS9.out.wsize;clear hd))
    exact hP _ _ _ ⟨rfl,rfl,rfl,rfl,rfl,rfl,rfl,rfl,rfl⟩ rfl rfl HS9.out
  ·rw [if_neg hx] at hP
   go_wp2_with fail
   exact hP _ _ _ ⟨rfl,rfl,rfl,rfl,rfl,rfl,rfl,rfl,rfl⟩ rfl rfl HS.out
theorem dnG2 {R:Exit->Act->World->Prop}{e11:Value}(hc:c.Ok){m:Nat}(hm0:m<=899000000)(hb:DB d m)(hF:c.Fr a)(h12:a.eval (.tmp 12)=.int .i64 ((c.SZ:Int)+1))(hS:c.N w d X)(hP:∀ a',c.Fr a'->R (.exit 0) a' w):(Y6 (Zn (Z2 2 (Zj (Z2 1 (Z1 17 (Z3 Tryz.f51))))))).wp Tryz.prog (Exit.then K R) a w:=by
 obtain ⟨t,rfl⟩:=hF.opened;have hsz:=hc.sz;have hel:=hc.el;have hid:=hc.id;have hnw:=hb.nw;have hkb:=hb.k;have hlg:=hb.lg;clear hF;have HS:Hid (c.N w d X):=hS;clear hS;have ht:t 12=.int .i64 ((c.SZ:Int)+1):=h12;rw [ht];clear ht h12;have HP:Hid (∀ a',c.Fr a'->R (.exit 0) a' w):=hP;clear hP
 conv=>arg 2;whnf
 go_wp2_with fail
 exact HP.out _ ⟨rfl,rfl,rfl,rfl,rfl,rfl,rfl,rfl,rfl⟩
end
section
variable {Q:Exit->Act->World->Prop} {K:Act->World->Prop} {c:DC} {d:DnS} {X:RV} {a:Act} {w:World}
theorem Z33 (T:Int)(L:List Ent)(o i:Nat):(Yz T L o)[i]? = if i<L.length-o then L[i]? else L[i]?.map (Xm T):=by
 unfold Yz;have hl:(L.take (L.length-o)).length=L.length-o:=by simp
 split
 ·rename_i h
  rw [List.getElem?_append_left (by rw [hl];exact h),List.getElem?_take_of_lt h]
 ·rename_i h
  rw [List.getElem?_append_right (by rw [hl];omega),hl,List.getElem?_map,List.getElem?_drop];congr 2;omega
theorem Jz (T:Int)(L:List Ent)(o:Nat):(Yz T L o).length=L.length:=by
 unfold Yz;simp <;> omega
theorem dnOwn_zero (T:Int)(L:List Ent):Yz T L 0=L:=by unfold Yz;simp
theorem dnOwn_most (T:Int)(L:List Ent)(o:Nat)(h:L.length<=o):Yz T L o=Yz T L L.length:=by
 unfold Yz;rw [show L.length-o=0 by omega,show L.length-L.length=0 by omega]
theorem dnOwn_succ (T:Int)(L:List Ent)(q i:Nat)(hi:i+1+q=L.length):Yz T L (q+1)=(Yz T L q).set i (Xm T ((Yz T L q)[i]'(by rw [Jz];omega))):=by
 have hi2:i<L.length:=by omega
 have hv:(Yz T L q)[i]'(by rw [Jz];omega)=L[i]:=by
  have h1:=Z33 T L q i;rw [if_pos (by omega),List.getElem?_eq_getElem hi2,List.getElem?_eq_getElem (by rw [Jz];omega)] at h1;injection h1
 rw [hv];refine List.ext_getElem? fun j=>?_
 rw [Z33,List.getElem?_set,Jz,Z33];by_cases h1:i=j
 ·subst h1
  rw [if_neg (by omega),if_pos rfl,if_pos hi2,List.getElem?_eq_getElem hi2];rfl
 ·rw [if_neg h1]
  by_cases h2:j<L.length-(q+1)
  ·rw [if_pos h2,if_pos (by omega)]
  ·rw [if_neg h2]
   by_cases h3:j<L.length-q
   ·omega
   ·rw [if_neg h3]
theorem dnR43 (hc:c.Ok){m:Nat}(hm0:m<=899000000)(hb:DB d m)(hF:c.Fr a)(hS:c.N w d X)(hK:∀ a' w',c.Fr a'->c.N w' d X/\a'.eval (.tmp 192)=.bool (decide (d.n.ro=3))->K a' w'):(Z1 0 (Z1 18 (Z3 Tryz.f51))).wp Tryz.prog (Exit.then K Q) a w:=by
 obtain ⟨t,rfl⟩:=hF.opened;have hsz:=hc.sz;have hel:=hc.el;have hid:=hc.id;have hnw:=hb.nw;have hkb:=hb.k;have hlg:=hb.lg;clear hF;have HS:Hid (c.N w d X):=hS;clear hS;obtain ⟨r,hr⟩:∃ r,r=d.n.ro:=⟨_,rfl⟩;have c6:w.cell? ⟨c.b9,6,none⟩=some (.int .i64 r):=by rw [hr];exact HS.out.blk.cell 6
 rw [<-hr] at hK;clear hr
 conv=>arg 2;whnf
 go_wp2_with fail
 exact hK _ _ ⟨rfl,rfl,rfl,rfl,rfl,rfl,rfl,rfl,rfl⟩ ⟨HS.out,by simp [Act.eval];rfl⟩
theorem dnR44 (hc:c.Ok){m:Nat}(hm0:m<=899000000)(hb:DB d m)(hF:c.Fr a)(hS:c.N w d X)(hK:∀ a' w',c.Fr a'->c.N w' ⟨d.n,d.k+1⟩ X/\a'.eval (.tmp 13)=.int .i64 (Z5 c.l d.k 4:Nat)->K a' w'):(Z1 0 (Zj (Z2 1 (Z1 18 (Z3 Tryz.f51))))).wp Tryz.prog (Exit.then K Q) a w:=by
 obtain ⟨t,rfl⟩:=hF.opened;have hsz:=hc.sz;have hel:=hc.el;have hid:=hc.id;have hnw:=hb.nw;have hkb:=hb.k;have hlg:=hb.lg;clear hF;have HS:Hid (c.N w d X):=hS;clear hS;obtain ⟨p,hp⟩:∃ p,p=Z5 c.l d.k 4:=⟨_,rfl⟩;have Hp:Hid (p=Z5 c.l d.k 4):=hp;rw [<-hp] at hK;have bp:p<4:=by rw [hp];exact Zf _ _ _ (by omega)
 clear hp
 conv=>arg 2;whnf
 go_wp2_with (go_at_call 53;go_loud (refine (HS.out.pick1 hc 4 (by omega) (by omega) (by omega)).mono ?_;rw [<-Hp.out];rintro r w9 ⟨rfl,hd⟩;have HS9:Hid (c.N w9 ⟨d.n,d.k+1⟩ X):=hd;clear hd))
 exact hK _ _ ⟨rfl,rfl,rfl,rfl,rfl,rfl,rfl,rfl,rfl⟩ ⟨HS9.out,rfl⟩
theorem dnR45 (hc:c.Ok){m:Nat}(hm0:m<=899000000)(hb:DB d m){e13:Value}(h13:a.eval (.tmp 13)=e13)(hF:c.Fr a)(hS:c.N w d X)(hK:∀ a' w',c.Fr a'->c.N w' d X/\a'.eval (.tmp 13)=e13/\a'.eval (.tmp 14)=.int .i64 ((d.n.log.length:Int)-1)->K a' w'):(Z1 0 (Z1 1 (Zj (Z2 1 (Z1 18 (Z3 Tryz.f51)))))).wp Tryz.prog (Exit.then K Q) a w:=by
 obtain ⟨t,rfl⟩:=hF.opened;have hsz:=hc.sz;have hel:=hc.el;have hid:=hc.id;have hnw:=hb.nw;have hkb:=hb.k;have hlg:=hb.lg;clear hF;have HS:Hid (c.N w d X):=hS;clear hS;have ht:t 13=e13:=h13;obtain ⟨ra,rc,hvl⟩:=HS.out.vl;have c12:w.cell? ⟨c.b9,12,none⟩=some (.slice ra d.n.log.length rc):=by rw [<-hvl];exact HS.out.blk.cell 12
 clear hvl;have Ht:Hid (t 13=e13):=ht;clear ht
 conv=>arg 2;whnf
 go_wp2_with fail
 exact hK _ _ ⟨rfl,rfl,rfl,rfl,rfl,rfl,rfl,rfl,rfl⟩ ⟨HS.out,Ht.out,rfl⟩
theorem dnO1 {L:List Ent}{o q i:Nat}(hc:c.Ok){m:Nat}(hm0:m<=899000000)(hb:DB d m)(hLL:L.length<=200)(hqi:i+1+q=L.length)(hqo:q<o)(ho:o<=10)(hF:c.Fr a)(h14:a.eval (.tmp 14)=.int .i64 ((i:Nat):Int))(h13:a.eval (.tmp 13)=.int .i64 (((o-q:Nat):Int)))(hS:c.N w ⟨{ d.n with log:=Yz d.n.tm L q },d.k⟩ X)(hP:∀ a' w',c.Fr a'->a'.eval (.tmp 14)=.int .i64 ((i:Int)-1)->a'.eval (.tmp 13)=.int .i64 (((o-q:Nat):Int)-1)->c.N w' ⟨{ d.n with log:=Yz d.n.tm L (q+1) },d.k⟩ X->K a' w'):(Y6 (Zn (Z2 1 (Z1 1 (Zj (Z2 1 (Z1 18 (Z3 Tryz.f51)))))))).wp Tryz.prog (Exit.then K Q) a w:=by
 obtain ⟨t,rfl⟩:=hF.opened;have hsz:=hc.sz;have hel:=hc.el;have hid:=hc.id;have hnw:=hb.nw;have hkb:=hb.k;have hlg:=hb.lg;clear hF;have HS:Hid (c.N w ⟨{ d.n with log:=Yz d.n.tm L q },d.k⟩ X):=hS;clear hS;have ht:t 14=.int .i64 ((i:Nat):Int):=h14;have ht2:t 13=.int .i64 (((o-q:Nat):Int)):=h13;obtain ⟨D,hD⟩:∃ D,D=o-q:=⟨_,rfl⟩;rw [<-hD] at ht2 hP;have hD1:0<D:=by omega
 have hD2:D<=10:=by omega
 rw [ht,ht2];clear ht ht2 h13 h14 hD;obtain ⟨LQ,hLQ⟩:∃ LQ,LQ=Yz d.n.tm L q:=⟨_,rfl⟩;have hlen:LQ.length=L.length:=by rw [hLQ,Jz]
 have hil:i<LQ.length:=by omega
 have HSu:Hid (Yz d.n.tm L (q+1)=LQ.set i (Xm d.n.tm LQ[i])):=by unfold Hid;rw [dnOwn_succ d.n.tm L q i hqi];subst hLQ;rfl
 have HS1:Hid (c.N w ⟨{ d.n with log:=LQ },d.k⟩ X):=by unfold Hid;rw [hLQ];exact HS.out
 clear HS hLQ;obtain ⟨ra,rc,hvl⟩:=HS1.out.vl;obtain ⟨p,hpa,hE,hfz⟩:=Z0u (k:=i) (by rw [<-hvl];exact HS1.out.logOwn) rfl hil (by unfold maxLen;show LQ.length<=_;omega);subst hpa;have Hvl:Hid (X.vl=.slice (some ⟨p,0,none⟩) LQ.length rc):=hvl;clear hvl;obtain ⟨N,hN⟩:∃ N,N=LQ.length:=⟨_,rfl⟩;have c12:w.cell? ⟨c.b9,12,none⟩=some (.slice (some ⟨p,0,none⟩) N rc):=by rw [hN,<-Hvl.out];exact HS1.out.blk.cell 12
 have c4:w.cell? ⟨c.b9,4,none⟩=some (.int .i64 d.n.tm):=HS1.out.blk.cell 4;have e0:w.cell? ⟨p,i*7,none⟩=some (.int .i64 LQ[i].t):=hE.1;have f0:=hfz (i*7);have hiN:i<N:=by omega
 have hN2:N<=200:=by omega
 have HN:Hid (N=LQ.length):=hN;have Hil:Hid (i<LQ.length):=hil;obtain ⟨T,hT⟩:∃ T,T=d.n.tm:=⟨_,rfl⟩;rw [<-hT] at c4;have HT:Hid (T=d.n.tm):=hT;clear hN hE hfz hlen hT
 conv=>arg 2;whnf
 go_wp2_with fail
 refine hP _ _ ⟨rfl,rfl,rfl,rfl,rfl,rfl,rfl,rfl,rfl⟩ rfl rfl ?_;rw [HSu.out,HT.out];exact HS1.out.logT Hvl.out i Hil.out d.n.tm
theorem dnO2 {R:Exit->Act->World->Prop}{e13 e14:Int}(hc:c.Ok){m:Nat}(hm0:m<=899000000)(hb:DB d m)(hx:e14<0∨e13<=0)(hF:c.Fr a)(h14:a.eval (.tmp 14)=.int .i64 e14)(h13:a.eval (.tmp 13)=.int .i64 e13)(hP:∀ a',c.Fr a'->R (.exit 2) a' w):(Y6 (Zn (Z2 1 (Z1 1 (Zj (Z2 1 (Z1 18 (Z3 Tryz.f51)))))))).wp Tryz.prog (Exit.then K R) a w:=by
 obtain ⟨t,rfl⟩:=hF.opened;have hsz:=hc.sz;have hel:=hc.el;have hid:=hc.id;have hnw:=hb.nw;have hkb:=hb.k;have hlg:=hb.lg;clear hF;have ht:t 14=.int .i64 e14:=h14;have ht2:t 13=.int .i64 e13:=h13;rw [ht,ht2];clear ht ht2 h13 h14;have HP:Hid (∀ a',c.Fr a'->R (.exit 2) a' w):=hP;clear hP
 conv=>arg 2;whnf
 by_cases h1:e14<0
 ·go_wp2_with fail
  exact HP.out _ ⟨rfl,rfl,rfl,rfl,rfl,rfl,rfl,rfl,rfl⟩
 ·have h2:e13<=0:=by omega
  have h3:¬ 0<e13:=by omega
  have h4:0<=e14:=by omega
  go_wp2_with fail
  exact HP.out _ ⟨rfl,rfl,rfl,rfl,rfl,rfl,rfl,rfl,rfl⟩
theorem dnO3 {o:Nat}(hc:c.Ok){m:Nat}(hm0:m<=899000000)(hb:DB d m)(ho:o<=10)(hF:c.Fr a)(h14:a.eval (.tmp 14)=.int .i64 ((d.n.log.length:Int)-1))(h13:a.eval (.tmp 13)=.int .i64 (o:Nat))(hS:c.N w d X)(hK:∀ a' w',c.Fr a'->c.N w' ⟨{ d.n with log:=Yz d.n.tm d.n.log o },d.k⟩ X->K a' w'):(Z2 1 (Z1 1 (Zj (Z2 1 (Z1 18 (Z3 Tryz.f51)))))).wp Tryz.prog (Exit.then K Q) a w:=by
 have hlg:=hb.lg;rw [show Z2 1 (Z1 1 (Zj (Z2 1 (Z1 18 (Z3 Tryz.f51)))))=.block 2 (.loop (Y6 (Zn (Z2 1 (Z1 1 (Zj (Z2 1 (Z1 18 (Z3 Tryz.f51))))))))) from rfl];refine wp_block ?_;refine wp_loop (fun a w=>∃ q:Nat,q<=o/\q<=d.n.log.length/\c.Fr a/\a.eval (.tmp 14)=.int .i64 ((d.n.log.length:Int)-1-q)/\a.eval (.tmp 13)=.int .i64 (((o-q:Nat):Int))/\c.N w ⟨{ d.n with log:=Yz d.n.tm d.n.log q },d.k⟩ X) (fun a _=>(intOf (a.eval (.tmp 13))).toNat) ⟨0,Nat.zero_le _,Nat.zero_le _,hF,by rw [h14];simp,by rw [h13];rfl,by rw [dnOwn_zero];exact hS⟩ ?_;rintro a1 w1 ⟨q,q1,q2,f1,g14,g13,s1⟩;by_cases hq:q<o/\q<d.n.log.length
 ·obtain ⟨i,hi⟩:∃ i,i+1+q=d.n.log.length:=⟨d.n.log.length-1-q,by omega⟩
  refine dnO1 (L:=d.n.log) (o:=o) (q:=q) (i:=i) hc hm0 hb hlg hi hq.1 ho f1 (by rw [g14];congr 1;omega) g13 s1 ?_;intro a' w' f2 k14 k13 s2;refine ⟨⟨q+1,by omega,by omega,f2,by rw [k14];congr 1;push_cast;omega,by rw [k13];congr 1;omega,s2⟩,?_⟩;rw [k13,g13];simp only [intOf];omega
 ·refine dnO2 hc hm0 hb (e14:=(d.n.log.length:Int)-1-q) (e13:=((o-q:Nat):Int)) (by omega) f1 g14 g13 ?_
  intro a' f2;show Exit.inBlock 2 (Exit.then K Q) (.exit 2) a' w1
  have he:Yz d.n.tm d.n.log q=Yz d.n.tm d.n.log o:=by
   rcases Nat.lt_or_ge q o with h | h
   ·have:q=d.n.log.length:=by omega
    rw [dnOwn_most _ _ o (by omega),this]
   ·have:q=o:=by omega
    rw [this]
  rw [he] at s1;exact hK a' w1 f2 s1
theorem dnR50 (hc:c.Ok){m:Nat}(hm0:m<=899000000)(hb:DB d m)(hF:c.Fr a)(hS:c.N w d X)(hK:∀ a' w',c.Fr a'->c.N w' ⟨d.n,d.k+1⟩ X/\a'.eval (.tmp 218)=.bool (decide (Z5 c.l d.k 2=0))->K a' w'):(Z1 0 (Z1 2 (Zj (Z2 1 (Z1 18 (Z3 Tryz.f51)))))).wp Tryz.prog (Exit.then K Q) a w:=by
 obtain ⟨t,rfl⟩:=hF.opened;have hsz:=hc.sz;have hel:=hc.el;have hid:=hc.id;have hnw:=hb.nw;have hkb:=hb.k;have hlg:=hb.lg;clear hF;have HS:Hid (c.N w d X):=hS;clear hS;obtain ⟨p,hp⟩:∃ p,p=Z5 c.l d.k 2:=⟨_,rfl⟩;have Hp:Hid (p=Z5 c.l d.k 2):=hp;rw [<-hp] at hK;have bp:p<2:=by rw [hp];exact Zf _ _ _ (by omega)
 clear hp
 conv=>arg 2;whnf
 go_wp2_with (go_at_call 53;go_loud (refine (HS.out.pick1 hc 2 (by omega) (by omega) (by omega)).mono ?_;rw [<-Hp.out];rintro r w9 ⟨rfl,hd⟩;have HS9:Hid (c.N w9 ⟨d.n,d.k+1⟩ X):=hd;clear hd))
 exact hK _ _ ⟨rfl,rfl,rfl,rfl,rfl,rfl,rfl,rfl,rfl⟩ ⟨HS9.out,by simp [Act.eval,beq0]⟩
theorem dnR51 (hc:c.Ok){m:Nat}(hm0:m<=899000000)(hb:DB d m)(hF:c.Fr a)(hS:c.N w d X)(hK:∀ a' w',c.Fr a'->c.N w' ⟨{ d.n with cm:=max 0 ((d.n.log.length:Int)-2) },d.k⟩ X->K a' w'):(Zj (Z2 1 (Z1 2 (Zj (Z2 1 (Z1 18 (Z3 Tryz.f51))))))).wp Tryz.prog (Exit.then K Q) a w:=by
 obtain ⟨t,rfl⟩:=hF.opened;have hsz:=hc.sz;have hel:=hc.el;have hid:=hc.id;have hnw:=hb.nw;have hkb:=hb.k;have hlg:=hb.lg;clear hF;have HS:Hid (c.N w d X):=hS;clear hS;obtain ⟨ra,rc,hvl⟩:=HS.out.vl;have c12:w.cell? ⟨c.b9,12,none⟩=some (.slice ra d.n.log.length rc):=by rw [<-hvl];exact HS.out.blk.cell 12
 clear hvl;have c8:w.cell? ⟨c.b9,8,none⟩=some (.int .i64 d.n.cm):=HS.out.blk.cell 8;have f8:w.frozen? ⟨c.b9,8,none⟩=false:=HS.out.blk.free 8;obtain ⟨M,hM⟩:∃ M,M=max 0 ((d.n.log.length:Int)-2):=⟨_,rfl⟩;have HM:Hid (M=max 0 ((d.n.log.length:Int)-2)):=hM;rw [<-hM] at hK;clear hM
 conv=>arg 2;whnf
 go_wp2_with (go_at_call 94;go_loud (refine (Jm _ _ _).mono ?_;rw [<-HM.out];rintro r w9 ⟨rfl,hw⟩;obtain rfl:=hw.symm;clear hw))
 exact hK _ _ ⟨rfl,rfl,rfl,rfl,rfl,rfl,rfl,rfl,rfl⟩ (HS.out.set 8 (by omega) _ rfl rfl rfl rfl rfl rfl rfl)
theorem dnI182 (hc:c.Ok){m:Nat}(hm0:m<=898999000)(hb:DB d m)(hF:c.Fr a)(hS:c.N w d X)(hK:∀ a' w',c.Fr a'->c.N w' (if Z5 c.l d.k 2=0 then ⟨{ d.n with cm:=max 0 ((d.n.log.length:Int)-2) },d.k+1⟩ else ⟨d.n,d.k+1⟩) X->K a' w'):(Z1 2 (Zj (Z2 1 (Z1 18 (Z3 Tryz.f51))))).wp Tryz.prog (Exit.then K Q) a w:=by
 rw [show Z1 2 (Zj (Z2 1 (Z1 18 (Z3 Tryz.f51))))=.seq (Z1 0 (Z1 2 (Zj (Z2 1 (Z1 18 (Z3 Tryz.f51)))))) (.cond (.tmp 218) (Zj (Z2 1 (Z1 2 (Zj (Z2 1 (Z1 18 (Z3 Tryz.f51))))))) .skip) from rfl];refine wp_seq_k ?_;intro K2 hK2;refine dnR50 hc (by omega) hb hF hS fun a' w' h1 h2=>hK2 _ _ ?_
 refine wp_cond h2.2 ?_;by_cases h:Z5 c.l d.k 2=0
 ·simp only [h,decide_true,if_true] at hK ⊢
  exact dnR51 (d:=⟨d.n,d.k+1⟩) hc (m:=m+1) (by omega) (hb.step 1 (Nat.le_refl _) rfl rfl rfl) h1 h2.1 hK
 ·simp only [h,decide_false,if_false,Bool.false_eq_true] at hK ⊢
  exact wp_skip (hK _ _ h1 h2.1)
end
def SzD (a:Act)(n:Nat):Prop:=a.tmps.size=n/\a.defers = []
theorem SzD.opened {a:Act}{n:Nat}(h:SzD a n):∃ t:Nat->Value,a=⟨(lst t 0 n).toArray,[]⟩:=by
 obtain ⟨⟨L⟩,df⟩:=a;obtain ⟨h1,h2⟩:=h;have hd:df = []:=h2;subst hd;have hs:L.length=n:=h1;exact ⟨fun i=>L.getD i undef,by rw [<-lst_of L n hs]⟩
theorem SzD.frame {a:Act}{n:Nat}(h:SzD a n)(ds:List Nat)(y:Nat->Value):SzD (frame a ds y) n:=⟨(Z1z a ds y).trans h.1,h.2⟩
theorem mgT_ok (l:List Int)(k:Nat):1<=(mgT l k).1/\(mgT l k).1<=1073741824/\(mgT l k).2<=k+7:=by
 have h1:=Zf l (k+1+1+1+1+1+1) 2 (by decide);have h2:=Zf l (k+1+1) 9 (by decide);unfold mgT;split <;> (dsimp only;omega)
theorem mgB_len (l:List Int)(k:Nat)(ki tm li lt:Int):(mgBd l k ki tm li lt).2.1.length<=32:=by
 unfold mgBd;split
 ·dsimp only
  rw [List.length_map,Jb];have:=(mgN0_ok l (k+1)).1;unfold mgN;omega
 ·simp
theorem mgC_k (l:List Int)(k:Nat)(ki:Int):(mgCd l k ki).2<=k+1:=by
 unfold mgCd;split <;> (dsimp only;omega)
theorem mgD_k (l:List Int)(k:Nat)(ki ok li:Int):(mgD l k ki ok li).2.2<=k+2:=by
 unfold mgD;split
 ·dsimp only
  split <;> omega
 ·dsimp only;omega
theorem msgD_ok (l:List Int)(k:Nat):1<=(Xi l k).tm/\(Xi l k).tm<=1073741824/\0<=(Xi l k).lt/\(Xi l k).lt<=1073741824/\(Xi l k).es.length<=32/\(Xi l k).k<=k+700:=by
 have hT:=mgT_ok l k;have hA:=mgA_ok l (mgT l k).2 (mgK l k) (mgT l k).1 hT.1 hT.2.1;unfold Xi;dsimp only;refine ⟨hT.1,hT.2.1,hA.2.2.1,hA.2.2.2.1,mgB_len _ _ _ _ _ _,?_⟩;refine Nat.le_trans (mgD_k _ _ _ _ _) ?_;have h1:=mgC_k l (mgBd l (mgA l (mgT l k).2 (mgK l k) (mgT l k).1).2.2 (mgK l k) (mgT l k).1 (mgA l (mgT l k).2 (mgK l k) (mgT l k).1).1 (mgA l (mgT l k).2 (mgK l k) (mgT l k).1).2.1).2.2 (mgK l k);have h2:=mgB_k l (mgA l (mgT l k).2 (mgK l k) (mgT l k).1).2.2 (mgK l k) (mgT l k).1 (mgA l (mgT l k).2 (mgK l k) (mgT l k).1).1 (mgA l (mgT l k).2 (mgK l k) (mgT l k).1).2.1;omega
end Go.Proofs.YtmmpoppgabadmaaGreat
