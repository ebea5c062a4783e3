import Derived.Test.YtmmpoppgabadmaaGreatRows
import Derived.WalkKit
import Derived.WalkSpells
import Derived.RowKit3
import Derived.Below
import Derived.Deep.Light
import Derived.Deep.QuietTactic
import Derived.BigQuiet
import Derived.Deep.MidRow
import Derived.Deep.WholeRow
import Derived.Deep.RegionHeld3
import Derived.Laws.StructEq
import Derived.Laws.OwnMore
import Derived.Laws.BitsAllLaws
import Derived.OwnWalk
import Derived.Lib.AppendStr
import Derived.Maps.AppendAt
import Derived.Orders
import Derived.Laws.Cover3
set_option linter.unusedVariables false
set_option linter.unusedSimpArgs false
set_option maxRecDepth 100000
set_option maxHeartbeats 16000000
open Go.Value renaming slice → I,int → Aa,pointer → Ae,agg → Aw,string → Az
open Go.IntKind renaming i64 → O,wrap_i64 → Bl
open _root_.Option renaming none → Ab,some → Ac
open Go.Proofs.Tryz renaming prog → Ad
open Go renaming Value → Af,World → Ag,Calls → Ar,TypeId → Ax,bodyPost_ret → A8,Act → Bn,Addr → B4,Exit → Ca
open Go.RowKit renaming Below → Ai,intOf → B0
open Go.Ending renaming returned → Aj
open Go.RowKit.Below renaming heap_setCell → Ak,refl → An
open _root_.Bool renaming and_eq_true → Al
open _root_.Nat renaming le_refl → Ao,le_trans → Ap,zero_le → Bb,lt_of_lt_of_le → Bk,lt_or_ge → B1
open Go.Obj renaming cells → At
open _root_.Option.some renaming injEq → Bf
open _root_.Array renaming getElem?_eq_getElem → Bo,getD_eq_getD_getElem? → Bw
open _root_.List renaming getElem_mem → Bp,not_mem_nil → Br,getElem?_eq_none → Bv,mem_cons → B3,getElem?_map → Cb
namespace Go.Proofs.YtmmpoppgabadmaaGreat
open Go.Proofs.Tryz
open Go.RowKit
section
abbrev zMsg:Array Af:=#[Aa O 0,Aa O 0,Aa O 0,Aa O 0,Aa O 0,Aa O 0,Aa O 0,Aa O 0,Aa O 0,I Ab 0 0]
abbrev zNod:Array Af:=#[Aa O 0,Aa O 0,Aa O 0,Aa O 0,Aa O 0,Aa O 0,Aa O 0,Aa O 0,Aa O 0,Aa O 0,Aa O 0,Aa O 0,I Ab 0 0,I Ab 0 0,I Ab 0 0,I Ab 0 0,I Ab 0 0,I Ab 0 0]
abbrev zCmd:Array Af:=#[Aa O 0,Aa O 0,Aa O 0,Az ⟨#[]⟩,Az ⟨#[]⟩,Az ⟨#[]⟩]
abbrev zAns:Array Af:=#[Aa O 0,Aa O 0,Aa O 0,Aa O 0,Aa O 0,Aa O 0,Aa O 0,Aa O 0,Aa O 0,Aa O 0,Aa O 0,Aa O 0,Aa O 0,Aa O 0,I Ab 0 0,I Ab 0 0,I Ab 0 0,I Ab 0 0,I Ab 0 0,I Ab 0 0,I Ab 0 0]
theorem baq {w:Ag}{o:Obj}:Ai w.heap.size w (w.alloc o):=(An _ _).alloc (Ao _) _
abbrev mqN (a b c d e f g h i:Int)(v:Af):Array Af:=#[Aa O a,Aa O b,Aa O c,Aa O d,Aa O e,Aa O f,Aa O g,Aa O h,Aa O i,v]
abbrev cqN (a b c:Int)(x y z:ByteArray):Array Af:=#[Aa O a,Aa O b,Aa O c,Az x,Az y,Az z]
abbrev eqN (a b c d:Int)(x y z:ByteArray):Array Af:=#[Aa O a,Aa O b,Aa O c,Aa O d,Az x,Az y,Az z]
abbrev nqN (a b c d e f g h i j k l:Int)(m n o p q r:Af):Array Af:=#[Aa O a,Aa O b,Aa O c,Aa O d,Aa O e,Aa O f,Aa O g,Aa O h,Aa O i,Aa O j,Aa O k,Aa O l,m,n,o,p,q,r]
theorem Z1d {W a:Ag}(c:Ai W.heap.size W a):(∀ b o,b<W.heap.size->a.cell? ⟨b,o,Ab⟩=W.cell? ⟨b,o,Ab⟩)/\(∀ b o,b<W.heap.size->a.frozen? ⟨b,o,Ab⟩=W.frozen? ⟨b,o,Ab⟩):=
 ⟨λb o h=>c.cell (p:=⟨b,o,Ab⟩) h,λb o h=>c.frozen (p:=⟨b,o,Ab⟩) h⟩
theorem J6 {k:IntKind}{a b:Int}(h:a=b):Ending.returned (.int k a)=Aj (.int k b):=by rw [h]
variable {p:Prop}
theorem ifc {α:Type}{q:Prop}[Decidable p][Decidable q]{a b c d:α}(h:p↔q)(f:a=c)(g:b=d):(if p then a else b)=if q then c else d:=by
 subst f g;by_cases e:p
 ·rw [if_pos e,if_pos (h.1 e)]
 ·rw [if_neg e,if_neg (λhq=>e (h.2 hq))]
theorem sw {f:FuncId}{a:Array Af}{w:Ag}{V:Ending}(h:Ar Ad f a w λe w'=>e=V/\w'=w){Q:Ending->Ag->Prop}(k:Q V w):Ar Ad f a w Q:=h.mono (by rintro e w' ⟨rfl,rfl⟩;exact k)
abbrev Tv (a:Bn)(n:Nat):Af:=a.eval (.tmp n)
theorem wrx (x:Int)(h : -(2^63)<=x/\x<2^63:=by omega):IntKind.i64.wrap x=x:=by rw [Bl]; omega
theorem wry {x y:Int}(h : -(2^63)<=y/\y<2^63/\x=y:=by omega):IntKind.i64.wrap x=y:=by rw [Bl]; omega
theorem bdr {n d:Nat}{w:Ag}:Ai n w { w with drawn:=d }:=⟨rfl,rfl,rfl,Ao _, λ_ _=>rfl⟩
theorem ifd {c:Prop}{i:Decidable c}{α:Sort _}{a b:α}(h:¬c:=by decide):ite c a b=b:=if_neg h
theorem ifo {c:Prop}{i:Decidable c}{α:Sort _}{a b:α}(h:¬c:=by omega):ite c a b=b:=if_neg h
theorem Z0 (h:p):Go.RowKit.Hid p:=h
theorem exq {α:Sort _}(e:α):∃ x,x=e:=⟨e,rfl⟩
end
section
def Bs (w:Ag)(v:Af)(l:List Int):Prop:=
 l.length<=maxLen/\(∀ x∈l,0<=x/\x<=255) /\
 ∃ a cap,v=I a l.length cap/\∀ i,i<l.length->∃ b off,a=Ac ⟨b,off,Ab⟩/\∀ j,j<l.length->w.cell? ⟨b,off+j,Ab⟩=Ac (Aa .u8 (l[j]?.getD 0))
variable {l:List Int}
theorem byte_at (h:∀ x∈l,0<=x/\x<=255)(k:Nat):0<=l[k]?.getD 0/\l[k]?.getD 0<=255:=by
 rcases B1 k l.length with hk | hk
 ·rw [List.getElem?_eq_getElem hk];exact h _ (Bp hk)
 ·rw [Bv hk];simp
variable {w:Ag}{v:Af}
theorem Xp {b o:Nat}(h:w.cell? ⟨b,o,Ab⟩=Ac v):b<w.heap.size:=by
 rcases B1 b w.heap.size with h' | h'
 ·exact h'
 ·rw [World.cell?,Array.getElem?_eq_none h'] at h;simp at h
theorem Bs.below {w':Ag}(h:Bs w v l)(f:Ai w.heap.size w w'):Bs w' v l:=by
 obtain ⟨g,k,a,cap,rfl,e⟩:=h;refine ⟨g,k,a,cap,rfl,λi hi=>?_⟩;obtain ⟨b,c,rfl,d⟩:=e i hi;exact ⟨b,c,rfl,λj hj'=>by rw [f.cell (Xp (d j hj'))];exact d j hj'⟩
end
section
variable {w w':Ag}{b:Nat}
theorem Z01 {o:Nat}{cs:List Af}(h:w.rangeAt b o cs)(a:Ai w.heap.size w w'):w'.rangeAt b o cs:=λj v hj=>(a.cell (Xp (h j v hj))).trans (h j v hj)
def Sl {α:Type}(cs:α->List Af)(m:Nat)(w:Ag)(v:Af)(l:List α):Prop:=
 l.length<=maxLen/\∃ a cap,v=I a l.length cap/\∀ i,i<l.length->∃ b off,a=Ac ⟨b,off,Ab⟩/\∀ j (h:j<l.length),w.rangeAt b (off+j*m) (cs l[j])
variable {m:Nat}
theorem Sl.below {α:Type}{cs:α->List Af}{v:Af}{l:List α}(h:Sl cs m w v l)(e:Ai w.heap.size w w'):Sl cs m w' v l:=by
 obtain ⟨f,a,cap,rfl,d⟩:=h;refine ⟨f,a,cap,rfl,λi hi=>?_⟩;obtain ⟨b,c,rfl,o⟩:=d i hi;exact ⟨b,c,rfl,λj hj'=>Z01 (o j hj') e⟩
theorem Z04 (w:Ag)(cs:List Af)(t:Ax):(w.alloc (At cs.toArray t)).rangeAt w.heap.size 0 cs:=by
 intro j v a;rw [Nat.zero_add,World.cell?_alloc_new];simpa using a
theorem there_new' (w:Ag)(cs:Array Af)(t:Ax):(w.alloc (At cs t)).there w.heap.size 0 cs.size:=λj hj=>by
 refine ⟨?_,by simp⟩;rw [Nat.zero_add,World.cell?_alloc_new,Bo hj];rfl
variable {g:Nat}
theorem Z3o {B:Nat}{w0:Ag}(a:B<=g):∀(vs:List Af) (o:Nat) (w:Ag),Ai B w0 w->Ai B w0 (w.setCells g o vs)
 | [],_,_,h=>h
 | v :: vs,o,w,h=>Z3o a vs (o+1) _ (h.setCell (show B<=(⟨g,o,Ab⟩:B4).block from a) v)
theorem Z3y : ∀(vs:List Af) (o:Nat) (w:Ag),(w.setCells g o vs).heap.size=w.heap.size
 | [],_,_=>rfl
 | v :: vs,o,w=>(Z3y vs (o+1) _).trans (by simp [World.setCell])
variable {n:Nat}
theorem there_sub (h:w.there b 0 n)(o k:Nat)(a:o+k<=n):w.there b o k:=λj hj=>by
 have:=h (o+j) (by omega)
 rwa [Nat.zero_add] at this
structure Z1q {α:Type} (cs:α->List Af) (m:Nat) (w wr:Ag) (l:List α) (k:Nat):Prop where
 below:Ai w.heap.size w wr
 size:w.heap.size<wr.heap.size
 there:wr.there w.heap.size 0 (l.length*m)
 rows:∀ j (h:j<l.length),j<k->wr.rangeAt w.heap.size (j*m) (cs l[j])
theorem Z1q.start {α:Type}(cs:α->List Af)(m:Nat)(w:Ag)(l:List α)(z:Array Af)(t:Ax):Z1q cs m w (w.alloc (At (madeCells z (l.length*m)) t)) l 0:=
 ⟨baq,by simp,by have h:=there_new' w (madeCells z (l.length*m)) t;rwa [size_madeCells] at h,λj _ h=>absurd h (by omega)⟩
variable {wr:Ag}{k:Nat}
theorem Z1q.later {α:Type}{cs:α->List Af}{c:Ag}{l:List α}(h:Z1q cs m w wr l k)(a:Ai wr.heap.size wr c):Z1q cs m w c l k:=
 ⟨h.below.trans (a.mono (Nat.le_of_lt h.size)),Bk h.size a.size,λj hj=>by
  rw [a.cell (p:=⟨w.heap.size,0+j,Ab⟩) h.size,a.frozen (p:=⟨w.heap.size,0+j,Ab⟩) h.size];exact h.there j hj,λj hj hjk=>Z01 (h.rows j hj hjk) a⟩
theorem row_le {j:Nat}(h:j<k)(a:k<=n):j*m+m<=n*m:=by
 have:=Nat.mul_le_mul_right m (show j+1<=n by omega)
 rwa [Nat.succ_mul] at this
theorem Z1q.step {α:Type}{cs:α->List Af}{l:List α}(h:Z1q cs m w wr l k)(d:k<l.length)(c:∀ a,(cs a).length=m) :
  Z1q cs m w (wr.setCells w.heap.size (k*m) (cs l[k])) l (k+1):=by
 refine ⟨Z3o (Ao _) _ _ _ h.below,by rw [Z3y];exact h.size,World.there_setCells h.there _ _ _,λj hj hjk=>?_⟩;by_cases e:j=k
 ·subst e
  exact World.rangeAt_setCells_same _ _ _ _ (there_sub h.there _ _ (by rw [c];exact row_le d (Ao _)))
 ·exact World.rangeAt_setCells_apart (h.rows j hj (by omega)) _ _ _ (.inr (.inl (by rw [c];exact row_le (show j<k by omega) (Ao _))))
theorem Z1q.sl {α:Type}{cs:α->List Af}{l:List α}(h:Z1q cs m w wr l l.length)(a:l.length<=maxLen):Sl cs m wr (I (Ac ⟨w.heap.size,0,Ab⟩) l.length l.length) l:=
 ⟨a,_,_,rfl,λi hi=>⟨_,_,rfl,λj hj=>by rw [Nat.zero_add];exact h.rows j hj hj⟩⟩
end
def Ix (w:Ag)(v:Af)(l:List Int):Prop:=
 l.length<=maxLen/\∃ a cap,v=I a l.length cap/\∀ i,i<l.length->∃ b off,a=Ac ⟨b,off,Ab⟩/\∀ j (h:j<l.length),w.cell? ⟨b,off+j,Ab⟩=Ac (Aa O l[j])
theorem Ix.below {w w':Ag}{v:Af}{l:List Int}(h:Ix w v l)(f:Ai w.heap.size w w'):Ix w' v l:=by
 obtain ⟨g,a,cap,rfl,e⟩:=h;refine ⟨g,a,cap,rfl,λi hi=>?_⟩;obtain ⟨b,c,rfl,d⟩:=e i hi;exact ⟨b,c,rfl,λj hj'=>(f.cell (p:=⟨b,c+j,Ab⟩) (Xp (d j hj'))).trans (d j hj')⟩
theorem Ix.nil (w:Ag):Ix w (I Ab 0 0) []:=⟨by simp [maxLen],_,_,rfl,λi hi=>absurd hi (by simp)⟩
def Z2e (x:Int)(l:List Int):Bool:=l.contains x
theorem Z5r {x:Int}{l:List Int}{k:Nat}(h:x ∉ l.take k)(a:k<l.length)(b:¬ x=l[k]):x ∉ l.take (k+1):=by
 intro c;rw [List.take_succ_eq_append_getElem a] at c;rcases List.mem_append.1 c with h1 | h1
 ·exact h h1
 ·exact b (List.mem_singleton.1 h1)
theorem indexI_any (v:Af)(l:List Int)(x:Int)(w:Ag)(s:Ix w v l) :
  Ar Ad 145 #[v,Aa O x] w λe w'=>∃ r:Int,e=Aj (Aa O r)/\decide (0<=r)=Z2e x l/\w'=w:=by
 obtain ⟨q,a,cap,rfl,m⟩:=s;unfold maxLen at q;go_enter func145,ntmps145;go_wp2;go_loop [8] (λi=>∃(k:Nat),k<=l.length/\i=Aa O k/\x ∉ l.take k) (λi=>l.length-(B0 i).toNat)
 case atStart=>exact ⟨0,Bb _,rfl,by simp⟩
 case round=>
  obtain ⟨k,t,rfl,g⟩:=hrel;by_cases c:k<l.length
  ·obtain ⟨b,p,rfl,n⟩:=m k c
   have f:=n k c;clear m n;by_cases d:x=l[k]
   ·have j:(x == l[k])=true:=by simpa using d
    have o:=Z0 ((by simp [Z2e,d]:Z2e x l=true));clear d;generalize l[k]=y at f j;go_wp2;go_ret;exact ⟨_,rfl,by rw [o.out];simp,rfl⟩
   ·have j:(x == l[k])=false:=by simpa using d
    have h:=Z5r g c d;clear d g;generalize l[k]=y at f j;go_wp2;go_round
    case rel=>exact ⟨k+1,by omega,by go_num,h⟩
    case measure=>simp [B0];omega
  ·go_wp2
   go_ret;exact ⟨_,rfl,by rw [List.take_of_length_le (by omega)] at g;simp [Z2e,g],rfl⟩
theorem containsI_any (v:Af)(l:List Int)(x:Int)(w:Ag)(c:Ix w v l) :
  Ar Ad 111 #[v,Aa O x] w λe w'=>e=Aj (.bool (Z2e x l))/\w'=w:=by
 have f:=Z0 c;obtain ⟨_,a,cap,rfl,_⟩:=c;go_enter func111,ntmps111
 go_wp2_with (go_at_call 145;refine (indexI_any _ l x _ f).mono ?_;rintro e g ⟨r,rfl,d,b⟩;obtain rfl:=b.symm;clear b)
 all_goals go_ret
 all_goals exact ⟨by rw [<-d];rfl,rfl⟩
theorem Z4j (v:Af)(l:List Int)(x:Int)(w:Ag)(s:Ix w v l) :
  Ar Ad 99 #[v,Aa O x] w λe w'=>e=Aj (.bool (Z2e x l))/\w'=w:=by
 obtain ⟨r,a,cap,rfl,n⟩:=s;unfold maxLen at r;go_enter func99,ntmps99;go_wp2;go_loop [5] (λi=>∃(k:Nat),k<=l.length/\i=Aa O k/\x ∉ l.take k) (λi=>l.length-(B0 i).toNat)
 case atStart=>exact ⟨0,Bb _,rfl,by simp⟩
 case round=>
  obtain ⟨k,t,rfl,g⟩:=hrel;by_cases c:k<l.length
  ·obtain ⟨b,q,rfl,o⟩:=n k c
   have f:=o k c;clear n o;by_cases d:x=l[k]
   ·have m:(l[k] == x)=true:=by simp [d]
    have p:=Z0 ((by simp [Z2e,d]:Z2e x l=true));clear d;generalize l[k]=y at f m;go_wp2;go_ret;exact ⟨by rw [p.out];rfl,rfl⟩
   ·have m:(l[k] == x)=false:=by simpa using λh:l[k]=x=>d h.symm
    have j:=Z5r g c d;clear d g;generalize l[k]=y at f m;go_wp2;go_round
    case rel=>exact ⟨k+1,by omega,by go_num,j⟩
    case measure=>simp [B0];omega
  ·go_wp2
   go_ret;exact ⟨by rw [List.take_of_length_le (by omega)] at g;simp [Z2e,g],rfl⟩
def majB (n sz:Int):Bool:=decide (sz / 2<n)
theorem Z18 (n sz:Int)(b:0<=sz)(a:sz<=7)(w:Ag):Ar Ad 112 #[Aa O n,Aa O sz] w λe w'=>e=Aj (.bool (majB n sz))/\w'=w:=by
 go_enter func112,ntmps112;go_wp2
 all_goals go_ret
 all_goals exact ⟨rfl,rfl⟩
theorem Z1c (n sz:Int)(a:sz%2=1)(c:0<=n)(b:n<=1099511627776)(w:Ag):Ar Ad 100 #[Aa O n,Aa O sz] w λe w'=>e=Aj (.bool (majB n sz))/\w'=w:=by
 go_enter func100,ntmps100;go_wp2
 all_goals go_ret
 all_goals refine ⟨?_,rfl⟩
 all_goals
  show Ending.returned (.bool (decide (sz<2*n)))=_;unfold majB;congr 2;apply decide_eq_decide.2;omega
section
structure Ent where
 t:Int
 cl:Int
 sq:Int
 op:Int
 k:ByteArray
 v:ByteArray
 o:ByteArray
def Ent.fits (e:Ent):Prop:=e.k.size<=maxLen/\e.v.size<=maxLen/\e.o.size<=maxLen
def Ja (w:Ag)(b off:Nat)(e:Ent):Prop:=
 w.cell? ⟨b,off,Ab⟩=Ac (Aa O e.t)/\w.cell? ⟨b,off+1,Ab⟩=Ac (Aa O e.cl)/\w.cell? ⟨b,off+2,Ab⟩=Ac (Aa O e.sq)/\w.cell? ⟨b,off+3,Ab⟩=Ac (Aa O e.op) /\
 w.cell? ⟨b,off+4,Ab⟩=Ac (Az e.k)/\w.cell? ⟨b,off+5,Ab⟩=Ac (Az e.v)/\w.cell? ⟨b,off+6,Ab⟩=Ac (Az e.o)
variable {w w':Ag}
theorem Ja.below {b d:Nat}{e:Ent}(h:Ja w b d e)(a:Ai w.heap.size w w'):Ja w' b d e:=by
 obtain ⟨f,j,k,i,n,g,m⟩:=h;have c:=Xp f;exact ⟨(a.cell c).trans f,(a.cell c).trans j,(a.cell c).trans k,(a.cell c).trans i,(a.cell c).trans n,(a.cell c).trans g,(a.cell c).trans m⟩
def Es (w:Ag)(v:Af)(l:List Ent):Prop:=
 l.length<=maxLen/\(∀ e∈l,e.fits) /\
 ∃ a cap,v=I a l.length cap/\∀ i,i<l.length->∃ b off,a=Ac ⟨b,off,Ab⟩/\∀ j (h:j<l.length),Ja w b (off+j*7) l[j]
variable {l:List Ent}
theorem Es.below {v:Af}(h:Es w v l)(e:Ai w.heap.size w w'):Es w' v l:=by
 obtain ⟨f,k,a,cap,rfl,d⟩:=h;refine ⟨f,k,a,cap,rfl,λi hi=>?_⟩;obtain ⟨b,c,rfl,g⟩:=d i hi;exact ⟨b,c,rfl,λj hj'=>(g j hj').below e⟩
theorem Es.block {g n cap:Nat}(h:Es w (I (Ac ⟨g,0,Ab⟩) n cap) l)(v:w'.heap[g]? = w.heap[g]?):Es w' (I (Ac ⟨g,0,Ab⟩) n cap) l:=by
 obtain ⟨s,m,a,d,e,t⟩:=h;refine ⟨s,m,a,d,e,λi hi=>?_⟩;obtain ⟨b,q,rfl,z⟩:=t i hi;simp only [Value.slice.injEq,Bf,Addr.mk.injEq,and_true] at e;obtain ⟨⟨rfl,rfl⟩,_⟩:=e;have c:∀ o,w'.cell? ⟨g,o,Ab⟩=w.cell? ⟨g,o,Ab⟩:=λo=>World.cell?_of_block (w:=w) v
 refine ⟨g,0,rfl,λj hj'=>?_⟩;obtain ⟨k,r,f,x,u,p,y⟩:=z j hj';exact ⟨(c _).trans k,(c _).trans r,(c _).trans f,(c _).trans x,(c _).trans u,(c _).trans p,(c _).trans y⟩
end
def inB (n lo hi:Int):Bool:=decide (lo<=n) && decide (n<=hi)
theorem Zj (n lo hi:Int):inB n lo hi=true↔lo<=n/\n<=hi:=by simp [inB]
theorem Z4i (n lo hi:Int):inB n lo hi=false↔(n<lo∨hi<n):=by
 by_cases a:lo<=n <;> by_cases b:n<=hi <;> simp [inB,a,b] <;> omega
theorem Yh (n lo hi:Int)(w:Ag) :
  Ar Ad 70 #[Aa O n,Aa O lo,Aa O hi] w λe w'=>e=Aj (.bool (inB n lo hi))/\w'=w:=by
 by_cases b:lo<=n
 ·by_cases c:n<=hi
  ·have a:inB n lo hi=true:=by simp [inB,b,c]
   rw [a];go_enter func70,ntmps70;go_wp2;go_ret;exact ⟨rfl,rfl⟩
  ·have a:inB n lo hi=false:=by simp [inB,b];omega
   rw [a];go_enter func70,ntmps70;go_wp2;go_ret;exact ⟨by simp,rfl⟩
 ·have a:inB n lo hi=false:=by simp [inB];omega
  rw [a];go_enter func70,ntmps70;go_wp2;go_ret;exact ⟨rfl,rfl⟩
def Z1w (most:Int):Int->List Int->Bool
 | _,[]=>true
 | last,x :: l=>inB x (last+1) most && Z1w most x l
theorem riseB_drop (a b:Int)(l:List Int)(k:Nat)(h:k<l.length):Z1w a b (l.drop k)=(inB l[k] (b+1) a && Z1w a l[k] (l.drop (k+1))):=by
 rw [List.drop_eq_getElem_cons h];rfl
theorem Z7i (v:Af)(l:List Int)(c:Int)(w:Ag)(hv:Ix w v l)(hm:0<=c)(r:c<=1048576) :
  Ar Ad 110 #[v,Aa O c] w λe w'=>e=Aj (.bool (Z1w c 0 l))/\w'=w:=by
 obtain ⟨s,a,cap,rfl,o⟩:=hv;unfold maxLen at s;go_enter func110,ntmps110;go_wp2
 go_loopw [5,10] (λt i wr=>∃(k:Nat) (x:Int),k<=l.length/\i=Aa O k/\t=Aa O x/\0<=x/\x<=c/\Z1w c 0 l=Z1w c x (l.drop k)/\wr=w) (λ_ i _=>l.length-(B0 i).toNat)
 case atStart=>exact ⟨0,0,Bb _,rfl,rfl,by omega,by omega,by simp,rfl⟩
 case round=>
  obtain ⟨k,x,hk,rfl,rfl,hx,aa,n,f⟩:=hrel;obtain rfl:=f.symm;have m:=Z0 n;clear n f;by_cases d:k<l.length
  ·obtain ⟨b,q,rfl,p⟩:=o k d
   have u:=p k d;have h:=Z0 (riseB_drop c x l k d);clear o p;generalize l[k]=y at *;cases g:inB y (x+1) c
   ·rw [g] at h
    go_wp2_with (go_at_call 70;refine (Yh _ _ _ _).mono ?_;rintro e w1 ⟨rfl,j⟩;obtain rfl:=j.symm;rw [g])
    go_ret;exact ⟨by rw [m.out,h.out];rfl,rfl⟩
   ·rw [g] at h
    have z:=(Zj _ _ _).1 g
    go_wp2_with (go_at_call 70;refine (Yh _ _ _ _).mono ?_;rintro e w1 ⟨rfl,j⟩;obtain rfl:=j.symm;rw [g])
    go_roundw
    case rel=>exact ⟨k+1,y,by omega,by go_num,rfl,by omega,by omega,by rw [m.out,h.out];rfl,trivial⟩
    case measure=>simp [B0];omega
  ·have hd:l.drop k = []:=List.drop_of_length_le (by omega)
   go_wp2;go_ret;exact ⟨by rw [m.out,hd];rfl,rfl⟩
theorem Y2 (n lo hi:Int)(w:Ag) :
  Ar Ad 56 #[Aa O n,Aa O lo,Aa O hi] w λe w'=>e=Aj (.bool (inB n lo hi))/\w'=w:=by
 by_cases b:lo<=n
 ·by_cases c:n<=hi
  ·have a:inB n lo hi=true:=by simp [inB,b,c]
   rw [a];go_enter func56,ntmps56;go_wp2;go_ret;exact ⟨rfl,rfl⟩
  ·have a:inB n lo hi=false:=by simp [inB,b];omega
   rw [a];go_enter func56,ntmps56;go_wp2;go_ret;exact ⟨by simp,rfl⟩
 ·have a:inB n lo hi=false:=by simp [inB];omega
  rw [a];go_enter func56,ntmps56;go_wp2;go_ret;exact ⟨rfl,rfl⟩
def sizB (n:Int):Bool:=n == 3 || n == 5 || n == 7
theorem Z1p (n:Int)(w:Ag):Ar Ad 108 #[Aa O n] w λe w'=>e=Aj (.bool (sizB n))/\w'=w:=by
 by_cases a:n=3
 ·subst a
  go_enter func108,ntmps108;go_wp2;go_ret;exact ⟨rfl,rfl⟩
 ·by_cases b:n=5
  ·subst b
   go_enter func108,ntmps108;go_wp2;go_ret;exact ⟨rfl,rfl⟩
  ·go_enter func108,ntmps108
   go_wp2;go_ret;exact ⟨by simp [sizB,a,b],rfl⟩
theorem Z3h (n:Int)(w:Ag):Ar Ad 98 #[Aa O n] w λe w'=>e=Aj (.bool (sizB n))/\w'=w:=by
 by_cases a:n=3
 ·subst a
  go_enter func98,ntmps98;go_wp2;go_ret;exact ⟨rfl,rfl⟩
 ·by_cases b:n=5
  ·subst b
   go_enter func98,ntmps98;go_wp2;go_ret;exact ⟨rfl,rfl⟩
  ·go_enter func98,ntmps98
   go_wp2;go_ret;exact ⟨by simp [sizB,a,b],rfl⟩
def Yp (id sz el bt:Int):Bool:=sizB sz && (inB id 1 sz && (inB el 2 1000 && inB bt 1 el))
theorem placeFits_any (id sz el bt:Int)(w:Ag):Ar Ad 66 #[Aa O id,Aa O sz,Aa O el,Aa O bt] w λe w'=>e=Aj (.bool (Yp id sz el bt))/\w'=w:=by
 have g1:True:=trivial;have g:True:=trivial;cases c:sizB sz
 ·have e:Yp id sz el bt=false:=by simp [Yp,c]
  rw [e];go_enter func66,ntmps66
  go_wp2_with (go_at_call 108;refine (Z1p _ _).mono ?_;rintro e b ⟨rfl,a⟩;obtain rfl:=a.symm;rw [c])
  go_ret;exact ⟨rfl,rfl⟩
 ·cases d:inB id 1 sz
  ·have e:Yp id sz el bt=false:=by simp [Yp,d]
   rw [e];go_enter func66,ntmps66
   go_wp2_with (first
    |(go_at_call 108;refine (Z1p _ _).mono ?_;rintro e b ⟨rfl,a⟩;obtain rfl:=a.symm;rw [c])
    |(go_at_call 70;clear g1;refine (Yh id 1 sz _).mono ?_;rintro e b ⟨rfl,a⟩;obtain rfl:=a.symm;rw [d]))
   go_ret;exact ⟨rfl,rfl⟩
  ·cases f:inB el 2 1000
   ·have e:Yp id sz el bt=false:=by simp [Yp,f]
    rw [e];go_enter func66,ntmps66
    go_wp2_with (first
     |(go_at_call 108;refine (Z1p _ _).mono ?_;rintro e b ⟨rfl,a⟩;obtain rfl:=a.symm;rw [c])
     |(go_at_call 70;clear g1;refine (Yh id 1 sz _).mono ?_;rintro e b ⟨rfl,a⟩;obtain rfl:=a.symm;rw [d])
     |(go_at_call 70;clear g;refine (Yh el 2 _ _).mono ?_;rintro e b ⟨rfl,a⟩;obtain rfl:=a.symm;rw [f]))
    go_ret;exact ⟨rfl,rfl⟩
   ·have e:Yp id sz el bt=inB bt 1 el:=by simp [Yp,c,d,f]
    rw [e];go_enter func66,ntmps66
    go_wp2_with (first
     |(go_at_call 108;refine (Z1p _ _).mono ?_;rintro e b ⟨rfl,a⟩;obtain rfl:=a.symm;rw [c])
     |(go_at_call 70;clear g1;refine (Yh id 1 sz _).mono ?_;rintro e b ⟨rfl,a⟩;obtain rfl:=a.symm;rw [d])
     |(go_at_call 70;clear g;refine (Yh el 2 _ _).mono ?_;rintro e b ⟨rfl,a⟩;obtain rfl:=a.symm;rw [f])
     |(go_at_call 70;refine (Yh bt 1 el _).mono ?_;rintro e b ⟨rfl,a⟩;obtain rfl:=a.symm))
    go_ret;exact ⟨rfl,rfl⟩
theorem Z1b (id sz el bt:Int)(w:Ag):Ar Ad 58 #[Aa O id,Aa O sz,Aa O el,Aa O bt] w λe w'=>e=Aj (.bool (Yp id sz el bt))/\w'=w:=by
 have g1:True:=trivial;have g:True:=trivial;cases c:sizB sz
 ·have e:Yp id sz el bt=false:=by simp [Yp,c]
  rw [e];go_enter func58,ntmps58
  go_wp2_with (go_at_call 98;refine (Z3h _ _).mono ?_;rintro e b ⟨rfl,a⟩;obtain rfl:=a.symm;rw [c])
  go_ret;exact ⟨rfl,rfl⟩
 ·cases d:inB id 1 sz
  ·have e:Yp id sz el bt=false:=by simp [Yp,d]
   rw [e];go_enter func58,ntmps58
   go_wp2_with (first
    |(go_at_call 98;refine (Z3h _ _).mono ?_;rintro e b ⟨rfl,a⟩;obtain rfl:=a.symm;rw [c])
    |(go_at_call 56;clear g1;refine (Y2 id 1 sz _).mono ?_;rintro e b ⟨rfl,a⟩;obtain rfl:=a.symm;rw [d]))
   go_ret;exact ⟨rfl,rfl⟩
  ·cases f:inB el 2 1000
   ·have e:Yp id sz el bt=false:=by simp [Yp,f]
    rw [e];go_enter func58,ntmps58
    go_wp2_with (first
     |(go_at_call 98;refine (Z3h _ _).mono ?_;rintro e b ⟨rfl,a⟩;obtain rfl:=a.symm;rw [c])
     |(go_at_call 56;clear g1;refine (Y2 id 1 sz _).mono ?_;rintro e b ⟨rfl,a⟩;obtain rfl:=a.symm;rw [d])
     |(go_at_call 56;clear g;refine (Y2 el 2 _ _).mono ?_;rintro e b ⟨rfl,a⟩;obtain rfl:=a.symm;rw [f]))
    go_ret;exact ⟨rfl,rfl⟩
   ·have e:Yp id sz el bt=inB bt 1 el:=by simp [Yp,c,d,f]
    rw [e];go_enter func58,ntmps58
    go_wp2_with (first
     |(go_at_call 98;refine (Z3h _ _).mono ?_;rintro e b ⟨rfl,a⟩;obtain rfl:=a.symm;rw [c])
     |(go_at_call 56;clear g1;refine (Y2 id 1 sz _).mono ?_;rintro e b ⟨rfl,a⟩;obtain rfl:=a.symm;rw [d])
     |(go_at_call 56;clear g;refine (Y2 el 2 _ _).mono ?_;rintro e b ⟨rfl,a⟩;obtain rfl:=a.symm;rw [f])
     |(go_at_call 56;refine (Y2 bt 1 el _).mono ?_;rintro e b ⟨rfl,a⟩;obtain rfl:=a.symm))
    go_ret;exact ⟨rfl,rfl⟩
def Z1z (sz tm vo:Int):Bool:=inB tm 0 1073741824 && (inB vo 0 sz && (vo == 0 || decide (0<tm)))
def Xr (el nw dl hd:Int):Bool:=inB nw 0 1099511627776 && (inB dl 0 (nw+2*el) && inB hd 0 nw)
def Blk (w:Ag)(b:Nat)(C:Array Af)(t:Ax):Prop:=w.heap[b]? = Ac (At C t (0,0))
section
variable {w w':Ag} {b:Nat} {C:Array Af} {t:Ax}
theorem Blk.cell (h:Blk w b C t)(j:Nat):w.cell? ⟨b,j,Ab⟩=C[j]?:=cell_of_row w b j C t _ h
theorem Blk.free (h:Blk w b C t)(j:Nat):w.frozen? ⟨b,j,Ab⟩=false:=by
 have:w.heap[b]? = Ac (At C t (0,0)):=h;simp [World.frozen?,this]
theorem Blk.lt (h:Blk w b C t):b<w.heap.size:=(Array.getElem?_eq_some_iff.1 h).1
theorem Blk.new (w:Ag)(C:Array Af)(t:Ax):Blk (w.alloc (At C t)) w.heap.size C t:=heap_alloc_last w _
variable {k:Nat}
theorem Blk.new' (w:Ag)(C:Array Af)(t:Ax)(c:k=w.heap.size:=by simp):Blk (w.alloc (At C t)) k C t:=by subst c;exact Blk.new w C t
theorem Blk.alloc (h:Blk w b C t)(o:Obj):Blk (w.alloc o) b C t:=(Below.heap_alloc w o b h.lt).trans h
variable {B:Nat}
theorem Blk.below (h:Blk w b C t)(d:Ai B w w')(c:b<B:=by omega):Blk w' b C t:=(d.block b c).trans h
theorem Blk.keep (h:Blk w b C t)(c:w'.heap[b]? = w.heap[b]?):Blk w' b C t:=c.trans h
theorem Blk.drew (h:Blk w b C t):Blk w.drew b C t:=h
theorem Blk.set_other (h:Blk w b C t){p:B4}(v:Af)(c:b≠p.block):Blk (w.setCell p v) b C t:=(Ak w p v b c).trans h
theorem Blk.set (h:Blk w b C t)(j:Nat)(v:Af):Blk (w.setCell ⟨b,j,Ab⟩ v) b (C.setIfInBounds j v) t:=by
 unfold Blk;rw [setCell_eq_setRow w b j C t (0,0) v h];exact setRow_heap w b C _ t _ h
theorem Blk.row (h:Blk w b C t)(C':Array Af):Blk (w.setRow b C') b C' t:=setRow_heap w b C C' t _ h
theorem Blk.row_other (h:Blk w b C t)(C':Array Af)(c:b≠k):Blk (w.setRow k C') b C t:=(setRow_other w k b C' c).trans h
theorem Blk.range (h:Blk w b C t):w.rangeAt b 0 C.toList:=λj v hv=>by
 rw [Nat.zero_add,h.cell j,<-hv];simp
theorem Blk.there (h:Blk w b C t):w.there b 0 C.size:=λj hj=>by
 rw [Nat.zero_add];refine ⟨?_,h.free j⟩;rw [h.cell j,Bo hj];rfl
theorem Yz {a:Ag}(h:Ai B a w)(c:B<=k)(C':Array Af):Ai B a (w.setRow k C'):=h.trans ⟨rfl,rfl,rfl,by simp [World.setRow],λi hi=>setRow_other w k i C' (by omega)⟩
end
section
variable {P:Program} {ops:Array Oper} {rest:List Oper} {o:Oper} {a:Bn} {w:Ag} {Q:Ca->Bn->Ag->Prop}
theorem Zd (ty:Ax)(x:Operand)(c:o.op=.load ty x)(h:wpList P ops Q (o :: rest) a w):wpList P ops Q (o :: rest) a w:=h
theorem Zn (ty:Ax)(x y:Operand)(c:o.op=.store ty x y)(h:wpList P ops Q (o :: rest) a w):wpList P ops Q (o :: rest) a w:=h
variable {C:Array Af}{n:Nat}
theorem Z7 (c:o.guard=Ab)(ty:Ax)(x:Operand)(g:o.op=.load ty x)(b:Nat)(f:a.eval x=Ae (Ac ⟨b,0,Ab⟩)){t:Ax}(i:Blk w b C t)
  {d:TypeDesc} (e:P.underlying ty=Ac d) (hd:d.isRow=true)  (hi:(P.info? ty).map (·.size)=Ac n) (j:n=C.size)
  (h:wpList P ops Q rest (a.put o.dst (Aw C)) w):wpList P ops Q (o :: rest) a w:=
 wpList_load_mid c ty x g b 0 f C.toList d i.range e hd (by rw [hi,j];simp) h
variable {K:Bn->Ag->Prop}{C':Array Af}
theorem Z0a (ty:Ax)(x y:Operand)(e:o.op=.store ty x y)(b:Nat)(c:a.eval x=Ae (Ac ⟨b,0,Ab⟩))(i:a.eval y=Aw C')
  {t:Ax} (f:Blk w b C t)  (hi:(P.info? ty).map (·.size)=Ac n) (j:n=C'.size) (d:C.size=C'.size) (g:C'.all (·.oneCell')=true)
  (h:K (a.put o.dst undef) (w.setRow b C')):o.wp P a w K Q:=by
 unfold Oper.wp execOp;simp only [e,c,i,Instr.storeAt,Instr.sureAddr,Sem.run_bind,Sem.run_pure,Result.andThen_ok,run_storeVar_row w b t ty C C' f (by rw [hi,j]) d g];exact h
theorem Z71 (ty:Ax)(x:Operand)(f:o.op=.load ty x)(b:Nat)(e:a.eval x=Ae (Ac ⟨b,0,Ab⟩)){t:Ax}(g:Blk w b C t)
  {d:TypeDesc} (c:P.underlying ty=Ac d) (hd:d.isRow=true)  (hi:(P.info? ty).map (·.size)=Ac n) (i:n=C.size)
  (h:K (a.put o.dst (Aw C)) w):o.wp P a w K Q:=
 wp_load_mid ty x f b 0 e C.toList d g.range c hd (by rw [hi,i];simp) h
theorem Zg (c:o.guard=Ab)(ty:Ax)(x y:Operand)(f:o.op=.store ty x y)(b:Nat)(d:a.eval x=Ae (Ac ⟨b,0,Ab⟩))(j:a.eval y=Aw C')
  {t:Ax} (g:Blk w b C t)  (hi:(P.info? ty).map (·.size)=Ac n) (l:n=C'.size) (e:C.size=C'.size) (i:C'.all (·.oneCell')=true)
  (h:wpList P ops Q rest (a.put o.dst undef) (w.setRow b C')):wpList P ops Q (o :: rest) a w:=
 wpList_plain c λK hK=>by
  unfold Oper.wp execOp;simp only [f,d,j,Instr.storeAt,Instr.sureAddr,Sem.run_bind,Sem.run_pure,Result.andThen_ok,run_storeVar_row w b t ty C C' g (by rw [hi,l]) e i];exact hK _ _ h
theorem Zt {c d:Array Af}{t:Ax}(e:o.guard=Ab)(ty:Ax)(x y:Operand)(i:o.op=.store ty x y)(k:Nat)(f:a.eval x=Ae (Ac ⟨k,0,Ab⟩))(j:k=w.heap.size)(m:a.eval y=Aw d)
   (hi:(P.info? ty).map (·.size)=Ac n) (p:n=d.size) (g:c.size=d.size) (l:d.all (·.oneCell')=true)
  (h:wpList P ops Q rest (a.put o.dst undef) (w.alloc (At d t))):wpList P ops Q (o :: rest) a (w.alloc (At c t)):=by
 subst j;refine Zg e ty x y i _ f m (Blk.new _ _ _) hi p g l ?_;rw [World.setRow_alloc_new];exact h
end
theorem Zl {c:Func}{s:Tmp}{ty:Ax}{tmps:Array Af}{b:Nat}{w:Ag}{C:Array Af}{t:Ax}(i:c.results=#[.cell s ty])(f:tmps.getD s undef=Ae (Ac ⟨b,0,Ab⟩))
  (l:Blk w b C t) {d:TypeDesc} (h:Tryz.prog.underlying ty=Ac d) (hd:d.isRow=true) {n:Nat} (hi:(Tryz.prog.info? ty).map (·.size)=Ac n) (g:n=C.size):(results c tmps).run Ad w=.ok (Aw C) w:=by
 have e:tmps[s]?.getD undef=Ae (Ac ⟨b,0,Ab⟩):=by rw [<-f];simp
 have j:=run_loadVar_mid (P:=Ad) w b 0 ty C.toList d l.range h hd (by rw [hi,g];simp);simp [results,i,e,j,asAddr]
theorem riseB_len (a:Int):∀(l:List Int) (last:Int),Z1w a last l=true->last<=a->(l.length:Int)<=a-last
 | [],last,_,h=>by simp;omega
 | x :: l,last,h,hm=>by
  simp only [Z1w,Al,Zj] at h;have:=riseB_len a l x h.2 h.1.2;simp only [List.length_cons];omega
def Jo (ro sz id:Int)(l:List Int):Bool:=if ro≠1/\ro≠2 then (l.length:Int) == 0 else Z1w sz 0 l && (Z2e id l && !majB l.length sz)
theorem Z8s (i0 i1 i2 i3 i4 i5 i6 i7 i8 i9 au ax:Int)(a12 a13 a14 a15 a16 a17:Option B4)(y z g i f h:Nat)(a0:List Ent)(ay d a b c:List Int)(w:Ag)(k:Nat)(aq:Ix w (I a14 d.length g) d)(ao:Ix w (I a15 a.length i) a)(az:Ix w (I a16 b.length f) b)(av:Ix w (I a17 c.length h) c)(ac:k<d.length)(ak:k<a.length)(ag:k<b.length)(al:k<c.length)(hk:k<1000):Ar Ad 82 #[Aw (nqN i0 i1 i2 i3 i4 i5 i6 i7 i8 i9 au ax (I a12 a0.length y) (I a13 ay.length z) (I a14 d.length g) (I a15 a.length i) (I a16 b.length f) (I a17 c.length h)),Aa O ((k:Int)+1)] w λe w'=>e=Aj (Aw #[Aa O d[k],Aa O a[k],Aa O b[k],Aa O c[k]])/\Ai w.heap.size w w':=by
 obtain ⟨an,bd,be,ae,r⟩:=aq;injection ae with f14 _ g14;subst f14 g14;unfold maxLen at an;obtain ⟨af,m,rfl,t⟩:=r k ac;have c14:=t k ac;have bg:=Xp c14;have a2:(k:Int)<(d.length:Int):=by omega
 obtain ⟨am,bb,a3,ah,p⟩:=ao;injection ah with f15 _ g15;subst f15 g15;unfold maxLen at am;obtain ⟨aa,n,rfl,q⟩:=p k ak;have c15:=q k ak;have a7:=Xp c15;have a1:(k:Int)<(a.length:Int):=by omega
 obtain ⟨ar,ba,a9,aj,u⟩:=az;injection aj with f16 _ g16;subst f16 g16;unfold maxLen at ar;obtain ⟨ab,l,rfl,o⟩:=u k ag;have c16:=o k ag;have bc:=Xp c16;have a6:(k:Int)<(b.length:Int):=by omega
 obtain ⟨aw,bh,a5,ad,s⟩:=av;injection ad with f17 _ g17;subst f17 g17;unfold maxLen at aw;obtain ⟨ai,j,rfl,x⟩:=s k al;have c17:=x k al;have bi:=Xp c17;have a4:(k:Int)<(c.length:Int):=by omega
 clear r t p q u o s x;generalize d[k]=v14 at *;generalize a[k]=v15 at *;generalize b[k]=v16 at *;generalize c[k]=v17 at *;generalize hid:(k:Int)+1=id;have bj:IntKind.i64.wrap (id-1)=(k:Int):=wry
 clear hid;have a8:(0:Int)<=(k:Int):=by omega
 go_enter func82,ntmps82;go_wp2
 go_region_held3 (λw'=>w'.cell? ⟨w.heap.size,14,Ab⟩=Ac (I (Ac ⟨af,m,Ab⟩) d.length g)/\w'.cell? ⟨w.heap.size,15,Ab⟩=Ac (I (Ac ⟨aa,n,Ab⟩) a.length i)/\w'.cell? ⟨w.heap.size,16,Ab⟩=Ac (I (Ac ⟨ab,l,Ab⟩) b.length f)/\w'.cell? ⟨w.heap.size,17,Ab⟩=Ac (I (Ac ⟨ai,j,Ab⟩) c.length h)/\w'.cell? ⟨af,m+k,Ab⟩=Ac (Aa O v14)/\w'.cell? ⟨aa,n+k,Ab⟩=Ac (Aa O v15)/\w'.cell? ⟨ab,l+k,Ab⟩=Ac (Aa O v16)/\w'.cell? ⟨ai,j+k,Ab⟩=Ac (Aa O v17)) (simp [*,go_sem]) (first | fail)
 go_wp2;exact A8 (v:=.agg _) (by simp [results,results82,go_sem]) rfl ⟨rfl,(baq.alloc (by simp) _).drew⟩
def Z0y (id nid ln nw a b c d:Int):Bool:=if id=nid then a == 0 && (b == 0 && (c == 0 && d == 0)) else inB a 1 (ln+1) && (inB b 0 (a-1) && (inB c 0 nw && inB d 0 nw))
theorem Z5j:(Tryz.prog.info? 36).map (·.size)=Ac 18:=by kernel_rfl
theorem eqProg_run (d:Nat)(e b c a:Int)(w:Ag):(Op.equalIn (d+2) 124 (Aw #[Aa O e,Aa O b,Aa O c,Aa O a]) (Aw #[Aa O 0,Aa O 0,Aa O 0,Aa O 0])).run Ad w=.ok (e == 0 && (b == 0 && (c == 0 && a == 0))) w:=by
 have k:=underlying3;have h:Tryz.prog.underlying 124=Ac (.struct (Tryz.prog.fieldsOf 124)):=by kernel_rfl
 rw [run_equalIn_agg w (d+1) 124 _ _ h (by kernel_rfl)];simp only [Program.fieldsOf,underlying124];go_simp;by_cases g:e=0 <;> by_cases i:b=0 <;> by_cases f:c=0 <;> by_cases j:a=0 <;> simp [g,i,f,j]
def lensB (sz:Int)(ns:List Nat):Bool:=ns.all λn=>(n:Int) == sz
def Z53 (id ln nw:Int)(l14 l15 l16 l17:List Int)(n k:Nat):Bool:=(List.range' k (n-k)).all λj=>Z0y ((j:Int)+1) id ln nw (l14.getD j 0) (l15.getD j 0) (l16.getD j 0) (l17.getD j 0)
def Jw (ro sz id ln nw:Int)(l14 l15 l16 l17:List Int):Bool:=
 lensB (if ro=3 then sz else 0) [l14.length,l15.length,l16.length,l17.length] && Z53 id ln nw l14 l15 l16 l17 (if ro=3 then sz else 0).toNat 0
theorem Xu (sz:Int)(a b c d:Nat):lensB sz [a,b,c,d]=true↔(a:Int)=sz/\(b:Int)=sz/\(c:Int)=sz/\(d:Int)=sz:=by simp [lensB]
def Z2o (id sz tm vo ro ld:Int):Bool:=
 inB ro 0 3 && (inB ld 0 sz && (if ro=1 then ld == 0 else if ro=2 then ld == 0 && (decide (0<tm) && vo == id) else if ro=3 then ld == id && (decide (0<tm) && vo == id) else !(ld == id)))
def limV (op:Int):Af:=
 if op=0 then Aw #[Aa O 0,Aa O 0,Aa O 0,Aa O 0,Aa O 0,Aa O 0]
 else Aw #[Aa O 1,Aa O 8,Aa O 1073741824,Aa O 64,Aa O (if op=2∨op=4 then 64 else 0),Aa O (if op=4 then 64 else 0)]
theorem limitsOf_any (op:Int)(w:Ag) :
  Ar Ad 178 #[Aa O op] w λe w'=>e=Aj (limV op)/\Ai w.heap.size w w':=by
 by_cases c:op=0
 ·subst c
  have e:limV 0=Aw #[Aa O 0,Aa O 0,Aa O 0,Aa O 0,Aa O 0,Aa O 0]:=rfl;rw [e];go_enter func178,ntmps178;go_wp2;exact A8 (v:=.agg _) (by simp [results,results178,go_sem]) rfl ⟨rfl,baq⟩
 by_cases a:op=2
 ·subst a
  have e:limV 2=Aw #[Aa O 1,Aa O 8,Aa O 1073741824,Aa O 64,Aa O 64,Aa O 0]:=rfl;rw [e];go_enter func178,ntmps178;go_wp2;exact A8 (v:=.agg _) (by simp [results,results178,go_sem]) rfl ⟨rfl,baq.alloc (by simp) _⟩
 by_cases b:op=4
 ·subst b
  have e:limV 4=Aw #[Aa O 1,Aa O 8,Aa O 1073741824,Aa O 64,Aa O 64,Aa O 64]:=rfl;rw [e];go_enter func178,ntmps178;go_wp2;exact A8 (v:=.agg _) (by simp [results,results178,go_sem]) rfl ⟨rfl,baq.alloc (by simp) _⟩
 ·have e:limV op=Aw #[Aa O 1,Aa O 8,Aa O 1073741824,Aa O 64,Aa O 0,Aa O 0]:=by simp [limV,c,a,b]
  rw [e];have f:(op == 2)=false:=by simpa using a
  have d:(op == 4)=false:=by simpa using b
  go_enter func178,ntmps178;go_wp2
  all_goals exact A8 (v:=.agg _) (by simp [results,results178,go_sem]) rfl ⟨rfl,baq.alloc (by simp) _⟩
def Z13 (cl sq op:Int)(k v o:Int):Int:=
 if op<0∨4<op then 1
 else if op=0 then (if cl≠0 then 2 else if sq≠0 then 3 else if k≠0 then 4 else if v≠0 then 5 else if o≠0 then 6 else 0)
 else if cl<1∨8<cl then 2 else if sq<1∨1073741824<sq then 3 else if k<1∨64<k then 4
 else if (if op=2∨op=4 then 64 else 0)<v then 5 else if (if op=4 then 64 else 0)<o then 6 else 0
def implF (cl sq op k v o l0 l1 l2 l3 l4 l5:Int):Int:=
 if inB op 0 4=false then 1 else if inB cl l0 l1=false then 2 else if inB sq l0 l2=false then 3 else if inB k l0 l3=false then 4 else if l4<v then 5 else if l5<o then 6 else 0
theorem Z8c (cl sq op:Int)(k v o:ByteArray)(l0 l1 c l3 l4 l5:Int)(a:limV op=Aw #[Aa O l0,Aa O l1,Aa O c,Aa O l3,Aa O l4,Aa O l5])
  (g:k.size<=maxLen) (i:v.size<=maxLen) (j:o.size<=maxLen) (w:Ag) :
  Ar Ad 144 #[Aw (cqN cl sq op k v o)] w λe w'=>
   e=Aj (Aa O (implF cl sq op k.size v.size o.size l0 l1 c l3 l4 l5))/\Ai w.heap.size w w':=by
 unfold maxLen at g i j;have d:=Z0 a;clear a;go_enter func144,ntmps144
 go_wp2_with (first
  |(go_at_call 178;refine (limitsOf_any _ _).mono ?_;rintro e l ⟨rfl,b⟩;rw [d.out];obtain ⟨h,f⟩:=Z1d b;have m:w.heap.size<l.heap.size:=(by have:=b.size;simp at this;omega))
  |(go_at_call 70;refine (Yh _ _ _ _).mono ?_;rintro e w' ⟨rfl,rfl⟩))
 all_goals go_ret
 all_goals refine ⟨J6 ?_,(baq.trans (b.mono (by simp))).alloc (by omega) _⟩
 all_goals (clear b h f d;go_light;simp_all [implF];try omega)
theorem implF_zero (cl sq k v o:Int)(a:0<=k)(b:0<=v)(c:0<=o):implF cl sq 0 k v o 0 0 0 0 0 0=Z13 cl sq 0 k v o:=by
 unfold implF Z13;simp only [Z4i];rw [if_neg (by omega:¬((0:Int)<0∨(4:Int)<0)),if_neg (by omega:¬((0:Int)<0∨(4:Int)<0)),if_pos trivial];exact ifc (by omega) rfl (ifc (by omega) rfl (ifc (by omega) rfl (ifc (by omega) rfl (ifc (by omega) rfl rfl))))
theorem implF_pos (cl sq op k v o:Int)(h:op≠0):implF cl sq op k v o 1 8 1073741824 64 (if op=2∨op=4 then 64 else 0) (if op=4 then 64 else 0)=Z13 cl sq op k v o:=by
 unfold implF Z13;simp only [Z4i];rw [if_neg h]
theorem Z08 (cl sq op:Int)(k v o:ByteArray)(a:k.size<=maxLen)(b:v.size<=maxLen)(c:o.size<=maxLen)(w:Ag) :
  Ar Ad 144 #[Aw (cqN cl sq op k v o)] w λe w'=>
   e=Aj (Aa O (Z13 cl sq op k.size v.size o.size))/\Ai w.heap.size w w':=by
 by_cases h:op=0
 ·subst h
  rw [<-implF_zero _ _ _ _ _ (Int.natCast_nonneg _) (Int.natCast_nonneg _) (Int.natCast_nonneg _)];exact Z8c cl sq 0 k v o 0 0 0 0 0 0 rfl a b c w
 ·rw [<-implF_pos _ _ _ _ _ _ h]
  exact Z8c cl sq op k v o _ _ _ _ _ _ (by simp [limV,h]) a b c w
theorem Z0f (cl sq op:Int)(k v o:ByteArray)(a:k.size<=maxLen)(b:v.size<=maxLen)(c:o.size<=maxLen)(w:Ag) :
  Ar Ad 125 #[Aw (cqN cl sq op k v o)] w λe w'=>
   e=Aj (Aa O (Z13 cl sq op k.size v.size o.size))/\Ai w.heap.size w w':=by
 unfold maxLen at a b c;go_enter func125,ntmps125;go_wp2
 all_goals go_ret
 all_goals refine ⟨J6 ?_,baq⟩
 all_goals go_light
 all_goals (try (simp only [beq_iff_eq,beq_eq_false_iff_ne,bne_iff_ne,bne_eq_false_iff_eq,ne_eq] at *))
 all_goals first | (exfalso;omega) | (unfold Z13;repeat (first | rfl | rw [if_pos (by omega)] | rw [ifo]))
theorem Yw {a b:Bool}(h:a=b):Ending.returned (.bool a)=Aj (.bool b):=by rw [h]
def entB (e:Ent):Bool:=inB e.t 1 1073741824 && (Z13 e.cl e.sq e.op e.k.size e.v.size e.o.size == 0)
theorem entryFits_any (e:Ent)(f:e.fits)(w:Ag) :
  Ar Ad 109 #[Aw (eqN e.t e.cl e.sq e.op e.k e.v e.o)] w λr w'=>r=Aj (.bool (entB e))/\Ai w.heap.size w w':=by
 obtain ⟨c,d,b⟩:=f;go_enter func109,ntmps109
 go_wp2_with (first
  |(go_at_call 70;refine (Yh _ _ _ _).mono ?_;rintro r w' ⟨rfl,rfl⟩)
  |(go_at_call 144;refine (Z08 _ _ _ _ _ _ c d b _).mono ?_;rintro r g ⟨rfl,a⟩))
 ·go_ret
  exact ⟨Yw (by go_light;simp_all [entB]),baq.trans (a.mono (by simp))⟩
 ·go_ret
  exact ⟨Yw (by go_light;simp_all [entB]),baq⟩
theorem Z70 (e:Ent)(j:e.fits)(w:Ag) :
  Ar Ad 97 #[Aw (eqN e.t e.cl e.sq e.op e.k e.v e.o)] w λr w'=>r=Aj (.bool (entB e))/\Ai w.heap.size w w':=by
 obtain ⟨d,f,c⟩:=j;by_cases h:1<=e.t
 ·by_cases g:e.t<=1073741824
  ·have a:=(Zj _ _ _).2 ⟨h,g⟩
   go_enter func97,ntmps97
   go_wp2_with (go_at_call 125;refine (Z0f _ _ _ _ _ _ d f c _).mono ?_;rintro r i ⟨rfl,b⟩)
   go_ret;exact ⟨Yw (by rw [entB,a];simp),baq.trans (b.mono (by simp))⟩
  ·have a:inB e.t 1 1073741824=false:=(Z4i _ _ _).2 (by omega)
   have hd:decide (e.t<=1073741824)=false:=by simpa using g
   go_enter func97,ntmps97
   go_wp2_with (go_at_call 125;refine (Z0f _ _ _ _ _ _ d f c _).mono ?_;rintro r i ⟨rfl,b⟩)
   go_ret;exact ⟨Yw (by rw [entB,a];simp),baq⟩
 ·have a:inB e.t 1 1073741824=false:=(Z4i _ _ _).2 (by omega)
  have hd:decide (1<=e.t)=false:=by simpa using h
  go_enter func97,ntmps97
  go_wp2_with (go_at_call 125;refine (Z0f _ _ _ _ _ _ d f c _).mono ?_;rintro r i ⟨rfl,b⟩)
  go_ret;exact ⟨Yw (by rw [entB,a];simp),baq⟩
def Jq (high:Int):Int->List Ent->Bool
 | _,[]=>true
 | low,e :: r=>entB e && inB e.t low high && Jq high e.t r
theorem fitL_drop (a low:Int)(l:List Ent)(k:Nat)(h:k<l.length):Jq a low (l.drop k)=(entB l[k] && inB l[k].t low a && Jq a l[k].t (l.drop (k+1))):=by
 rw [List.drop_eq_getElem_cons h];rfl
section
theorem Z3p (o:Af)(lt tm:Int)(l:List Ent)(w:Ag)(hv:Es w o l)(z:l.length<=1048576) :
  Ar Ad 69 #[o,Aa O lt,Aa O tm] w λr w'=>r=Aj (.bool (Jq tm lt l))/\Ai w.heap.size w w':=by
 obtain ⟨hl,y,a,cap,rfl,q⟩:=hv;go_enter func69,ntmps69;go_wp2
 go_loopw [1,11] (λt i wr=>∃(k:Nat) (x:Int),k<=l.length/\i=Aa O k/\t=Aa O x/\Jq tm lt l=Jq tm x (l.drop k)/\Ai w.heap.size w wr) (λ_ i _=>l.length-(B0 i).toNat)
 case atStart=>exact ⟨0,lt,Bb _,rfl,rfl,by simp,An _ _⟩
 case round=>
  obtain ⟨k,x,hk,rfl,rfl,g,d⟩:=hrel;have j:=Z0 g;have hz:=d.size;by_cases c:k<l.length
  ·obtain ⟨b,aa,rfl,p⟩:=q k c
   obtain ⟨c0,c1,c2,c3,c4,c5,c6⟩:=(p k c).below d;have n:=y l[k] (Bp c);have m:=Z0 (fitL_drop tm x l k c);generalize l[k]=e at *
   go_wp2_with (first
    |(go_at_call 109;refine (entryFits_any e n _).mono ?_;rintro r w1 ⟨rfl,f⟩;obtain ⟨v,s⟩:=Z1d f;have u:=(by have:=f.size;simp at this;omega))
    |(go_at_call 70;refine (Yh _ _ _ _).mono ?_;rintro r w' ⟨rfl,rfl⟩))
   ·go_ret
    exact ⟨Yw (by rw [j.out,m.out];go_light;simp_all),d.trans (((An _ _).alloc (by omega) _).trans (f.mono (by simp;omega)))⟩
   ·go_roundw
    case rel=>exact ⟨k+1,e.t,by omega,by go_num,rfl,by rw [j.out,m.out];go_light;simp_all,d.trans (((An _ _).alloc (by omega) _).trans (f.mono (by simp;omega)))⟩
    case measure=>simp [B0];omega
   ·go_ret
    exact ⟨Yw (by rw [j.out,m.out];go_light;simp_all),d.trans (((An _ _).alloc (by omega) _).trans (f.mono (by simp;omega)))⟩
  ·have hd:l.drop k = []:=List.drop_of_length_le (by omega)
   go_wp2;go_ret;exact ⟨Yw (by rw [j.out,hd];rfl),d⟩
variable {e:Ent}{low high:Int}
theorem Z6b (X:Bool)(h:entB e=false∨e.t<low∨high<e.t):(entB e && inB e.t low high && X)=false:=by
 rcases h with h | h
 ·rw [h];rfl
 ·rw [(Z4i _ _ _).2 h];simp
theorem fit_yes (X:Bool)(h:entB e=true)(a:low<=e.t)(b:e.t<=high):(entB e && inB e.t low high && X)=X:=by
 rw [h,(Zj _ _ _).2 ⟨a,b⟩];rfl
theorem prev_step (low:Int)(l:List Ent)(k:Nat)(h:k<l.length):(if k+1=0 then low else (l[k+1-1]?.map Ent.t).getD 0)=l[k].t:=by simp [h]
theorem Z21 (ev:Af)(low high:Int)(l:List Ent)(w:Ag)(hv:Es w ev l)(ac:l.length<=1048576) :
  Ar Ad 57 #[ev,Aa O low,Aa O high] w λr w'=>r=Aj (.bool (Jq high low l))/\Ai w.heap.size w w':=by
 obtain ⟨hl,hf,a,cap,rfl,y⟩:=hv;go_enter func57,ntmps57;go_wp2
 go_loopw [7] (λi wr=>∃ k:Nat,k<=l.length/\i=Aa O k/\Jq high low l=Jq high (if k=0 then low else (l[k-1]?.map Ent.t).getD 0) (l.drop k)/\Ai w.heap.size w wr) (λi _=>l.length-(B0 i).toNat)
 case atStart=>exact ⟨0,Bb _,rfl,by simp,An _ _⟩
 case round=>
  obtain ⟨k,hk,rfl,s,d⟩:=hrel;have f:=Z0 s;have n:=d.size;by_cases c:k<l.length
  ·obtain ⟨b,ad,rfl,u⟩:=y k c
   have q:=hf l[k] (Bp c);have o:∀ x,Hid (Jq high x (l.drop k)=(entB l[k] && inB l[k].t x high && Jq high l[k].t (l.drop (k+1)))):=λx=>fitL_drop high x l k c
   have HP:=Z0 (prev_step low l k c);by_cases h0:k=0
   ·subst h0
    obtain ⟨v,c1,c2,c3,c4,c5,c6⟩:=(u 0 c).below d;have m:(if (0:Nat)=0 then low else (l[0-1]?.map Ent.t).getD 0)=low:=rfl;rw [m] at f;simp only [Nat.zero_mul,Nat.add_zero] at v c1 c2 c3 c4 c5 c6;generalize l[0]=e at *
    go_wp2_with (go_at_call 97;refine (Z70 e q _).mono ?_;rintro r w1 ⟨rfl,h⟩;obtain ⟨z,aa⟩:=Z1d h;have ab:=Xp v)
    ·go_ret
     exact ⟨Yw (by rw [f.out,(o _).out,Z6b];go_light;cases p:entB e <;> simp_all <;> omega),d.trans (h.mono n)⟩
    ·go_ret
     exact ⟨Yw (by rw [f.out,(o _).out,Z6b];go_light;cases p:entB e <;> simp_all <;> omega),d.trans (h.mono n)⟩
    ·go_quiet (fail)
     go_wp2
     go_roundw
     case rel=>exact ⟨0+1,by omega,by go_num,by rw [f.out,(o _).out,HP.out,fit_yes] <;> (go_light;cases p:entB e <;> simp_all <;> omega),d.trans ((h.mono n).trans bdr)⟩
     case measure=>simp [B0];omega
    ·go_ret
     exact ⟨Yw (by rw [f.out,(o _).out,Z6b];go_light;cases p:entB e <;> simp_all <;> omega),d.trans (h.mono n)⟩
   ·obtain ⟨j,rfl⟩:∃ j,k=j+1:=⟨k-1,by omega⟩
    have hp:j<l.length:=by omega
    have g:=prev_step low l j hp;rw [g] at f;obtain ⟨v,c1,c2,c3,c4,c5,c6⟩:=(u (j+1) c).below d;obtain ⟨p0,_⟩:=(u j hp).below d;have ab:=Xp v;generalize l[j]=pe at *;generalize l[j+1]=e at *
    go_wp2_with (go_at_call 97;refine (Z70 e q _).mono ?_;rintro r w1 ⟨rfl,h⟩;obtain ⟨z,aa⟩:=Z1d h)
    ·go_ret
     exact ⟨Yw (by rw [f.out,(o _).out,Z6b];go_light;cases p:entB e <;> simp_all <;> omega),d.trans (h.mono n)⟩
    ·go_quiet (fail)
     go_wp2
     ·go_ret
      exact ⟨Yw (by rw [f.out,(o _).out,Z6b];go_light;cases p:entB e <;> simp_all <;> omega),d.trans ((h.mono n).trans bdr)⟩
     ·go_roundw
      case rel=>exact ⟨j+1+1,by omega,by go_num,by rw [f.out,(o _).out,HP.out,fit_yes] <;> (go_light;cases p:entB e <;> simp_all <;> omega),d.trans ((h.mono n).trans bdr)⟩
      case measure=>simp [B0];omega
    ·go_ret
     exact ⟨Yw (by rw [f.out,(o _).out,Z6b];go_light;cases p:entB e <;> simp_all <;> omega),d.trans (h.mono n)⟩
  ·have hd:l.drop k = []:=List.drop_of_length_le (by omega)
   go_wp2;go_ret;exact ⟨Yw (by rw [f.out,hd];rfl),d⟩
end
def Z4x (i0 i1 i2 i3 i4 i5 i6 i7 i8 i9 i10 i11:Int)(l12:List Ent)(l13 l14 l15 l16 l17:List Int):Int:=
 if Yp i0 i1 i2 i3=false then 1 else if Z1z i1 i4 i5=false then 2 else if Z2o i0 i1 i4 i5 i6 i7=false then 3
 else if (4096:Int)<l12.length then 4 else if Jq i4 1 l12=false then 4 else if inB i8 0 l12.length=false then 5 else if Xr i2 i9 i10 i11=false then 6
 else if Jo i6 i1 i0 l13=false then 7 else if Jw i6 i1 i0 l12.length i9 l14 l15 l16 l17=false then 8 else 0
theorem Z3k {id sz el bt:Int}(h:Yp id sz el bt=true):sizB sz=true/\(3<=sz/\sz<=7)/\(1<=id/\id<=sz)/\(2<=el/\el<=1000):=by
 simp only [Yp,Al,Zj] at h;have a:sz=3∨sz=5∨sz=7:=by simpa [sizB,or_assoc] using h.1
 exact ⟨h.1,by omega,h.2.1,h.2.2.1⟩
theorem tmod_lo (x n:Int)(a:0<n) : -n<x.tmod n:=Int.lt_tmod_of_pos x a
theorem tmod_hi (x n:Int)(a:0<n):x.tmod n<n:=Int.tmod_lt_of_pos x a
theorem tmod_neg (x n:Int)(b:0<n)(h:x.tmod n<0):x.tmod n+n=x%n:=by
 have e:=Int.tmod_add_mul_tdiv x n;have b1:=tmod_lo x n b;have a:x=(x.tmod n+n)+n*(x.tdiv n-1):=by rw [Int.mul_sub];omega
 have:x%n=((x.tmod n+n)+n*(x.tdiv n-1))%n:=by rw [<-a]
 rw [this,Int.add_mul_emod_self_left,Int.emod_eq_of_lt] <;> omega
theorem tmod_pos (x n:Int)(a:0<n)(h:¬ x.tmod n<0):x.tmod n=x%n:=by
 have e:=Int.tmod_add_mul_tdiv x n;have b:=tmod_hi x n a;have:x%n=(x.tmod n+n*x.tdiv n)%n:=by rw [e]
 rw [this,Int.add_mul_emod_self_left,Int.emod_eq_of_lt] <;> omega
def modI (x n:Int):Int:=x%n
theorem modI_ge (x n:Int)(a:0<n):0<=modI x n:=Int.emod_nonneg _ (by omega)
theorem modI_lt (x n:Int)(a:0<n):modI x n<n:=Int.emod_lt_of_pos _ a
theorem mod_any (x n:Int)(a:0<n)(f:n<2^62)(c : -(2^63)<=x)(g:x<2^63)(w:Ag) :
  Ar Ad 195 #[Aa O x,Aa O n] w λe w'=>e=Aj (Aa O (modI x n))/\w'=w:=by
 have b1:=tmod_lo x n a;by_cases h:x.tmod n<0
 ·have b:=tmod_neg x n a h
  unfold modI;rw [<-b];go_enter func195,ntmps195;go_wp2;go_ret;exact ⟨by simp;omega,rfl⟩
 ·have b:=tmod_pos x n a h
  unfold modI;rw [<-b];go_enter func195,ntmps195;go_wp2;go_ret;exact ⟨by simp,rfl⟩
theorem l1mod_any (x n:Int)(a:0<n)(f:n<2^62)(c : -(2^63)<=x)(g:x<2^63)(w:Ag) :
  Ar Ad 141 #[Aa O x,Aa O n] w λe w'=>e=Aj (Aa O (modI x n))/\w'=w:=by
 have b1:=tmod_lo x n a;by_cases h:x.tmod n<0
 ·have b:=tmod_neg x n a h
  unfold modI;rw [<-b];go_enter func141,ntmps141;go_wp2;go_ret;exact ⟨by simp;omega,rfl⟩
 ·have b:=tmod_pos x n a h
  unfold modI;rw [<-b];go_enter func141,ntmps141;go_wp2;go_ret;exact ⟨by simp,rfl⟩
section
def Jf (el dr:Int):Int:=if inB el 1 1000=true then el+modI dr el else 0
variable {el:Int}
theorem toutC_in (dr:Int)(h:inB el 1 1000=true):Jf el dr=el+modI dr el:=by unfold Jf;rw [if_pos h]
theorem toutC_out (dr:Int)(h:inB el 1 1000=false):Jf el dr=0:=by unfold Jf;rw [h];rfl
theorem timeoutOf_any (el dr:Int)(b : -(2^63)<=dr)(c:dr<2^63)(w:Ag) :
  Ar Ad 179 #[Aa O el,Aa O dr] w λe w'=>e=Aj (Aa O (Jf el dr))/\w'=w:=by
 cases hi:inB el 1 1000
 ·rw [toutC_out dr hi]
  go_enter func179,ntmps179
  go_wp2_with (go_at_call 70;refine (Yh _ _ _ _).mono ?_;rintro e a ⟨rfl,rfl⟩)
  go_ret;exact ⟨rfl,rfl⟩
 ·rw [toutC_in dr hi]
  have g:=(Zj _ _ _).mp hi;have f:=modI_ge dr el (by omega);have d:=modI_lt dr el (by omega);go_enter func179,ntmps179
  go_wp2_with (first
   |(go_at_call 70;refine (Yh _ _ _ _).mono ?_;rintro e a ⟨rfl,rfl⟩)
   |(go_at_call 195;refine (mod_any dr el (by omega) (by omega) b c _).mono ?_;rintro e a ⟨rfl,rfl⟩))
  go_ret;exact ⟨rfl,rfl⟩
end
structure Nd where
 id:Int
 sz:Int
 el:Int
 bt:Int
 tm:Int
 vo:Int
 ro:Int
 ld:Int
 cm:Int
 nw:Int
 dl:Int
 hd:Int
 log:List Ent
 gr:List Int
 nx:List Int
 mt:List Int
 se:List Int
 st:List Int
structure Mg where
 ki:Int
 fr:Int
 td:Int
 tm:Int
 li:Int
 lt:Int
 cm:Int
 ok:Int
 hi:Int
 es:List Ent
abbrev Mg.arrC (m:Mg) (v:Af):Array Af:=#[Aa O m.ki,Aa O m.fr,Aa O m.td,Aa O m.tm,Aa O m.li,Aa O m.lt,Aa O m.cm,Aa O m.ok,Aa O m.hi,v]
abbrev Nd.arrC (n:Nd) (a b c d e f:Af):Array Af:=#[Aa O n.id,Aa O n.sz,Aa O n.el,Aa O n.bt,Aa O n.tm,Aa O n.vo,Aa O n.ro,Aa O n.ld,Aa O n.cm,Aa O n.nw,Aa O n.dl,Aa O n.hd,a,b,c,d,e,f]
structure Rn where
 n:Nd
 out:List Mg
 code:Int
 drew:Int
 draw:Int
def mg0:Mg:=⟨0,0,0,0,0,0,0,0,0,[]⟩
def Rn.timer (r:Rn):Rn:={ r with n:={ r.n with dl:=r.n.nw+Jf r.n.el r.draw },drew:=1 }
def Zy (l:List Ent)(p:Nat):Int:=if p=0 then 0 else (l[p-1]?.map (·.t)).getD 0
def Y9 (l:List Ent):Int:=Zy l l.length
def utd (l:List Ent)(m:Mg):Bool:=decide (Y9 l<m.lt) || (decide (m.lt=Y9 l) && decide ((l.length:Int)<=m.li))
def Z8u (n:Nd):Bool:=n.ro == 3 || (n.ld != 0 && decide (n.nw-n.hd<n.el))
def Rn.lone (r:Rn):Rn:={ r with n:={ r.n with nx:=[],mt:=[],se:=[],st:=[],gr:=[],ld:=0,ro:=0 } }
def Rn.adopt (r:Rn)(t:Int):Rn:=
 if r.n.ro=3 then Rn.timer { r.lone with n:={ r.lone.n with tm:=t,vo:=0 } } else { r.lone with n:={ r.lone.n with tm:=t,vo:=0 } }
def Rn.send (r:Rn)(m:Mg):Rn:={ r with out:=r.out ++ [{ m with fr:=r.n.id }] }
def Rn.allK (m:Mg):Nat->Rn->Rn
 | 0,r=>r
 | k+1,r=>if (k:Int)+1=r.n.id then Rn.allK m k r else (Rn.allK m k r).send { m with td:=(k:Int)+1 }
def Z0k (n:Nd)(j:Nat):Mg:=
 ⟨5,0,(j:Int)+1,n.tm,n.nx.getD j 0-1,Zy n.log (n.nx.getD j 0-1).toNat,n.cm,0,0,(n.log.drop (n.nx.getD j 0-1).toNat).take 32⟩
def Rn.sendE (r:Rn)(j:Nat):Rn:={ r.send (Z0k r.n j) with n:={ r.n with st:=r.n.st.set j r.n.nw } }
def Rn.sendK:Nat->Rn->Rn
 | 0,r=>r
 | k+1,r=>if (k:Int)+1=r.n.id then Rn.sendK k r else (Rn.sendK k r).sendE k
def Rn.sendAll (r:Rn):Rn:=r.sendK r.n.sz.toNat
def Yu (n:Nd):Nat->Nat
 | 0=>0
 | k+1=>Yu n k+if (k:Int)+1≠n.id/\n.nw-n.se.getD k 0<n.el then 1 else 0
def Rn.beatK:Nat->Rn->Rn
 | 0,r=>r
 | k+1,r=>if (k:Int)+1≠r.n.id/\r.n.bt<=r.n.nw-(Rn.beatK k r).n.st.getD k 0 then (Rn.beatK k r).sendE k else Rn.beatK k r
def Xx (k:Int)(sz:Int):Bool:=decide (sz<2*k)
def Rn.tick (r0:Rn):Rn:=
 if r0.n.nw=1099511627776 then { r0 with code:=7 }
 else
  let r:Rn:={ r0 with n:={ r0.n with nw:=r0.n.nw+1 } }
  if r.n.ro=3 then
   (if Xx (1+(Yu r.n r.n.sz.toNat:Int)) r.n.sz=true then r.beatK r.n.sz.toNat else r.lone.timer)
  else if r.n.nw<r.n.dl then r
  else if r.n.tm=1073741824 then r.lone.timer
  else Rn.allK ⟨1,0,0,r.n.tm+1,r.n.log.length,Y9 r.n.log,0,0,0,[]⟩ r.n.sz.toNat { r.lone.timer with n:={ r.lone.timer.n with ro:=1,gr:=[r.n.id] } }
def Zx (gr:List Int)(fr:Int):Nat->List Int
 | 0=>[]
 | k+1=>Zx gr fr k ++ if (k:Int)+1=fr∨(k:Int)+1∈gr then [(k:Int)+1] else []
def Rn.preAsk (r:Rn)(m:Mg):Rn:=
 if Z8u r.n=true then { r with code:=2 }
 else if r.n.tm<m.tm/\utd r.n.log m=true then r.send ⟨2,0,m.fr,m.tm,0,0,0,1,0,[]⟩
 else r.send ⟨2,0,m.fr,r.n.tm,0,0,0,0,0,[]⟩
def Rn.higher (r:Rn)(t:Int):Rn:=if r.n.tm<t then r.adopt t else r
def Rn.voteAsk (r0:Rn)(m:Mg):Rn:=
 if Z8u r0.n=true then { r0 with code:=2 }
 else
  let r:=r0.higher m.tm
  if m.tm=r.n.tm/\(r.n.vo=0∨r.n.vo=m.fr)/\utd r.n.log m=true then Rn.send (Rn.timer { r.lone with n:={ r.lone.n with vo:=m.fr } }) ⟨4,0,m.fr,r.n.tm,0,0,0,1,0,[]⟩
  else r.send ⟨4,0,m.fr,r.n.tm,0,0,0,0,0,[]⟩
def Rn.stale (r:Rn):Rn:={ r with code:=3 }
def Rn.takeTerm (r:Rn)(t:Int):Rn:=if r.n.tm<t then r.adopt t else r.stale
def Rn.preReply (r:Rn)(m:Mg):Rn:=
 if m.ok=0 then r.takeTerm m.tm
 else if r.n.ro≠1∨m.tm≠r.n.tm+1∨m.fr∈r.n.gr then r.stale
 else
  let g:=Zx r.n.gr m.fr r.n.sz.toNat
  if Xx g.length r.n.sz=true then
   let r2:Rn:=Rn.timer { r with n:={ r.n with tm:=r.n.tm+1,vo:=r.n.id,ro:=2,gr:=[r.n.id] } }
   Rn.allK ⟨3,0,0,r.n.tm+1,r.n.log.length,Y9 r.n.log,0,0,0,[]⟩ r.n.sz.toNat r2
  else { r with n:={ r.n with gr:=g } }
def Zw (id:Int)(k:Nat)(x:Int):List Int:=(List.range k).map λ(i:Nat)=>if (i:Int)+1=id then 0 else x
def Rn.lead (r:Rn):Rn:=
 let s:=r.n.sz.toNat
 let n2:Nd:={ r.lone.n with ro:=3,ld:=r.n.id,nx:=Zw r.n.id s ((r.n.log.length:Int)+1),mt:=Zw r.n.id s 0,se:=Zw r.n.id s r.n.nw,st:=Zw r.n.id s r.n.nw,log:=if r.n.log.length<4096 then r.n.log ++ [⟨r.n.tm,0,0,0,⟨#[]⟩,⟨#[]⟩,⟨#[]⟩⟩] else r.n.log }
 Rn.sendAll { r with n:=n2 }
def Rn.voteReply (r:Rn)(m:Mg):Rn:=
 if r.n.tm<m.tm then r.adopt m.tm
 else if r.n.ro≠2∨m.tm≠r.n.tm∨m.ok≠1∨m.fr∈r.n.gr then r.stale
 else
  let g:=Zx r.n.gr m.fr r.n.sz.toNat
  if Xx g.length r.n.sz=true then r.lead else { r with n:={ r.n with gr:=g } }
def Y7 (log:List Ent)(p:Nat):List Ent->Nat
 | []=>0
 | e :: es=>if (log[p]?.map (·.t))=Ac e.t then Y7 log (p+1) es+1 else 0
def Rn.append (r0:Rn)(m:Mg):Rn:=
 if m.tm<r0.n.tm then r0.send ⟨6,0,m.fr,r0.n.tm,m.li,0,0,0,0,[]⟩
 else
  let r1:=r0.higher m.tm
  if r1.n.ro=3 then r1.stale
  else
   let r:Rn:=Rn.timer { r1.lone with n:={ r1.lone.n with ld:=m.fr,hd:=r1.n.nw } }
   if r.n.log.length<m.li.toNat∨(0<m.li/\Zy r.n.log m.li.toNat≠m.lt) then r.send ⟨6,0,m.fr,r.n.tm,m.li,0,0,0,min (r.n.log.length:Int) (m.li-1),[]⟩
   else
    let i:=Y7 r.n.log m.li.toNat m.es
    if i<m.es.length/\m.li+i+1<=r.n.cm then r.stale
    else
     let log:=if i<m.es.length then r.n.log.take (m.li.toNat+i) ++ m.es.drop i else r.n.log
     Rn.send { r with n:={ r.n with log:=log,cm:=max r.n.cm (min m.cm (m.li+m.es.length)) } } ⟨6,0,m.fr,r.n.tm,m.li+m.es.length,0,0,1,0,[]⟩
def Z3b (n:Nd)(p:Int):Nat->Nat
 | 0=>0
 | k+1=>Z3b n p k+if (k:Int)+1≠n.id/\p<=n.mt.getD k 0 then 1 else 0
def Z07 (n:Nd)(p:Nat):Bool:=Xx (1+(Z3b n p n.sz.toNat:Int)) n.sz && decide (Zy n.log p=n.tm)
def Yx (n:Nd)(lo:Nat):Nat->Nat
 | 0=>lo
 | k+1=>if k+1<=lo then lo else if Z07 n (k+1)=true then k+1 else Yx n lo k
def Rn.appReply (r:Rn)(m:Mg):Rn:=
 if r.n.tm<m.tm then r.adopt m.tm
 else if r.n.ro≠3∨m.tm<r.n.tm then r.stale
 else
  let f:=(m.fr-1).toNat
  let r1:Rn:={ r with n:={ r.n with se:=r.n.se.set f r.n.nw } }
  if m.ok=0 then
   (if m.li≠r.n.nx.getD f 0-1 then r1.stale
    else Rn.sendE { r1 with n:={ r1.n with nx:=r1.n.nx.set f (max (r.n.mt.getD f 0+1) (min m.hi (m.li-1)+1)) } } f)
  else if (r.n.log.length:Int)<m.li then r1.stale
  else
   let mt:=max (r.n.mt.getD f 0) m.li
   let nx:=max (r.n.nx.getD f 0) (mt+1)
   let n2:Nd:={ r1.n with mt:=r1.n.mt.set f mt,nx:=r1.n.nx.set f nx }
   let r3:Rn:={ r1 with n:={ n2 with cm:=(Yx n2 n2.cm.toNat n2.log.length:Int) } }
   if nx<=r.n.log.length then r3.sendE f else r3
def Rn.message (r:Rn)(bad:Bool)(m:Mg):Rn:=
 if bad=true∨m.td≠r.n.id∨r.n.sz<m.fr then { r with code:=1 }
 else if m.ki=1 then r.preAsk m
 else if m.ki=2 then r.preReply m
 else if m.ki=3 then r.voteAsk m
 else if m.ki=4 then r.voteReply m
 else if m.ki=5 then r.append m
 else r.appReply m
def Rn.propose (r:Rn)(bad:Bool)(cl sq op:Int)(k v o:ByteArray):Rn:=
 if bad=true then { r with code:=6 }
 else if r.n.ro≠3 then { r with code:=4 }
 else if 4096<=r.n.log.length then { r with code:=5 }
 else Rn.sendAll { r with n:={ r.n with log:=r.n.log ++ [⟨r.n.tm,cl,sq,op,k,v,o⟩] } }
section
abbrev nV (n:Nd) (a12 a13 a14 a15 a16 a17:Option B4) (c12 c13 c14 c15 c16 c17:Nat):Array Af:=#[Aa O n.id,Aa O n.sz,Aa O n.el,Aa O n.bt,Aa O n.tm,Aa O n.vo,Aa O n.ro,Aa O n.ld,Aa O n.cm,Aa O n.nw,Aa O n.dl,Aa O n.hd,I a12 n.log.length c12,I a13 n.gr.length c13,I a14 n.nx.length c14,I a15 n.mt.length c15,I a16 n.se.length c16,I a17 n.st.length c17]
variable {x l h:Int}{w:Ag}{Q:Ending->Ag->Prop}
theorem Z43 (k:inB x l h=true)(q:Q (Aj (.bool true)) w):Ar Ad 70 #[Aa O x,Aa O l,Aa O h] w Q:=by
 have e:=Yh x l h w;rw [k] at e;exact sw e q
theorem l1in_t (k:inB x l h=true)(q:Q (Aj (.bool true)) w):Ar Ad 56 #[Aa O x,Aa O l,Aa O h] w Q:=by
 have e:=Y2 x l h w;rw [k] at e;exact sw e q
variable {n:Nd} {a12 a13 a14 a15 a16 a17:Option B4} {c12 c13 c14 c15 c16 c17:Nat} {w:Ag}
theorem vote_ok (h:Z1z n.sz n.tm n.vo=true):Ar Ad 67 #[Aw (nV n a12 a13 a14 a15 a16 a17 c12 c13 c14 c15 c16 c17)] w λe w'=>e=Aj (.bool true)/\Ai w.heap.size w w':=by
 obtain ⟨q,v,u,y,c,a,p,r,i8,z,o,i,d,k,m,j,f,g⟩:=n;simp only [Z1z,Al] at h;obtain ⟨t,s,b⟩:=h;rcases (show a=0∨(¬a=0/\0<c) by simp at b;omega) with rfl | ⟨h0,h4⟩
 all_goals
  go_enter func67,ntmps67
  go_wp2_with (go_at_call 70;refine Z43 (by assumption) ?_)
  go_ret;exact ⟨by simp [*],baq⟩
theorem clock_ok (h:Xr n.el n.nw n.dl n.hd=true)(o:0<=n.el)(b:n.el<=1000):Ar Ad 71 #[Aw (nV n a12 a13 a14 a15 a16 a17 c12 c13 c14 c15 c16 c17)] w λe w'=>e=Aj (.bool true)/\Ai w.heap.size w w':=by
 obtain ⟨t,z,y,i3,p,r,q,u,i8,i9,m,f,a,j,k,i,c,d⟩:=n;simp only [Xr,Al] at h;obtain ⟨g,v,h3⟩:=h;have s:=(Zj _ _ _).1 g;dsimp only at o b;go_enter func71,ntmps71
 go_wp2_with (go_at_call 70;refine Z43 (by assumption) ?_)
 go_ret;exact ⟨rfl,baq⟩
theorem role_ok (h:Z2o n.id n.sz n.tm n.vo n.ro n.ld=true):Ar Ad 68 #[Aw (nV n a12 a13 a14 a15 a16 a17 c12 c13 c14 c15 c16 c17)] w λe w'=>e=Aj (.bool true)/\Ai w.heap.size w w':=by
 obtain ⟨c,y,v,z,b,f,a,d,i8,i9,s,m,i,q,r,p,j,k⟩:=n;simp only [Z2o,Al] at h;obtain ⟨o,u,g⟩:=h;have t:=(Zj _ _ _).1 o;rcases (show (a=0/\¬d=c/\(0<b∨¬0<b))∨(a=1/\d=0/\(0<b∨¬0<b))∨(a=2/\d=0/\0<b/\f=c)∨(a=3/\d=c/\0<b/\f=c) by rcases (show a=0∨a=1∨a=2∨a=3 by omega) with rfl | rfl | rfl | rfl <;> simp at g ⊢ <;> omega) with ⟨rfl,h4,h5 | h5⟩ | ⟨rfl,rfl,h5 | h5⟩ | ⟨rfl,rfl,h5,rfl⟩ | ⟨rfl,rfl,h5,rfl⟩
 all_goals
  go_enter func68,ntmps68
  go_wp2_with (go_at_call 70;refine Z43 (by assumption) ?_)
  all_goals go_ret
  all_goals exact ⟨by simp [*],baq⟩
end
section
theorem infoU8:(Tryz.prog.info? 5).map (λi=>(i.zero,i.size,i.bytes))=Ac (Ac (Aa .u8 0),1,1):=by kernel_rfl
def Own (w:Ag)(B:Nat)(v:Af)(l:List Int):Prop:=
 (∀ x∈l,0<=x/\x<=255)/\w.ownsRow B 5 1 v l.length (l.map (Value.int .u8))
theorem Own.nil (w:Ag)(B:Nat):Own w B (I Ab 0 0) []:=⟨by simp,by simpa using World.ownsRow_nil w B 5 1⟩
variable {w:Ag}{B:Nat}{v:Af}{l:List Int}
theorem Own.shape (h:Own w B v l):∃ a cap,v=I a l.length cap:=by
 rcases h.2.2 with ⟨rfl,h0⟩ | ⟨g,cap,cur,rfl,_⟩
 ·exact ⟨Ab,0,by rw [h0]⟩
 ·exact ⟨_,_,rfl⟩
theorem Own.shape' (h:Own w B v l)(a:0<l.length:=by omega):∃ g cap,v=I (Ac ⟨g,0,Ab⟩) l.length cap:=by
 rcases h.2.2 with ⟨rfl,h0⟩ | ⟨g,cap,cur,rfl,_⟩
 ·omega
 ·exact ⟨_,_,rfl⟩
theorem Own.le {a:Nat}(h:Own w B v l)(b:a<=B):Own w a v l:=by
 refine ⟨h.1,h.2.1,?_⟩;rcases h.2.2 with h | ⟨g,cap,cur,hv,hg,r⟩
 ·exact .inl h
 ·exact .inr ⟨g,cap,cur,hv,Ap b hg,r⟩
theorem heap_lt {g:Nat}{o:Obj}(h:w.heap[g]? = Ac o):g<w.heap.size:=by
 rcases B1 g w.heap.size with h' | h'
 ·exact h'
 ·rw [Array.getElem?_eq_none h'] at h;cases h
variable {w':Ag}
theorem Own.below (h:Own w B v l)(a:Ai w.heap.size w w'):Own w' B v l:=by
 refine ⟨h.1,h.2.1,?_⟩;rcases h.2.2 with h | ⟨g,cap,cur,hv,hg,hh,r⟩
 ·exact .inl h
 ·exact .inr ⟨g,cap,cur,hv,hg,(a.block g (heap_lt hh)).trans hh,r⟩
theorem Own.block (h:Own w B v l)(a:∀ k,v.ownBlock=Ac k->w'.heap[k]? = w.heap[k]?):Own w' B v l:=by
 refine ⟨h.1,h.2.1,?_⟩;rcases h.2.2 with h | ⟨g,cap,cur,hv,hg,hh,r⟩
 ·exact .inl h
 ·subst hv
  exact .inr ⟨g,cap,cur,rfl,hg,(a g rfl).trans hh,r⟩
theorem Z2g (b o j:Nat):(⟨b,o,Ab⟩:B4).add j=⟨b,o+j,Ab⟩:=by
 unfold Addr.add;split
 ·next h=>subst h;rfl
 ·rfl
theorem Own.bs (h:Own w B v l)(c:l.length<=maxLen):Bs w v l:=by
 obtain ⟨a,cap,rfl⟩:=h.shape;refine ⟨c,h.1,a,cap,rfl,λi hi=>?_⟩;obtain ⟨g,b,e⟩:=h.shape';simp only [Value.slice.injEq] at e;obtain ⟨rfl,_,rfl⟩:=e;refine ⟨g,0,rfl,λj hj=>?_⟩;have:=h.2.cellAt j (by omega);rw [Nat.zero_add,this];simp [hj]
theorem Own.lit (w:Ag)(l:List Int)(cs:Array Af)(a:cs.toList=l.map (Value.int .u8))(c:∀ x∈l,0<=x/\x<=255)(b:l.length<=maxLen) :
  Own (w.alloc (At cs 5)) w.heap.size (I (Ac ⟨w.heap.size,0,Ab⟩) l.length l.length) l:=by
 have d:cs.size=l.length:=by rw [<-Array.length_toList,a,List.length_map]
 refine ⟨c,by simp,.inr ⟨w.heap.size,l.length,cs,rfl,Ao _,?_,Ao _,b,by omega,?_⟩⟩
 ·show (w.heap.push _)[_]? = _
  simp
 ·rw [a,List.take_of_length_le (by simp)]
structure Ye (w:Ag) (v:Af) (w':Ag) (v':Af):Prop where
 g:w.grownBy w' v.ownBlock
 at':v'.ownBlock=v.ownBlock∨∃ k,v'.ownBlock=Ac k/\w.heap.size<=k
theorem Ye.refl (w:Ag)(v:Af):Ye w v w v:=⟨⟨rfl,rfl,rfl,Ao _,λ_ _ _=>rfl⟩,.inl rfl⟩
theorem Ye.trans {b c:Ag}{d a:Af}(h:Ye w v b d)(k:Ye b d c a):Ye w v c a:=by
 have m:=h.g.size;refine ⟨⟨k.g.os.trans h.g.os,k.g.tape.trans h.g.tape,k.g.output.trans h.g.output,Ap h.g.size k.g.size,λi hi hne=>?_⟩,?_⟩
 ·refine (k.g.block i (by omega) ?_).trans (h.g.block i hi hne)
  rcases h.at' with e | ⟨j,e,hj⟩
  ·rw [e];exact hne
  ·rw [e];intro f;injection f with f;omega
 ·rcases k.at' with e | ⟨j,e,hj⟩
  ·rw [e];exact h.at'
  ·exact .inr ⟨j,e,by omega⟩
variable {v':Af}
theorem Ye.alloc (h:Ye w v w' v')(o:Obj):Ye w v (w'.alloc o) v':=
 h.trans ⟨World.grownBy_alloc _ _ _,.inl rfl⟩
theorem Ye.below (h:Ye w v w' v')(a:Own w B v l)(b:B<=w.heap.size:=by omega):Ai B w w':=
 (An _ _).grown h.g b (λk hk=>(a.2.lt k hk).1)
variable {k:Nat}
theorem Ye.block (h:Ye w v w' v')(b:k<w.heap.size)(a:v.ownBlock≠Ac k):w'.heap[k]? = w.heap[k]?:=h.g.block k b (λe=>a e.symm)
theorem Ye.cell (h:Ye w v w' v'){o:Nat}(b:k<w.heap.size)(a:v.ownBlock≠Ac k):w'.cell? ⟨k,o,Ab⟩=w.cell? ⟨k,o,Ab⟩:=World.cell?_of_block (w:=w) (h.block b a)
theorem wpl_append {g:Array Oper}{rest:List Oper}{o:Oper}{a:Bn}{Q:Ca->Bn->Ag->Prop}(p:o.guard=Ab)(s x:Operand)
  (ho:o.op=.call { callee:=.builtin .append,args:=#[s,x],argTypes:=#[55,55] })
   {u:Af} {d:List Int} (c:Own w B v l) (hs:a.eval s=v) (m:Bs w u d) (hx:a.eval x=u) (aa:0<d.length) (ab:l.length+d.length<=1073741824) (hB:B<=w.heap.size)
  (h:∀ v' w',Own w' B v' (l ++ d)->Ye w v w' v'->wpList Ad g Q rest (a.put o.dst v') w'):wpList Ad g Q (o :: rest) a w:=by
 obtain ⟨i0,hi,q,z,t⟩:=info_parts infoU8;obtain ⟨_,h8,au,cu,rfl,hc⟩:=m;obtain ⟨b,r,rfl,Xc⟩:=hc 0 aa;refine wpList_append_own_at w p s x 55 ho B 5 i0 _ 1 1 underlying55 hi q z t rfl (by decide) v _ _ hs c.2 ⟨b,r,Ab⟩ _ cu (d.map (Value.int .u8)) hx (by simp) ?_ ?_ (by unfold maxLen;omega) (by omega) hB ?_
 ·intro j u i
  rw [Z2g];rw [Cb] at i
  cases f:d[j]? with
  | none=>rw [f] at i;cases i
  | some y=>
   rw [f] at i
   have n:j<d.length:=by
    rcases B1 j d.length with h' | h'
    ·exact h'
    ·rw [Bv h'] at f;cases f
   rw [Xc j n,f];exact i
 ·intro u m
  simp only [List.mem_map] at m;obtain ⟨y,_,rfl⟩:=m;rfl
 ·intro v' w' h2 h3 _ h5
  refine h v' w' ⟨λy hy=>?_,by simpa using h2⟩ ⟨h3,h5.imp id λe=>⟨_,e,Ao _⟩⟩;rcases List.mem_append.1 hy with hy | hy
  ·exact c.1 y hy
  ·exact h8 y hy
end
section
def gC {α:Type}(cs:α->List Af):List α->List Af
 | []=>[]
 | e :: l=>cs e ++ gC cs l
theorem gC_app {α:Type}(cs:α->List Af)(l k:List α):gC cs (l ++ k)=gC cs l ++ gC cs k:=by
 induction l with
 | nil=>rfl
 | cons e l ih=>rw [List.cons_append,gC,ih,gC,List.append_assoc]
variable {m:Nat}
theorem gC_len {α:Type}{cs:α->List Af}(b:∀ a,(cs a).length=m)(l:List α):(gC cs l).length=l.length*m:=by
 induction l with
 | nil=>simp [gC]
 | cons e l ih=>rw [gC,List.length_append,ih,List.length_cons,b,Nat.succ_mul];omega
theorem gC_get {α:Type}{cs:α->List Af}(b:∀ a,(cs a).length=m)(l:List α):∀(j:Nat) (h:j<l.length) (i:Nat),i<m->(gC cs l)[j*m+i]? = (cs l[j])[i]?:=by
 induction l with
 | nil=>intro j h;simp at h
 | cons e l ih=>
  intro j h i hi
  cases j with
  | zero=>rw [gC,List.getElem?_append_left (by rw [b];omega)];simp
  | succ j=>
   rw [gC,List.getElem?_append_right (by rw [b,Nat.succ_mul];omega),b,show (j+1)*m+i-m=j*m+i by rw [Nat.succ_mul];omega,ih j (by simpa using h) i hi];simp
structure GLaw {α:Type} (cs:α->List Af) (m:Nat) (T S:Ax):Prop where
 und:Tryz.prog.underlying S=Ac (.slice T)
 info:∃ i z bytes,Tryz.prog.info? T=Ac i/\i.zero=Ac z/\i.size=m/\i.bytes=bytes/\z.cells.size=m/\bytes<=256
 pos:0<m
 len:∀ a,(cs a).length=m
 one:∀ a,∀ u∈cs a,u.oneCell'=true
def Zc {α:Type}(cs:α->List Af)(m:Nat)(T:Ax)(w:Ag)(B:Nat)(v:Af)(l:List α):Prop:=w.ownsRow B T m v l.length (gC cs l)
section
variable {α:Type} {cs:α->List Af} {m:Nat} {T S:Ax} {w w':Ag} {B:Nat} {v:Af} {l:List α}
theorem Zc.nil (cs:α->List Af)(m:Nat)(T:Ax)(w:Ag)(B:Nat):Zc cs m T w B (I Ab 0 0) []:=World.ownsRow_nil w B _ m
theorem Zc.made (cs:α->List Af)(m:Nat)(T:Ax)(w:Ag)(B:Nat)(b:B<=w.heap.size):Zc cs m T (w.alloc (At #[] T)) B (I (Ac ⟨w.heap.size,0,Ab⟩) 0 0) []:=
 World.ownsRow_made w #[] 0 b (by unfold maxLen;omega) (by simp)
theorem Zc.shape (h:Zc cs m T w B v l):∃ a cap,v=I a l.length cap:=by
 rcases h.2 with ⟨rfl,h0⟩ | ⟨g,cap,cur,rfl,_⟩
 ·exact ⟨Ab,0,by rw [h0]⟩
 ·exact ⟨_,_,rfl⟩
theorem Zc.shape' (h:Zc cs m T w B v l)(b:0<l.length:=by omega):∃ g cap,v=I (Ac ⟨g,0,Ab⟩) l.length cap:=by
 rcases h.2 with ⟨rfl,h0⟩ | ⟨g,cap,cur,rfl,_⟩
 ·omega
 ·exact ⟨_,_,rfl⟩
theorem Zc.lts (h:Zc cs m T w B v l)(k:Nat)(e:v.ownBlock=Ac k):B<=k/\k<w.heap.size:=World.ownsRow.lt h k e
theorem Zc.le {b:Nat}(h:Zc cs m T w B v l)(c:b<=B):Zc cs m T w b v l:=by
 refine ⟨h.1,?_⟩;rcases h.2 with h | ⟨g,cap,cur,hv,hg,r⟩
 ·exact .inl h
 ·exact .inr ⟨g,cap,cur,hv,Ap c hg,r⟩
theorem Zc.block (h:Zc cs m T w B v l)(b:∀ k,v.ownBlock=Ac k->w'.heap[k]? = w.heap[k]?):Zc cs m T w' B v l:=by
 refine ⟨h.1,?_⟩;rcases h.2 with h | ⟨g,cap,cur,hv,hg,hh,r⟩
 ·exact .inl h
 ·exact .inr ⟨g,cap,cur,hv,hg,(b g (by rw [hv];rfl)).trans hh,r⟩
theorem Zc.below (h:Zc cs m T w B v l)(b:Ai w.heap.size w w'):Zc cs m T w' B v l:=h.block λk hk=>b.block k (h.lts k hk).2
theorem Zc.sl (L:GLaw cs m T S)(h:Zc cs m T w B v l)(f:l.length<=maxLen):Sl cs m w v l:=by
 obtain ⟨a,cap,rfl⟩:=h.shape;refine ⟨f,a,cap,rfl,λi hi=>?_⟩;obtain ⟨g,c,e⟩:=h.shape';simp only [Value.slice.injEq] at e;obtain ⟨rfl,_,rfl⟩:=e;refine ⟨g,0,rfl,λj hj t v ht=>?_⟩;have b:t<m:=by have:=(List.getElem?_eq_some_iff.1 ht).1;rwa [L.len] at this
 have d:=row_le (m:=m) hj (Ao _);rw [Nat.zero_add,World.ownsRow.cellAt h (j*m+t) (by omega),gC_get L.len l j hj t b];exact ht
theorem Zc.there (L:GLaw cs m T S){g cap:Nat}(h:Zc cs m T w B (I (Ac ⟨g,0,Ab⟩) l.length cap) l):w.there g 0 (l.length*m):=λj hj=>by
 rw [Nat.zero_add];refine ⟨?_,World.ownsRow.frozenAt h j⟩;rw [World.ownsRow.cellAt h j (by omega),List.getElem?_eq_getElem (by rw [gC_len L.len];exact hj)];rfl
theorem growG {d:Af}(h:Ye w v w' d)(b:Zc cs m T w B v l)(c:B<=w.heap.size):Ai B w w':=
 (An _ _).grown h.g c (λk hk=>(b.lts k hk).1)
variable {ops:Array Oper}{o:Oper}{a:Bn}{Q:Ca->Bn->Ag->Prop}
theorem Yl (L:GLaw cs m T S){rest:List Oper}(i:o.guard=Ab)(s x:Operand)
  (ho:o.op=.call { callee:=.builtin .append,args:=#[s,x],argTypes:=#[S,S] })
  (e:α) (d:Zc cs m T w B v l) (t:a.eval s=v) (b c:Nat) (hu:w.rangeAt b 0 (cs e)) (hx:a.eval x=I (Ac ⟨b,0,Ab⟩) 1 c) (r:l.length<=1000000) (hB:B<=w.heap.size)
  (h:∀ f w',Zc cs m T w' B f (l ++ [e])->Ye w v w' f->wpList Ad ops Q rest (a.put o.dst f) w'):wpList Ad ops Q (o :: rest) a w:=by
 obtain ⟨i0,z,bytes,hi,k,p,n,g,hb⟩:=L.info;have q:(l.length+1)*bytes<=1000001*256:=Nat.mul_le_mul (by omega) hb;refine wpList_append_own_at w i s x S ho B T i0 z m _ L.und hi k p n g L.pos v _ _ t d ⟨b,0,Ab⟩ 1 c _ hx (by rw [L.len];omega) ?_ (L.one e) (by unfold maxLen;omega) (by omega) hB ?_
 ·intro j u hj
  rw [Z2g,Nat.zero_add];have:=hu j u hj
  rwa [Nat.zero_add] at this
 ·intro f w' y h3 _ h5
  exact h f w' (by unfold Zc;rw [gC_app];simpa [gC] using y) ⟨h3,h5.imp id λe=>⟨_,e,Ao _⟩⟩
theorem Z00 (L:GLaw cs m T S){K:Bn->Ag->Prop}{E:Prop}(i:o.guard=Ab)(s x:Operand)
  (ho:o.op=.call { callee:=.builtin .append,args:=#[s,x],argTypes:=#[S,S] })
  (e:α) (d:Zc cs m T w B v l) (y:a.eval s=v) (b c:Nat) (hu:w.rangeAt b 0 (cs e)) (hx:a.eval x=I (Ac ⟨b,0,Ab⟩) 1 c) (r:l.length<=1000000) (hB:B<=w.heap.size)
  (h:∀ f w',Zc cs m T w' B f (l ++ [e])->Ye w v w' f->K (a.put o.dst f) w'):if Region.wanted o (yielded ops a.tmps)=true then Oper.wp Ad o a w K Q else E:=by
 have t:Region.wanted o (yielded ops a.tmps)=true:=by simp [Region.wanted,i]
 rw [if_pos t];obtain ⟨i0,z,bytes,hi,k,p,n,g,hb⟩:=L.info;have q:(l.length+1)*bytes<=1000001*256:=Nat.mul_le_mul (by omega) hb
 obtain ⟨f,w',hr,h2,h3,h4,h5⟩:=run_append_own_at (P:=Ad) w B S o.type T i0 z m bytes L.und hi k p n g L.pos v l.length _ d ⟨b,0,Ab⟩ 1 c (cs e) (by rw [L.len];omega)
  (by
   intro j u hj;rw [Z2g,Nat.zero_add];have:=hu j u hj
   rwa [Nat.zero_add] at this) (L.one e) (by unfold maxLen;omega) (by omega) hB
 unfold Oper.wp execOp;simp only [ho,resolve,invoke,builtin,Sem.run_bind,Sem.run_pure,Result.andThen_ok,List.map_toArray,List.map_cons,List.map_nil,y,hx,hr];exact h f w' (by unfold Zc;rw [gC_app];simpa [gC] using h2) ⟨h3,h5.imp id λe=>⟨_,e,Ao _⟩⟩
end
end
def inC (n:Int):List Af:=[Aa O n]
theorem Z16:GLaw inC 1 3 23:={
 und:=underlying23
 info:=by
  obtain ⟨e,hi,b,c,d⟩:=info_parts (show (Tryz.prog.info? 3).map (λi=>(i.zero,i.size,i.bytes))=Ac (Ac (Aa O 0),1,8) by kernel_rfl);exact ⟨e,_,_,hi,b,c,d,rfl,by decide⟩
 pos:=by decide
 len:=λ_=>rfl
 one:=λa u hu=>by
  simp only [inC,B3,Br,or_false] at hu;subst hu;rfl }
theorem ix_sl {w:Ag}{v:Af}{l:List Int}(h:Sl inC 1 w v l):Ix w v l:=by
 obtain ⟨e,a,cap,rfl,d⟩:=h;refine ⟨e,a,cap,rfl,λi hi=>?_⟩;obtain ⟨b,c,rfl,f⟩:=d i hi;refine ⟨b,c,rfl,λj hj'=>?_⟩;have:=f j hj' 0 _ rfl;simpa using this
section
theorem infoEnt:(Tryz.prog.info? 118).map (λi=>(i.zero,i.size,i.bytes))=Ac (Ac (Aw (eqN 0 0 0 0 ⟨#[]⟩ ⟨#[]⟩ ⟨#[]⟩)),7,80):=by kernel_rfl
def Ent.cells (e:Ent):List Af:=[Aa O e.t,Aa O e.cl,Aa O e.sq,Aa O e.op,Az e.k,Az e.v,Az e.o]
def Zv:List Ent->List Af
 | []=>[]
 | e :: l=>e.cells ++ Zv l
theorem Z26 (l k:List Ent):Zv (l ++ k)=Zv l ++ Zv k:=by
 induction l with
 | nil=>rfl
 | cons e l ih=>rw [List.cons_append,Zv,ih,Zv,List.append_assoc]
theorem Z23 (l:List Ent):(Zv l).length=l.length*7:=by
 induction l with
 | nil=>rfl
 | cons e l ih=>rw [Zv,List.length_append,ih,List.length_cons];simp [Ent.cells];omega
theorem Z66 (l:List Ent):∀(j:Nat) (h:j<l.length) (i:Nat),i<7->(Zv l)[j*7+i]? = l[j].cells[i]?:=by
 induction l with
 | nil=>intro j h;simp at h
 | cons e l ih=>
  intro j h i hi;have a:e.cells.length=7:=rfl
  cases j with
  | zero=>rw [Zv,List.getElem?_append_left (by rw [a];omega)];simp
  | succ j=>
   rw [Zv,List.getElem?_append_right (by rw [a];omega),a,show (j+1)*7+i-7=j*7+i by omega,ih j (by simpa using h) i hi];simp
def Zh (w:Ag)(B:Nat)(v:Af)(l:List Ent):Prop:=
 (∀ e∈l,e.fits)/\w.ownsRow B 118 7 v l.length (Zv l)
theorem Zh.nil (w:Ag)(B:Nat):Zh w B (I Ab 0 0) []:=⟨by simp,World.ownsRow_nil w B _ 7⟩
theorem Zh.made (w:Ag)(B:Nat)(a:B<=w.heap.size):Zh (w.alloc (At #[] 118)) B (I (Ac ⟨w.heap.size,0,Ab⟩) 0 0) []:=
 ⟨by simp,World.ownsRow_made w #[] 0 a (by decide) (by simp)⟩
variable {w:Ag}{B:Nat}{v:Af}{l:List Ent}
theorem Zh.shape (h:Zh w B v l):∃ a cap,v=I a l.length cap:=by
 rcases h.2.2 with ⟨rfl,h0⟩ | ⟨g,cap,cur,rfl,_⟩
 ·exact ⟨Ab,0,by rw [h0]⟩
 ·exact ⟨_,_,rfl⟩
theorem Zh.shape' (h:Zh w B v l)(a:0<l.length:=by omega):∃ g cap,v=I (Ac ⟨g,0,Ab⟩) l.length cap:=by
 rcases h.2.2 with ⟨rfl,h0⟩ | ⟨g,cap,cur,rfl,_⟩
 ·omega
 ·exact ⟨_,_,rfl⟩
theorem Zh.le {a:Nat}(h:Zh w B v l)(b:a<=B):Zh w a v l:=by
 refine ⟨h.1,h.2.1,?_⟩;rcases h.2.2 with h | ⟨g,cap,cur,hv,hg,r⟩
 ·exact .inl h
 ·exact .inr ⟨g,cap,cur,hv,Ap b hg,r⟩
variable {w':Ag}
theorem Zh.block (h:Zh w B v l)(a:∀ k,v.ownBlock=Ac k->w'.heap[k]? = w.heap[k]?):Zh w' B v l:=by
 refine ⟨h.1,h.2.1,?_⟩;rcases h.2.2 with h | ⟨g,cap,cur,hv,hg,hh,r⟩
 ·exact .inl h
 ·subst hv
  exact .inr ⟨g,cap,cur,rfl,hg,(a g rfl).trans hh,r⟩
theorem Zh.below (h:Zh w B v l)(a:Ai w.heap.size w w'):Zh w' B v l:=
 h.block λk hk=>a.block k (h.2.lt k hk).2
theorem Zh.grown {b:Nat}(h:Zh w B v l)(a:w.grownBy w' (Ac b))(c:b<B:=by omega):Zh w' B v l:=
 h.block λk hk=>a.block k (h.2.lt k hk).2 (by intro e;injection e with e;have:=(h.2.lt k hk).1;omega)
theorem Zh.es (h:Zh w B v l)(d:l.length<=maxLen):Es w v l:=by
 obtain ⟨a,cap,rfl⟩:=h.shape;refine ⟨d,h.1,a,cap,rfl,λi hi=>?_⟩;obtain ⟨g,b,e⟩:=h.shape';simp only [Value.slice.injEq] at e;obtain ⟨rfl,_,rfl⟩:=e;refine ⟨g,0,rfl,λj hj=>?_⟩
 have c:∀ i,i<7->w.cell? ⟨g,j*7+i,Ab⟩=l[j].cells[i]?:=λi hi=>by
  rw [h.2.cellAt (j*7+i) (by omega)];exact Z66 l j hj i hi
 rw [Nat.zero_add];exact ⟨c 0 (by omega),c 1 (by omega),c 2 (by omega),c 3 (by omega),c 4 (by omega),c 5 (by omega),c 6 (by omega)⟩
theorem growE {c:Af}(h:Ye w v w' c)(a:Zh w B v l)(b:B<=w.heap.size):Ai B w w':=
 (An _ _).grown h.g b (λk hk=>(a.2.lt k hk).1)
theorem Xv {g:Array Oper}{rest:List Oper}{o:Oper}{a:Bn}{Q:Ca->Bn->Ag->Prop}(m:o.guard=Ab)(s x:Operand)
  (ho:o.op=.call { callee:=.builtin .append,args:=#[s,x],argTypes:=#[34,34] })
     (e:Ent) (hf:e.fits) (d:Zh w B v l) (z:a.eval s=v) (b c:Nat) (k:Ja w b 0 e) (hx:a.eval x=I (Ac ⟨b,0,Ab⟩) 1 c) (r:l.length<=1000000) (hB:B<=w.heap.size)
  (h:∀ i w',Zh w' B i (l ++ [e])->Ye w v w' i->wpList Ad g Q rest (a.put o.dst i) w'):wpList Ad g Q (o :: rest) a w:=by
 obtain ⟨i0,hi,n,q,p⟩:=info_parts infoEnt;obtain ⟨u0,u1,u2,u3,u4,t,u6⟩:=k;refine wpList_append_own_at w m s x 34 ho B 118 i0 _ 7 80 underlying34 hi n q p rfl (by decide) v _ _ z d.2 ⟨b,0,Ab⟩ 1 c e.cells hx rfl ?_ ?_ (by unfold maxLen;omega) (by omega) hB ?_
 ·intro j u f
  rw [Z2g,Nat.zero_add];have aa:j<7:=(List.getElem?_eq_some_iff.1 f).1;rcases (show j=0∨j=1∨j=2∨j=3∨j=4∨j=5∨j=6 by omega) with rfl | rfl | rfl | rfl | rfl | rfl | rfl
  ·exact u0.trans f
  ·exact u1.trans f
  ·exact u2.trans f
  ·exact u3.trans f
  ·exact u4.trans f
  ·exact t.trans f
  ·exact u6.trans f
 ·intro u k
  simp only [Ent.cells,B3,Br,or_false] at k;rcases k with rfl | rfl | rfl | rfl | rfl | rfl | rfl <;> rfl
 ·intro i w' h2 h3 _ h5
  refine h i w' ⟨λy hy=>?_,by rw [Z26];simpa [Zv] using h2⟩ ⟨h3,h5.imp id λe=>⟨_,e,Ao _⟩⟩;rcases List.mem_append.1 hy with hy | hy
  ·exact d.1 y hy
  ·rw [List.mem_singleton.1 hy];exact hf
end
section
variable {w:Ag}
theorem Rd.frame {b:Nat}(x:Nat)(v:Af):w.grownBy (w.setCell ⟨b,x,Ab⟩ v) (Ac b):=
 ⟨rfl,rfl,rfl,by simp [World.setCell],λk _ hk=>Ak _ _ _ _ (λe=>hk (by rw [e]))⟩
theorem Z8 {a b:Ag}{row:Option Nat}(h:w.grownBy a row)(k:a.grownBy b row):w.grownBy b row:=
 ⟨k.os.trans h.os,k.tape.trans h.tape,k.output.trans h.output,Ap h.size k.size,λi hi hne=>(k.block i (Bk hi h.size) hne).trans (h.block i hi hne)⟩
theorem grownBy_refl (w:Ag)(row:Option Nat):w.grownBy w row:=⟨rfl,rfl,rfl,Ao _,λ_ _ _=>rfl⟩
end
section
structure Om where
 m:Mg
 a:Option B4
 c:Nat
def Om.v (x:Om):Af:=I x.a x.m.es.length x.c
def omC (x:Om):List Af:=[Aa O x.m.ki,Aa O x.m.fr,Aa O x.m.td,Aa O x.m.tm,Aa O x.m.li,Aa O x.m.lt,Aa O x.m.cm,Aa O x.m.ok,Aa O x.m.hi,I x.a x.m.es.length x.c]
theorem omLaw:GLaw omC 10 43 37:={
 und:=underlying37
 info:=by
  obtain ⟨f,hi,c,d,e⟩:=info_parts (show (Tryz.prog.info? 43).map (λi=>(i.zero,i.size,i.bytes))=Ac (Ac (Aw zMsg),10,96) by kernel_rfl);exact ⟨f,_,_,hi,c,d,e,rfl,by decide⟩
 pos:=by decide
 len:=λ_=>rfl
 one:=λa u hu=>by
  simp only [omC,B3,Br,or_false] at hu;rcases hu with rfl | rfl | rfl | rfl | rfl | rfl | rfl | rfl | rfl | rfl <;> rfl }
structure RV where
 vl:Af
 vg:Af
 vn:Af
 vm:Af
 vs:Af
 vt:Af
 vo:Af
 L:List Om
def rnC (r:Rn)(x:RV):Array Af:=#[Aa O r.n.id,Aa O r.n.sz,Aa O r.n.el,Aa O r.n.bt,Aa O r.n.tm,Aa O r.n.vo,Aa O r.n.ro,Aa O r.n.ld,Aa O r.n.cm,Aa O r.n.nw,Aa O r.n.dl,Aa O r.n.hd,x.vl,x.vg,x.vn,x.vm,x.vs,x.vt,x.vo,Aa O r.code,Aa O r.drew,Aa O r.draw]
def Yd (u v:Af):Prop:=∀ k,u.ownBlock=Ac k->v.ownBlock≠Ac k
variable {v:Af}
theorem Yd.symm {u:Af}(h:Yd u v):Yd v u:=λk h1 h2=>h k h2 h1
structure Ze (w:Ag) (B b:Nat) (r:Rn) (x:RV):Prop where
 blk:Blk w b (rnC r x) 112
 lo:B<=b
 log:Zh w B x.vl r.n.log
 gr:Zc inC 1 3 w B x.vg r.n.gr
 nx:Zc inC 1 3 w B x.vn r.n.nx
 mt:Zc inC 1 3 w B x.vm r.n.mt
 se:Zc inC 1 3 w B x.vs r.n.se
 st:Zc inC 1 3 w B x.vt r.n.st
 out:Zc omC 10 43 w B x.vo x.L
 outC:x.L.map (·.m)=r.out
 ents:∀ p∈x.L,Zh w B p.v p.m.es
 ap:[x.vg,x.vn,x.vm,x.vs,x.vt].Pairwise Yd
variable {w:Ag}{B b:Nat}{C:Array Af}
theorem Zm {α:Type}{cs:α->List Af}{m:Nat}{T:Ax}{l:List α}{t:Ax}(h:Zc cs m T w B v l)(d:Blk w b C t)(c:T≠t):∀ k,v.ownBlock=Ac k->k≠b:=by
 intro k e f;obtain ⟨-,⟨rfl,-⟩ | ⟨g,cap,i,rfl,-,a,-⟩⟩:=h
 ·cases e
 cases e;subst f;unfold Blk at d;rw [d] at a;simp only [Bf,Obj.cells.injEq] at a;exact c a.2.1.symm
theorem Y5 {l:List Ent}{t:Ax}(h:Zh w B v l)(d:Blk w b C t)(c:118≠t):∀ k,v.ownBlock=Ac k->k≠b:=by
 intro k e f;obtain ⟨-,-,⟨rfl,-⟩ | ⟨g,cap,i,rfl,-,a,-⟩⟩:=h
 ·cases e
 cases e;subst f;unfold Blk at d;rw [d] at a;simp only [Bf,Obj.cells.injEq] at a;exact c a.2.1.symm
section
variable {w w':Ag} {B b:Nat} {r:Rn} {x:RV}
theorem Ze.lt (h:Ze w B b r x):b<w.heap.size:=h.blk.lt
variable {r':Rn}
theorem Ze.re (h:Ze w B b r x)(f:Blk w' b (rnC r' x) 112)(c:∀ k,k≠b->k<w.heap.size->w'.heap[k]? = w.heap[k]?)
  (e:r'.n.log=r.n.log) (e2:r'.n.gr=r.n.gr) (e3:r'.n.nx=r.n.nx) (e4:r'.n.mt=r.n.mt) (e5:r'.n.se=r.n.se) (e6:r'.n.st=r.n.st) (e7:r'.out=r.out):Ze w' B b r' x:=by
 have a:∀ {α:Type} {cs:α->List Af} {m:Nat} {T:Ax} {v:Af} {l:List α},T≠112->Zc cs m T w B v l->Zc cs m T w' B v l:=λhT ho=>ho.block λk hk'=>c k (Zm ho h.blk hT k hk') (ho.lts k hk').2
 have d:∀ {v:Af} {l:List Ent},Zh w B v l->Zh w' B v l:=λho=>ho.block λk hk'=>c k (Y5 ho h.blk (by decide) k hk') (World.ownsRow.lt ho.2 k hk').2
 exact ⟨f,h.lo,e▸d h.log,e2▸a (by decide) h.gr,e3▸a (by decide) h.nx,e4▸a (by decide) h.mt,e5▸a (by decide) h.se,e6▸a (by decide) h.st,a (by decide) h.out,e7▸h.outC,λp hp=>d (h.ents p hp),h.ap⟩
theorem Ze.below (h:Ze w B b r x)(a:Ai w.heap.size w w'):Ze w' B b r x:=
 h.re (h.blk.below a h.lt) (λk _ hk=>a.block k hk) rfl rfl rfl rfl rfl rfl rfl
theorem Ze.set (h:Ze w B b r x)(i:Nat)(v:Af)(a:(rnC r x).setIfInBounds i v=rnC r' x:=by rfl)
  (c:r'.n.log=r.n.log:=by rfl) (e2:r'.n.gr=r.n.gr:=by rfl) (e3:r'.n.nx=r.n.nx:=by rfl) (e4:r'.n.mt=r.n.mt:=by rfl) (e5:r'.n.se=r.n.se:=by rfl) (e6:r'.n.st=r.n.st:=by rfl) (e7:r'.out=r.out:=by rfl):Ze (w.setCell ⟨b,i,Ab⟩ v) B b r' x:=
 h.re (a▸h.blk.set i v) (λk hk _=>Ak _ _ _ _ hk) c e2 e3 e4 e5 e6 e7
theorem Ze.setB (h:Ze w B b r x)(i:Nat)(v:Af):Ai B w (w.setCell ⟨b,i,Ab⟩ v):=(An _ _).setCell (p:=⟨b,i,Ab⟩) h.lo v
theorem Ze.drew (h:Ze w B b r x):Ze w.drew B b r x:=h.below ((An _ _).drew)
end
section
variable {w:Ag}{B b:Nat}{r:Rn}{x:RV}
theorem Ze.c0 (h:Ze w B b r x):w.cell? ⟨b,0,Ab⟩=Ac (Aa O r.n.id):=h.blk.cell 0
theorem Ze.c1 (h:Ze w B b r x):w.cell? ⟨b,1,Ab⟩=Ac (Aa O r.n.sz):=h.blk.cell 1
theorem Ze.c2 (h:Ze w B b r x):w.cell? ⟨b,2,Ab⟩=Ac (Aa O r.n.el):=h.blk.cell 2
theorem Ze.c3 (h:Ze w B b r x):w.cell? ⟨b,3,Ab⟩=Ac (Aa O r.n.bt):=h.blk.cell 3
theorem Ze.c4 (h:Ze w B b r x):w.cell? ⟨b,4,Ab⟩=Ac (Aa O r.n.tm):=h.blk.cell 4
theorem Ze.c5 (h:Ze w B b r x):w.cell? ⟨b,5,Ab⟩=Ac (Aa O r.n.vo):=h.blk.cell 5
theorem Ze.c6 (h:Ze w B b r x):w.cell? ⟨b,6,Ab⟩=Ac (Aa O r.n.ro):=h.blk.cell 6
theorem Ze.c7 (h:Ze w B b r x):w.cell? ⟨b,7,Ab⟩=Ac (Aa O r.n.ld):=h.blk.cell 7
theorem Ze.c8 (h:Ze w B b r x):w.cell? ⟨b,8,Ab⟩=Ac (Aa O r.n.cm):=h.blk.cell 8
theorem Ze.c9 (h:Ze w B b r x):w.cell? ⟨b,9,Ab⟩=Ac (Aa O r.n.nw):=h.blk.cell 9
theorem Ze.c10 (h:Ze w B b r x):w.cell? ⟨b,10,Ab⟩=Ac (Aa O r.n.dl):=h.blk.cell 10
theorem Ze.c11 (h:Ze w B b r x):w.cell? ⟨b,11,Ab⟩=Ac (Aa O r.n.hd):=h.blk.cell 11
theorem Ze.c19 (h:Ze w B b r x):w.cell? ⟨b,19,Ab⟩=Ac (Aa O r.code):=h.blk.cell 19
theorem Ze.c20 (h:Ze w B b r x):w.cell? ⟨b,20,Ab⟩=Ac (Aa O r.drew):=h.blk.cell 20
theorem Ze.c21 (h:Ze w B b r x):w.cell? ⟨b,21,Ab⟩=Ac (Aa O r.draw):=h.blk.cell 21
end
end
theorem Z3t (el dr:Int)(b : -(2^63)<=dr)(c:dr<2^63)(w:Ag) :
  Ar Ad 103 #[Aa O el,Aa O dr] w λe w'=>e=Aj (Aa O (Jf el dr))/\w'=w:=by
 cases hi:inB el 1 1000
 ·rw [toutC_out dr hi]
  go_enter func103,ntmps103
  go_wp2_with (go_at_call 56;refine (Y2 _ _ _ _).mono ?_;rintro e a ⟨rfl,rfl⟩)
  go_ret;exact ⟨rfl,rfl⟩
 ·rw [toutC_in dr hi]
  have g:=(Zj _ _ _).mp hi;have f:=modI_ge dr el (by omega);have d:=modI_lt dr el (by omega);go_enter func103,ntmps103
  go_wp2_with (first
   |(go_at_call 56;refine (Y2 _ _ _ _).mono ?_;rintro e a ⟨rfl,rfl⟩)
   |(go_at_call 141;refine (l1mod_any dr el (by omega) (by omega) b c _).mono ?_;rintro e a ⟨rfl,rfl⟩))
  go_ret;exact ⟨rfl,rfl⟩
section
structure Gr2 (w:Ag) (b:Nat) (v:Af) (w':Ag) (v':Af):Prop where
 os:w'.os=w.os
 tape:w'.tape=w.tape
 output:w'.output=w.output
 size:w.heap.size<=w'.heap.size
 block:∀ k,k<w.heap.size->k≠b->Ac k≠v.ownBlock->w'.heap[k]? = w.heap[k]?
 at':v'.ownBlock=v.ownBlock∨∃ k,v'.ownBlock=Ac k/\w.heap.size<=k
variable {w w':Ag}
theorem Gr2.below (b:Nat)(v:Af)(h:Ai w.heap.size w w':=by omega):Gr2 w b v w' v:=⟨h.os,h.tape,h.output,h.size,λk hk _ _=>h.block k hk,.inl rfl⟩
variable {w1:Ag}{b:Nat}
theorem Gr2.of (v:Af)(h:Ai w.heap.size w w1)(d:w'.os=w1.os)(e:w'.tape=w1.tape)(c:w'.output=w1.output)(f:w'.heap.size=w1.heap.size)(a:∀ k,k≠b->w'.heap[k]? = w1.heap[k]?):Gr2 w b v w' v:=
 ⟨d.trans h.os,e.trans h.tape,c.trans h.output,by have:=h.size;omega,λk hk hn _=>(a k hn).trans (h.block k hk),.inl rfl⟩
variable {w2:Ag}{v v':Af}
theorem Gr2.tail (h:Gr2 w b v w1 v')(a:Ai w.heap.size w1 w2):Gr2 w b v w2 v':=
 ⟨a.os.trans h.os,a.tape.trans h.tape,a.output.trans h.output,Ap h.size a.size,λk hk hn hv=>(a.block k hk).trans (h.block k hk hn hv),h.at'⟩
theorem Gr2.head (a:Ai w.heap.size w w1)(h:Gr2 w1 b v w2 v'):Gr2 w b v w2 v':=
 ⟨h.os.trans a.os,h.tape.trans a.tape,h.output.trans a.output,Ap a.size h.size,λk hk hn hv=>(h.block k (Bk hk a.size) hn hv).trans (a.block k hk),h.at'.imp id λ⟨k,e,hk⟩=>⟨k,e,Ap a.size hk⟩⟩
theorem Gr2.set (h:Gr2 w b v w1 v')(i:Nat)(x:Af):Gr2 w b v (w1.setCell ⟨b,i,Ab⟩ x) v':=
 ⟨h.os,h.tape,h.output,by have:=h.size;simp [World.setCell];omega,λk hk hn hv=>(Ak _ _ _ _ hn).trans (h.block k hk hn hv),h.at'⟩
theorem Gr2.drew (h:Gr2 w b v w1 v'):Gr2 w b v w1.drew v':=h.tail ((An _ _).drew)
theorem Gr2.wide (h:Gr2 w b (I Ab 0 0) w1 (I Ab 0 0))(v:Af):Gr2 w b v w1 v:=
 ⟨h.os,h.tape,h.output,h.size,λk hk hn _=>h.block k hk hn (by simp [Value.ownBlock]),.inl rfl⟩
end
section
theorem count_set:∀(l:List Bool) (i:Nat),l[i]? = Ac false->(l.set i true).count false+1=l.count false
 | [],i,h=>by simp at h
 | b :: l,0,h=>by
  simp at h;subst h;simp
 | b :: l,i+1,h=>by
  have:=count_set l i (by simpa using h);simp only [List.set_cons_succ,List.count_cons];omega
variable {md:Region.Mode}{ops:Array Oper}{L:Array Bool}{i:Nat}
theorem Jn (e:L.size=ops.size)(h:i∈Region.ready md ops L):i<ops.size/\L[i]? = Ac false:=by
 have c:=List.mem_filter.1 h;have hi:=List.mem_range.1 c.1;refine ⟨hi,?_⟩;have d:=c.2;simp only [Al] at d;have b:=d.1;rw [Bo (by omega)];simp [Array.getD,show i<L.size by omega] at b;simp [b]
def Jx (md:Region.Mode)(ops:Array Oper)(i:Nat):List Nat:=((ops[i]?).map λo=>(o.after.toList.filter (Region.binds md)).map (·.on)).getD []
variable {j:Nat}
theorem Y3 (h:i∈Region.ready md ops L)(b:j∈Jx md ops i:=by decide):L.getD j false=true:=by
 have g:=List.mem_filter.1 h;have hi:=List.mem_range.1 g.1;have k:=g.2;simp only [Al] at k;have f:=k.2;unfold Jx at b;rw [Bo hi] at f b;simp only [Option.map_some,Option.getD_some] at f b;obtain ⟨e,l,rfl⟩:=List.mem_map.1 b;obtain ⟨c,d⟩:=List.mem_filter.1 l;have m:=(Array.all_eq_true_iff_forall_mem.1 f) e (by simpa using c);simpa [d] using m
variable {P:Program}{Q:Ca->Bn->Ag->Prop}
theorem wpAny_inv (J:Array Bool->Bn->Ag->Prop)
  (c:∀ L a w i,L.size=ops.size->i∈Region.ready md ops L->J L a w->wpOp P ops Q i (J (L.setIfInBounds i true)) a w)
  (b:∀ L a w,L.size=ops.size->Region.ready md ops L = []->J L a w->Q .normal a w) :
  ∀(fuel:Nat) (L:Array Bool) (a:Bn) (w:Ag),L.size=ops.size->L.toList.count false<=fuel->J L a w->wpAny P md ops Q fuel L a w
 | 0,L,a,w,hs,hc,hJ=>by
  have e:Region.ready md ops L = []:=by
   cases h:Region.ready md ops L with
   | nil=>rfl
   | cons x xs=>
    obtain ⟨f,d⟩:=Jn (md:=md) hs (show x∈Region.ready md ops L by rw [h];simp);have:false∈L.toList:=List.mem_iff_getElem?.2 ⟨x,by simpa using d⟩;have:=List.count_pos_iff.2 this;omega
  exact ⟨e,b L a w hs e hJ⟩
 | fuel+1,L,a,w,hs,hc,hJ=>by
  refine ⟨λh=>b L a w hs h hJ,λi hi=>?_⟩;obtain ⟨f,d⟩:=Jn hs hi;refine wpOp_mono (λa' w' hJ'=>wpAny_inv J c b fuel _ a' w' (by simpa using hs) ?_ hJ') (c L a w i hs hi hJ);have:=count_set L.toList i (by simpa using d);simp only [Array.toList_setIfInBounds];omega
variable {a:Bn}{w:Ag}
theorem Z2w {id:Nat}(d:P.follows .mixedOrders=true)(J:Array Bool->Bn->Ag->Prop)
  (e:J (Array.replicate ops.size false) a w.drew)
  (b:∀ L a w i,L.size=ops.size->i∈Region.ready .any ops L->J L a w->wpOp P ops Q i (J (L.setIfInBounds i true)) a w)
  (c:∀ L a w,L.size=ops.size->Region.ready .any ops L = []->J L a w->Q .normal a w):(Code.region id ops true).wp P Q a w:=
 wp_region_any d (wpAny_inv J b c ops.size _ a _ (by simp) (by simp) e)
variable {K:Bn->Ag->Prop}{o:Oper}
theorem Zs (hi:ops[i]? = Ac o)(b:o.guard=Ab)(h:o.wp P a w K Q):wpOp P ops Q i K a w:=by
 unfold wpOp;rw [hi];simp only [Region.wanted,b,if_true];exact .inl h
theorem Z17 (L:Array Bool)(i j:Nat)(hi:i<L.size):(L.setIfInBounds i true).getD j false=(decide (j=i) || L.getD j false):=by
 simp only [Bw,Array.getElem?_setIfInBounds];by_cases h:i=j
 ·subst h;simp [hi]
 ·have b:¬ j=i:=λe=>h e.symm
  simp [h,b]
theorem X7 (h:(L.setIfInBounds i true).getD j false=true)(hi:i<L.size)(b:j≠i:=by decide):L.getD j false=true:=by
 rw [Z17 L i j hi] at h;simpa [b] using h
theorem Xl (h:L.getD j false=true)(hi:i<L.size):(L.setIfInBounds i true).getD j false=true:=by
 rw [Z17 L i j hi,h];simp
theorem Z2p (hi:i<L.size):(L.setIfInBounds i true).getD i false=true:=by
 rw [Z17 L i i hi];simp
theorem readyBit (b:L.size=ops.size)(h:i∈Region.ready md ops L)(hd:L.getD i false=true):False:=by
 have c:=(Jn b h).2;rw [Bw,c] at hd;simp at hd
theorem Z0g {n:Nat}(h:(Array.replicate n false).getD j false=true):False:=by
 simp only [Bw,Array.getElem?_replicate] at h;split at h <;> simp at h
theorem Z39 (p:L.size=ops.size)(h:Region.ready md ops L = [])(b:(List.range ops.size).all (λi=>(Jx md ops i).all (· < i))=true):∀ j,j<ops.size->L.getD j false=true:=by
 intro j
 induction j using Nat.strongRecOn with
 | _ j ih=>
  intro c
  cases k:L.getD j false with
  | true=>rfl
  | false=>
   exfalso
   have g:j∈Region.ready md ops L:=by
    refine List.mem_filter.2 ⟨List.mem_range.2 c,?_⟩;have d:j<L.size:=by omega
    rw [Bo c];simp only [Option.map_some,Option.getD_some,Al];refine ⟨?_,Array.all_eq_true_iff_forall_mem.2 λe he=>?_⟩
    ·simp only [Array.getD,d,dif_pos] at k ⊢
     simpa using k
    ·cases f:Region.binds md e with
     | false=>rfl
     | true=>
      have l:e.on∈Jx md ops j:=by
       unfold Jx;rw [Bo c];simp only [Option.map_some,Option.getD_some];exact List.mem_map.2 ⟨e,List.mem_filter.2 ⟨by simpa using he,f⟩,rfl⟩
      have n:e.on<j:=by
       have m:=List.all_eq_true.1 b j (List.mem_range.2 c);simpa using List.all_eq_true.1 m e.on l
      simp [ih e.on n (by omega)]
   rw [h] at g;cases g
theorem Yg {N:FuncId}{b:Array Operand}{g:Array Ax}(d:o.op=.call ⟨.value (.func N),b,g⟩)
  (h:∀ args w,(callFunc N args).run Ad w=.ok (.enter N args) w) (args:Array Af) (f:b.map a.eval=args)
  (c:Ar Ad N args w λe w'=>∃ v,e=.returned v/\K (a.put o.dst v) w'):o.wp Ad a w K Q:=by
 subst f;unfold Oper.wp execOp;simp only [d,resolve,Act.eval,Deferred.ofValue,invoke];go_simp;exact c.mono λe w' ⟨v,hv,hk⟩=>by subst hv;exact hk
variable {v:Af}
theorem Z0z (b:(execOp a.eval o).run Ad w=.ok (.value v) w)(h:K (a.put o.dst v) w):o.wp Ad a w K Q:=by
 unfold Oper.wp;rw [b];exact h
theorem Z0s (x:Operand)(b:o.op=.move x∨o.op=.assign x)(h:K (a.put o.dst (a.eval x)) w):o.wp Ad a w K Q:=by
 unfold Oper.wp execOp;rcases b with b | b <;> simp only [b,Sem.run_pure] <;> exact h
theorem Z74 (T:Ax)(Z:Array Af)(c:o.op=.alloc T)
  (b:∀ u:Ag,(Instr.alloc T true (.tuple #[])).run Ad u=.ok (Ae (Ac ⟨u.heap.size,0,Ab⟩)) (u.alloc (At Z T)))
  (h:K (a.put o.dst (Ae (Ac ⟨w.heap.size,0,Ab⟩))) (w.alloc (At Z T))):o.wp Ad a w K Q:=by
 unfold Oper.wp execOp;simp only [c,Sem.run_bind,b,Result.andThen_ok,Sem.run_pure];exact h
def frame (a0:Bn)(ds:List Nat)(x:Nat->Af):Bn:={ a0 with tmps:=(a0.tmps.toList.zipIdx.map λp=>if ds.contains p.2 then x p.2 else p.1).toArray }
theorem Z36 (b:Bn)(c:List Nat)(x:Nat->Af)(t:Nat):(frame b c x).tmps[t]? = b.tmps[t]?.map λv=>if c.contains t then x t else v:=by
 simp only [frame,List.getElem?_toArray,Cb,List.getElem?_zipIdx,Array.getElem?_toList,Option.map_map];cases b.tmps[t]? <;> simp
theorem Z52 (b:Bn)(c:List Nat)(x:Nat->Af):(frame b c x).tmps.size=b.tmps.size:=by simp [frame]
theorem Yv (b:Bn)(c:List Nat)(x:Nat->Af)(t:Nat)(h:c.contains t=false):(frame b c x).eval (.tmp t)=b.eval (.tmp t):=by
 have:=Z36 b c x t;simp only [Act.eval,Bw,this,h];cases b.tmps[t]? <;> simp
theorem Ym (b:Bn)(c:List Nat)(x:Nat->Af)(t:Nat)(h:c.contains t=true)(d:t<b.tmps.size):(frame b c x).eval (.tmp t)=x t:=by
 have:=Z36 b c x t;rw [Bo d] at this;simp only [Act.eval,Bw,this,h];simp
def upd (x:Nat->Af)(k:Nat)(v:Af):Nat->Af:=λt=>if t=k then v else x t
theorem Jj (x:Nat->Af)(k:Nat)(v:Af):upd x k v k=v:=by simp [upd]
theorem Xm (x:Nat->Af)(k t:Nat)(v:Af)(h:t≠k:=by decide):upd x k v t=x t:=by simp [upd,h]
theorem ke {x:Nat->Af}{t k:Nat}{V:Af}(c:L.getD j false=true->x t=V)(hi:i<L.size)(b:j≠i)(d:t≠k)(h:(L.setIfInBounds i true).getD j false=true):upd x k v t=V:=(Xm x k t v d).trans (c (X7 h hi b))
theorem act_ext {b:Bn}(e:∀ t:Nat,a.tmps[t]? = b.tmps[t]?)(f:a.defers=b.defers):a=b:=by
 obtain ⟨d,h⟩:=a;obtain ⟨c,g⟩:=b;have:d=c:=Array.ext_getElem? e;subst this;subst f;rfl
theorem Xs (b:Bn)(c:List Nat)(x:Nat->Af)(k:Nat)(v:Af)(h:c.contains k=true:=by rfl):(frame b c x).put (Ac k) v=frame b c (upd x k v):=by
 refine act_ext (λt=>?_) rfl;rw [Z36];show ((frame b c x).tmps.setIfInBounds k v)[t]? = _;rw [Array.getElem?_setIfInBounds];by_cases e:k=t
 ·subst e
  rw [Z52];by_cases d:k<b.tmps.size
  ·rw [if_pos rfl,if_pos d,Bo d]
   simp only [Option.map_some,h,if_true,upd]
  ·rw [if_pos rfl,if_neg d,Array.getElem?_eq_none (by omega)]
   rfl
 ·rw [if_neg e,Z36]
  have f:¬ t=k:=λh=>e h.symm
  simp [upd,f]
theorem frame_self (b:Bn)(c:List Nat):b=frame b c (λt=>b.tmps.getD t undef):=by
 refine act_ext (λt=>?_) rfl;rw [Z36]
 cases h:b.tmps[t]? with
 | none=>rfl
 | some v=>simp [Bw,h]
end
theorem Z3v {B g:Nat}{w0:Ag}(a:B<=g):∀(vs:List Af) (o:Nat) (w:Ag),Ai B w0 w->Ai B w0 (w.setCells g o vs)
 | [],_,_,h=>h
 | v :: vs,o,w,h=>Z3v a vs (o+1) _ (h.setCell (show B<=(⟨g,o,Ab⟩:B4).block from a) v)
def idle (o:Oper):Oper:={ o with op:=.move (.const undef),dst:=Ab,guard:=Ab }
def Yy (ops:Array Oper)(oz:Oper):Array Oper:=ops.setIfInBounds (ops.size-1) (idle oz)
def lastB (ops:Array Oper)(oz:Oper):Bool:=
 Region.lexB .any (Yy ops oz) && (List.range (ops.size-1)).all (λj=>(List.range ops.size).any λi=>decide (j<i) && (Jx .any ops i).contains j) &&
 ops.all (λo=>match o.guard with | none=>true | some (j,_)=>j != ops.size-1) && oz.guard.isNone && (List.range ops.size).all (λi=>(Jx .any ops i).all (· < i))
section
variable {P:Program} {ops:Array Oper} {oz:Oper} {C:Ag->Prop}
theorem Z5v (a:ops[ops.size-1]? = Ac oz)(i:Nat):(Yy ops oz)[i]? = if i=ops.size-1 then Ac (idle oz) else ops[i]?:=by
 unfold Yy;rw [Array.getElem?_setIfInBounds];by_cases h:ops.size-1=i
 ·subst h
  rw [if_pos rfl,if_pos rfl,if_pos (Array.getElem?_eq_some_iff.1 a).1]
 ·rw [if_neg h,if_neg (λe=>h e.symm)]
theorem Z5b (a:ops[ops.size-1]? = Ac oz)(L:Array Bool):Region.ready .any (Yy ops oz) L=Region.ready .any ops L:=by
 unfold Region.ready;rw [show (Yy ops oz).size=ops.size by unfold Yy;simp];refine List.filter_congr λi hi=>?_
 rw [Z5v a i];by_cases h:i=ops.size-1
 ·subst h;rw [if_pos rfl,a];rfl
 ·rw [if_neg h]
theorem Z6z (c:ops[ops.size-1]? = Ac oz){o:Oper}(a:(match o.guard with | none=>true | some (j,_)=>j != ops.size-1)=true)(t:Array Af):Region.wanted o (yielded (Yy ops oz) t)=Region.wanted o (yielded ops t):=by
 unfold Region.wanted
 cases h:o.guard with
 | none=>rfl
 | some g=>
  obtain ⟨j,b⟩:=g;rw [h] at a;have d:j≠ops.size-1:=by simpa using a
  have:yielded (Yy ops oz) t j=yielded ops t j:=by unfold yielded;rw [Z5v c j,if_neg d]
  simp only [this]
theorem wpAny_last (r:ops[ops.size-1]? = Ac oz)
  (hF:(List.range (ops.size-1)).all (λj=>(List.range ops.size).any λi=>decide (j<i) && (Jx .any ops i).contains j)=true)
  (hG:ops.all (λo=>match o.guard with | none=>true | some (j,_)=>j != ops.size-1)=true) (hN:oz.guard.isNone=true)
  (hO:(List.range ops.size).all (λi=>(Jx .any ops i).all (· < i))=true)
  {Q:Bn->Prop} {Q':Ca->Bn->Ag->Prop} (hQ:∀ a w,C w->Q a->oz.wp P a w (λa' w'=>Q' .normal a' w') Q') :
  ∀(b:Nat) (L:Array Bool) (a:Bn) (w:Ag),L.size=ops.size->(∀ i,L.getD i false=true->∀ j∈Jx .any ops i,L.getD j false=true)->L.getD (ops.size-1) false=false->C w ->
   wpAnyQ P .any (Yy ops oz) C Q b L a->wpAny P .any ops Q' b L a w:=by
 have m:=(Array.getElem?_eq_some_iff.1 r).1;intro b
 induction b with
 | zero=>
  intro L a w s u g hw h;have hr:=h.1;rw [Z5b r] at hr;have:=Z39 s hr hO _ m;rw [g] at this;cases this
 | succ b ih=>
  intro L a w s u g hw h;refine ⟨λhr=>?_,λi hi=>?_⟩
  ·have:=Z39 s hr hO _ m
   rw [g] at this;cases this
  have l:=h.2 i (by rw [Z5b r];exact hi);obtain ⟨ah,aj⟩:=Jn s hi;by_cases t:i=ops.size-1
  ·subst t
   have z:∀ d j,j<ops.size->ops.size-1-j=d->j≠ops.size-1->L.getD j false=true:=by
    intro d
    induction d using Nat.strongRecOn with
    | _ d ihd=>
     intro j hj hd ai;have h1:=List.all_eq_true.1 hF j (List.mem_range.2 (by omega));obtain ⟨k,q,aa⟩:=List.any_eq_true.1 h1;have ae:=List.mem_range.1 q;simp only [Al,decide_eq_true_eq] at aa;have p:=List.contains_iff_mem.1 aa.2;by_cases ab:k=ops.size-1
     ·subst ab;exact Y3 hi p
     ·exact u k (ihd _ (by omega) k ae rfl ab) j p
   have c:Region.ready .any ops (L.setIfInBounds (ops.size-1) true) = []:=by
    cases hc:Region.ready .any ops (L.setIfInBounds (ops.size-1) true) with
    | nil=>rfl
    | cons y ys=>
     exfalso;have hy:y∈Region.ready .any ops (L.setIfInBounds (ops.size-1) true):=by rw [hc];simp
     have ad:=(Jn (by simpa using s) hy).1;refine readyBit (by simpa using s) hy ?_;by_cases x:y=ops.size-1
     ·subst x;exact Z2p (by omega)
     ·exact Xl (z _ y ad rfl x) (by omega)
   have af:Q a:=by
    unfold qOp at l;rw [Z5v r,if_pos rfl] at l;simp only [idle,Region.wanted,if_true] at l;obtain ⟨v,hv,q⟩:=l;have f:=c;rw [<-Z5b r] at f
    cases b with
    | zero=>exact q.2
    | succ n=>exact q.1 f
   refine Zs r (by simpa using hN) ?_;refine Oper.wp_mono ?_ (hQ a w hw af);intro a' w' hn
   cases b with
   | zero=>exact ⟨c,hn⟩
   | succ n=>exact ⟨λ_=>hn,λi hi=>by rw [c] at hi;cases hi⟩
  ·obtain ⟨o,ho⟩:∃ o,ops[i]? = Ac o:=⟨_,Bo ah⟩
   have ag:qOp P ops C i (wpAnyQ P .any (Yy ops oz) C Q b (L.setIfInBounds i true)) a:=by
    unfold qOp at l ⊢;rw [Z5v r,if_neg t,ho] at l;rw [ho];simp only at l ⊢;have hg:=Array.all_eq_true_iff_forall_mem.1 hG o (Array.mem_of_getElem? ho);rw [Z6z r hg] at l;exact l
   refine wpOp_of_qOp hw (λa' w' hw' q=>ih _ a' w' (by simpa using s) ?_ ?_ hw' q) ag
   ·intro k q j hj
    by_cases ac:k=i
    ·subst ac;exact Xl (Y3 hi hj) (by omega)
    ·exact Xl (u k (X7 q (by omega) ac) j hj) (by omega)
   ·rw [Z17 _ _ _ (by omega),g]
    simp only [Bool.or_false,decide_eq_false_iff_not];exact λe=>t e.symm
theorem Y6 {id:Nat}{Q:Ca->Bn->Ag->Prop}{a:Bn}{w:Ag}{l:List Oper}(oz:Oper)(u:P.follows .mixedOrders=true)(j:l.toArray[l.toArray.size-1]? = Ac oz)(t:lastB l.toArray oz=true)(x:C { w with drawn:=w.drawn+1 })
  (h:wpQuiet P l.toArray C (λb=>∀ w',C w'->oz.wp P b w' (λa2 w2=>Q .normal a2 w2) Q) l.dropLast a):(Code.region id l.toArray true).wp P Q a w:=by
 simp only [lastB,Al] at t;obtain ⟨⟨⟨⟨hL,hF⟩,s⟩,y⟩,hO⟩:=t;simp only [Region.lexB,Al] at hL
 refine wp_region_any u (wpAny_last (C:=C) (Q:=λb=>∀ w',C w'->oz.wp P b w' (λa2 w2=>Q .normal a2 w2) Q) j hF s y hO (λb w' hw' h'=>h' w' hw') _ _ _ _ (by simp) (λi hi=>absurd hi (λhi=>Z0g hi)) (by
  cases q:(Array.replicate l.toArray.size false).getD (l.toArray.size-1) false with
  | false=>rfl
  | true=>exact absurd q (λq=>Z0g q)) x ?_)
 have g:l≠[]:=λe=>by subst e;simp at j
 have n:l.getLast g=oz:=by
  have:=j;simp only [List.getElem?_toArray,List.size_toArray] at this;rw [List.getLast_eq_getElem];exact (List.getElem?_eq_some_iff.1 this).2
 have m:(Yy l.toArray oz).toList=l.dropLast ++ [idle oz]:=by
  unfold Yy;simp only [List.size_toArray,List.setIfInBounds_toArray]
  conv=>lhs;rw [<-List.dropLast_concat_getLast g]
  rw [List.set_append_right _ _ (by simp)];simp
 have p:=λo ho=>Array.all_eq_true_iff_forall_mem.1 s o (by simpa using ho)
 have r:∀(k:List Oper),(∀ o∈k,o∈l)->∀ b,wpQuiet P l.toArray C (λb=>∀ w',C w'->oz.wp P b w' (λa2 w2=>Q .normal a2 w2) Q) k b->wpQuiet P (Yy l.toArray oz) C (λb=>∀ w',C w'->oz.wp P b w' (λa2 w2=>Q .normal a2 w2) Q) (k ++ [idle oz]) b:=by
  intro k
  induction k with
  | nil=>
   intro _ b d;rw [List.nil_append];unfold wpQuiet;rw [if_pos (show Region.wanted (idle oz) _=true from rfl)];refine ⟨undef,λw' _=>?_,d⟩;unfold Oper.quietAt execOp;simp only [idle,Act.eval,Sem.run_pure];exact ⟨rfl,rfl⟩
  | cons o k ihk=>
   intro c b d;have f:=ihk (λo' ho'=>c o' (List.mem_cons_of_mem _ ho'));rw [List.cons_append];unfold wpQuiet at d ⊢;rw [Z6z j (p o (c o List.mem_cons_self))];split
   ·rename_i hwt;rw [if_pos hwt] at d
    obtain ⟨v,hv,z⟩:=d;exact ⟨v,hv,f _ z⟩
   ·rename_i hwt;rw [if_neg hwt] at d
    exact f _ d
 have:=wpAnyQ_lex (C:=C) (md:=.any) hL.1 (Yy l.toArray oz).toList 0 (Array.replicate (Yy l.toArray oz).size false) a (by simp) (by simpa using hL.2) (m▸r _ (λo ho=>List.dropLast_subset _ ho) a h);rw [show (Yy l.toArray oz).toList.length=l.toArray.size by unfold Yy;simp,show (Yy l.toArray oz).size=l.toArray.size by unfold Yy;simp] at this;exact this
end
theorem Xt (a b:Int)(w:Ag):Ar Ad 94 #[Aa O a,Aa O b] w λe w'=>e=Aj (Aa O (max a b))/\w'=w:=by
 by_cases h:a > b
 ·have e:max a b=a:=by omega
  rw [e];go_enter func94,ntmps94;go_wp2;go_ret;exact ⟨rfl,rfl⟩
 ·have e:max a b=b:=by omega
  rw [e];go_enter func94,ntmps94;go_wp2;go_ret;exact ⟨rfl,rfl⟩
theorem Xh (a b:Int)(w:Ag):Ar Ad 55 #[Aa O a,Aa O b] w λe w'=>e=Aj (Aa O (min a b))/\w'=w:=by
 by_cases h:a<b
 ·rw [show min a b=a by omega]
  go_enter func55,ntmps55;go_wp2;go_ret;exact ⟨rfl,rfl⟩
 ·rw [show min a b=b by omega]
  go_enter func55,ntmps55;go_wp2;go_ret;exact ⟨rfl,rfl⟩
theorem l1size_any (a:Option B4)(n cap:Nat)(c:n<=maxLen)(w:Ag):Ar Ad 52 #[I a n cap] w λe w'=>e=Aj (Aa O ((min n 400:Nat):Int))/\w'=w:=by
 have h:=λw=>Xh (n:Int) 400 w
 rw [show min (n:Int) 400=((min n 400:Nat):Int) by omega] at h;have H:=Z0 h;generalize min n 400=m at H ⊢;go_enter func52,ntmps52
 go_wp2_with (go_at_call 55;refine Calls.mono (H _) ?_;rintro e b ⟨rfl,rfl⟩)
 go_ret;exact ⟨rfl,rfl⟩
theorem entCells_one (l:List Ent):∀ u∈Zv l,u.oneCell'=true:=by
 induction l with
 | nil=>intro u a;cases a
 | cons e l ih=>
  intro u a;simp only [Zv,List.mem_append] at a;rcases a with a | a
  ·simp only [Ent.cells,B3,Br,or_false] at a
   rcases a with rfl | rfl | rfl | rfl | rfl | rfl | rfl <;> rfl
  ·exact ih u a
variable {w:Ag}{l:List Ent}
theorem Z3m {d:Array Oper}{rest:List Oper}{o:Oper}{a:Bn}{Q:Ca->Bn->Ag->Prop}(g:o.guard=Ab)(s x:Operand)
  (ho:o.op=.call { callee:=.builtin .append,args:=#[s,x],argTypes:=#[34,34] })
  {B:Nat} {v:Af}  (es:List Ent) (r:∀ e∈es,e.fits) (b:Zh w B v l) (p:a.eval s=v) (A:B4) (c:Nat) (t:∀ j u,(Zv es)[j]? = Ac u->w.cell? (A.add j)=Ac u) (hx:a.eval x=I (Ac A) es.length c) (n:l.length+es.length<=2000000) (hB:B<=w.heap.size)
  (h:∀ f w',Zh w' B f (l ++ es)->Ye w v w' f->wpList Ad d Q rest (a.put o.dst f) w'):wpList Ad d Q (o :: rest) a w:=by
 obtain ⟨i0,hi,i,m,k⟩:=info_parts infoEnt;refine wpList_append_own_at w g s x 34 ho B 118 i0 _ 7 80 underlying34 hi i m k rfl (by decide) v _ _ p b.2 A _ c _ hx (Z23 es) t (entCells_one es) (by unfold maxLen;omega) (by omega) hB ?_;intro f w' q h3 _ z;refine h f w' ⟨λy hy=>?_,by rw [Z26];simpa using q⟩ ⟨h3,z.imp id λe=>⟨_,e,Ao _⟩⟩;rcases List.mem_append.1 hy with hy | hy
 ·exact b.1 y hy
 ·exact r y hy
theorem Z4c {b a:Nat}(h:∀ j (f:j<l.length),Ja w b (a+j*7) l[j]):∀ j u,(Zv l)[j]? = Ac u->w.cell? ((⟨b,a,Ab⟩:B4).add j)=Ac u:=by
 intro j u f;have d:=(List.getElem?_eq_some_iff.1 f).1;rw [Z23] at d;rw [Z2g];have g:j / 7<l.length:=by omega
 have e:j=j / 7*7+j%7:=by omega
 have c:=Z66 l (j / 7) g (j%7) (by omega);rw [<-e,f] at c;obtain ⟨p,m,o,n,i,q,k⟩:=h (j / 7) g;have s:j%7<7:=by omega
 rw [show a+j=a+j / 7*7+j%7 by omega];generalize j%7=r at *;rcases (show r=0∨r=1∨r=2∨r=3∨r=4∨r=5∨r=6 by omega) with rfl | rfl | rfl | rfl | rfl | rfl | rfl
 ·exact p.trans c.symm
 ·exact m.trans c.symm
 ·exact o.trans c.symm
 ·exact n.trans c.symm
 ·exact i.trans c.symm
 ·exact q.trans c.symm
 ·exact k.trans c.symm
theorem eql_nil (t e:Ax)(a:Option B4)(l c:Nat)(h:Tryz.prog.underlying t=Ac (.slice e))(w:Ag):(binOp .eql t (I a l c) (I Ab 0 0)).run Ad w=.ok (.bool a.isNone) w:=by
 simp only [binOp];simp [run_equal_slice_nil w t e a l c h]
theorem Z7y (v:Af)(l:List Ent)(w:Ag)(x:Es w v l)(q:l.length<=1048576) :
  Ar Ad 80 #[v] w λe w'=>∃ i,e=.returned i/\Zh w' w.heap.size i l/\Ai w.heap.size w w':=by
 obtain ⟨z,k,a,cap,rfl,g⟩:=x;have n:=λu=>eql_nil 34 118 a l.length cap underlying34 u
 cases a with
 | none=>
  have o:l = []:=by
   cases l with
   | nil=>rfl
   | cons e l=>
    obtain ⟨b,f,h,_⟩:=g 0 (by simp);cases h
  subst o;simp only [Option.isNone_none,List.length_nil] at n;go_enter func80,ntmps80;go_wp2;go_ret;exact ⟨_,rfl,Zh.nil _ _,An _ _⟩
 | some A=>
  have r:Hid (∀ j u,(Zv l)[j]? = Ac u->w.cell? (A.add j)=Ac u):=by
   intro j u c
   cases l with
   | nil=>cases c
   | cons e l'=>
    obtain ⟨b,f,h,d⟩:=g 0 (by simp);injection h with h;subst h;exact Z4c d j u c
  have p:=Z0 k;simp only [Option.isNone_some] at n;go_enter func80,ntmps80
  go_wp2_with (at_builtin;refine Z3m rfl _ _ rfl l p (Zh.made w _ (Ao _)) rfl A cap (λj u c=>(by have m:=r.out j u c;rw [World.cell?_alloc_lt _ _ _ (World.block_lt_of_cell? w _ m)];exact m)) rfl (by simp;omega) (by simp) ?_;intro i w' t s;have y:=growE s (Zh.made w w.heap.size (Ao _)) (by simp))
  go_ret;exact ⟨_,rfl,by simpa using t,baq.trans y⟩
end Go.Proofs.YtmmpoppgabadmaaGreat
