import Derived.Test.YtmmpoppgabadmaaGreatRows
import Derived.WalkKit
import Derived.WalkSpells
import Derived.RowKit3
import Derived.Below
import Derived.Deep.Light
import Derived.Deep.QuietTactic
import Derived.BigQuiet
import Derived.Laws.OwnMore
import Derived.Laws.BitsAllLaws
import Derived.OwnWalk
import Derived.Lib.AppendStr
import Derived.Maps.AppendAt
import Derived.Deep.MidRow
import Derived.Deep.WholeRow
set_option linter.unusedVariables false
set_option linter.unusedSimpArgs false
set_option maxRecDepth 100000
set_option maxHeartbeats 16000000
namespace Go.Proofs.YtmmpoppgabadmaaGreat
open Go.RowKit
theorem Z0b {W w1:World}(hb:Below W.heap.size W w1):(∀ b o,b<W.heap.size->w1.cell? ⟨b,o,none⟩=W.cell? ⟨b,o,none⟩)/\(∀ b o,b<W.heap.size->w1.frozen? ⟨b,o,none⟩=W.frozen? ⟨b,o,none⟩):=
 ⟨fun b o h=>hb.cell (p:=⟨b,o,none⟩) h,fun b o h=>hb.frozen (p:=⟨b,o,none⟩) h⟩
theorem Yj {k:IntKind}{a b:Int}(h:a=b):Ending.returned (.int k a)=.returned (.int k b):=by rw [h]
theorem ifc {α:Type}{p q:Prop}[Decidable p][Decidable q]{a b c d:α}(h:p↔q)(h1:a=c)(h2:b=d):(if p then a else b)=if q then c else d:=by
 subst h1 h2;by_cases hp:p
 ·rw [if_pos hp,if_pos (h.1 hp)]
 ·rw [if_neg hp,if_neg (fun hq=>hp (h.2 hq))]
theorem sw {f:FuncId}{a:Array Value}{w:World}{V:Ending}(h:Calls Tryz.prog f a w fun e w'=>e=V/\w'=w){Q:Ending->World->Prop}(k:Q V w):Calls Tryz.prog f a w Q:=h.mono (by rintro e w' ⟨rfl,rfl⟩;exact k)
def Bs (w:World)(v:Value)(l:List Int):Prop:=
 l.length<=maxLen/\(∀ x∈l,0<=x/\x<=255) /\
 ∃ a cap,v=.slice a l.length cap/\∀ i,i<l.length->∃ b off,a=some ⟨b,off,none⟩/\∀ j,j<l.length->w.cell? ⟨b,off+j,none⟩=some (.int .u8 (l[j]?.getD 0))
theorem byte_at {l:List Int}(h:∀ x∈l,0<=x/\x<=255)(k:Nat):0<=l[k]?.getD 0/\l[k]?.getD 0<=255:=by
 rcases Nat.lt_or_ge k l.length with hk | hk
 ·rw [List.getElem?_eq_getElem hk];exact h _ (List.getElem_mem hk)
 ·rw [List.getElem?_eq_none hk];simp
theorem Xb {w:World}{b o:Nat}{v:Value}(h:w.cell? ⟨b,o,none⟩=some v):b<w.heap.size:=by
 rcases Nat.lt_or_ge b w.heap.size with h' | h'
 ·exact h'
 ·rw [World.cell?,Array.getElem?_eq_none h'] at h;simp at h
theorem Bs.below {w w':World}{v:Value}{l:List Int}(h:Bs w v l)(hb:Below w.heap.size w w'):Bs w' v l:=by
 obtain ⟨hl,h8,a,cap,rfl,hc⟩:=h;refine ⟨hl,h8,a,cap,rfl,fun i hi=>?_⟩;obtain ⟨b,off,rfl,hj⟩:=hc i hi;exact ⟨b,off,rfl,fun j hj'=>by rw [hb.cell (Xb (hj j hj'))];exact hj j hj'⟩
theorem infoU8:(Tryz.prog.info? 5).map (fun i=>(i.zero,i.size,i.bytes))=some (some (.int .u8 0),1,1):=by kernel_rfl
def Own (w:World)(B:Nat)(v:Value)(l:List Int):Prop:=
 (∀ x∈l,0<=x/\x<=255)/\w.ownsRow B 5 1 v l.length (l.map (Value.int .u8))
theorem Own.shape {w:World}{B:Nat}{v:Value}{l:List Int}(h:Own w B v l):∃ a cap,v=.slice a l.length cap:=by
 rcases h.2.2 with ⟨rfl,h0⟩ | ⟨g,cap,cur,rfl,_⟩
 ·exact ⟨none,0,by rw [h0]⟩
 ·exact ⟨_,_,rfl⟩
theorem Own.shape' {w:World}{B:Nat}{v:Value}{l:List Int}(h:Own w B v l)(hl:0<l.length):∃ g cap,v=.slice (some ⟨g,0,none⟩) l.length cap:=by
 rcases h.2.2 with ⟨rfl,h0⟩ | ⟨g,cap,cur,rfl,_⟩
 ·omega
 ·exact ⟨_,_,rfl⟩
theorem heap_lt {w:World}{g:Nat}{o:Obj}(h:w.heap[g]? = some o):g<w.heap.size:=by
 rcases Nat.lt_or_ge g w.heap.size with h' | h'
 ·exact h'
 ·rw [Array.getElem?_eq_none h'] at h;cases h
theorem Own.below {w w':World}{B:Nat}{v:Value}{l:List Int}(h:Own w B v l)(hb:Below w.heap.size w w'):Own w' B v l:=by
 refine ⟨h.1,h.2.1,?_⟩;rcases h.2.2 with h | ⟨g,cap,cur,hv,hg,hh,r⟩
 ·exact .inl h
 ·exact .inr ⟨g,cap,cur,hv,hg,(hb.block g (heap_lt hh)).trans hh,r⟩
theorem Z1d (b o j:Nat):(⟨b,o,none⟩:Addr).add j=⟨b,o+j,none⟩:=by
 unfold Addr.add;split
 ·next h=>subst h;rfl
 ·rfl
theorem Own.bs {w:World}{B:Nat}{v:Value}{l:List Int}(h:Own w B v l)(hl:l.length<=maxLen):Bs w v l:=by
 obtain ⟨a,cap,rfl⟩:=h.shape;refine ⟨hl,h.1,a,cap,rfl,fun i hi=>?_⟩;obtain ⟨g,cap',e⟩:=h.shape' (by omega);simp only [Value.slice.injEq] at e;obtain ⟨rfl,_,rfl⟩:=e;refine ⟨g,0,rfl,fun j hj=>?_⟩;have:=h.2.cellAt j (by omega);rw [Nat.zero_add,this];simp [hj]
theorem Own.lit (w:World)(l:List Int)(cs:Array Value)(hc:cs.toList=l.map (Value.int .u8))(h8:∀ x∈l,0<=x/\x<=255)(hl:l.length<=maxLen) :
  Own (w.alloc (.cells cs 5)) w.heap.size (.slice (some ⟨w.heap.size,0,none⟩) l.length l.length) l:=by
 have hs:cs.size=l.length:=by rw [<-Array.length_toList,hc,List.length_map]
 refine ⟨h8,by simp,.inr ⟨w.heap.size,l.length,cs,rfl,Nat.le_refl _,?_,Nat.le_refl _,hl,by omega,?_⟩⟩
 ·show (w.heap.push _)[_]? = _
  simp
 ·rw [hc,List.take_of_length_le (by simp)]
structure Xe (w:World) (v:Value) (w':World) (v':Value):Prop where
 g:w.grownBy w' v.ownBlock
 at':v'.ownBlock=v.ownBlock∨∃ k,v'.ownBlock=some k/\w.heap.size<=k
theorem Xe.refl (w:World)(v:Value):Xe w v w v:=⟨⟨rfl,rfl,rfl,Nat.le_refl _,fun _ _ _=>rfl⟩,.inl rfl⟩
theorem Xe.trans {w w1 w2:World}{v v1 v2:Value}(h:Xe w v w1 v1)(k:Xe w1 v1 w2 v2):Xe w v w2 v2:=by
 have hs:=h.g.size;refine ⟨⟨k.g.os.trans h.g.os,k.g.tape.trans h.g.tape,k.g.output.trans h.g.output,Nat.le_trans h.g.size k.g.size,fun i hi hne=>?_⟩,?_⟩
 ·refine (k.g.block i (by omega) ?_).trans (h.g.block i hi hne)
  rcases h.at' with e | ⟨j,e,hj⟩
  ·rw [e];exact hne
  ·rw [e];intro he;injection he with he;omega
 ·rcases k.at' with e | ⟨j,e,hj⟩
  ·rw [e];exact h.at'
  ·exact .inr ⟨j,e,by omega⟩
theorem Xe.below {B:Nat}{w w':World}{v v':Value}{l:List Int}(h:Xe w v w' v')(hown:Own w B v l)(hB:B<=w.heap.size):Below B w w':=
 (Below.refl _ _).grown h.g hB (fun k hk=>(hown.2.lt k hk).1)
theorem Xe.block {w w':World}{v v':Value}(h:Xe w v w' v'){k:Nat}(hk:k<w.heap.size)(hne:v.ownBlock≠some k):w'.heap[k]? = w.heap[k]?:=h.g.block k hk (fun e=>hne e.symm)
theorem wpl_append {w:World}{ops:Array Oper}{rest:List Oper}{o:Oper}{a:Act}{Q:Exit->Act->World->Prop}(hgd:o.guard=none)(s x:Operand)
  (ho:o.op=.call { callee:=.builtin .append,args:=#[s,x],argTypes:=#[55,55] })
  {B:Nat} {v u:Value} {l l2:List Int} (hown:Own w B v l) (hs:a.eval s=v) (hu:Bs w u l2) (hx:a.eval x=u) (hne:0<l2.length) (hlen:l.length+l2.length<=1073741824) (hB:B<=w.heap.size)
  (h:∀ v' w',Own w' B v' (l ++ l2)->Xe w v w' v'->wpList Tryz.prog ops Q rest (a.put o.dst v') w'):wpList Tryz.prog ops Q (o :: rest) a w:=by
 obtain ⟨i0,hi,hz0,hz1,hz2⟩:=info_parts infoU8;obtain ⟨_,h8,au,cu,rfl,hc⟩:=hu;obtain ⟨b,off,rfl,Xa⟩:=hc 0 hne;refine wpList_append_own_at w hgd s x 55 ho B 5 i0 (.int .u8 0) 1 1 Tryz.underlying55 hi hz0 hz1 hz2 rfl (by decide) v l.length _ hs hown.2 ⟨b,off,none⟩ l2.length cu (l2.map (Value.int .u8)) hx (by simp) ?_ ?_ (by unfold maxLen;omega) (by omega) hB ?_
 ·intro j u hj
  rw [Z1d];rw [List.getElem?_map] at hj
  cases hk:l2[j]? with
  | none=>rw [hk] at hj;cases hj
  | some y=>
   rw [hk] at hj
   have hjl:j<l2.length:=by
    rcases Nat.lt_or_ge j l2.length with h' | h'
    ·exact h'
    ·rw [List.getElem?_eq_none h'] at hk;cases hk
   rw [Xa j hjl,hk];exact hj
 ·intro u hu
  simp only [List.mem_map] at hu;obtain ⟨y,_,rfl⟩:=hu;rfl
 ·intro v' w' h2 h3 _ h5
  refine h v' w' ⟨fun y hy=>?_,by simpa using h2⟩ ⟨h3,h5.imp id fun e=>⟨_,e,Nat.le_refl _⟩⟩;rcases List.mem_append.1 hy with hy | hy
  ·exact hown.1 y hy
  ·exact h8 y hy
def Src (w:World)(g:Nat)(v:Value)(l:List Int)(k:Nat):Prop:=
 g<w.heap.size/\(∀ i,w.frozen? ⟨g,i,none⟩=false)/\Bs w v l/\w.cell? ⟨g,0,none⟩=some v/\w.cell? ⟨g,1,none⟩=some (.int .i64 k)
theorem src_set {w:World}{v:Value}{l:List Int}(h:Bs w v l){b i:Nat}{x:Value}(hx:w.cell? ⟨b,i,none⟩=some x)(hn:∀ n,x≠.int .u8 n)(y:Value):Bs (w.setCell ⟨b,i,none⟩ y) v l:=by
 obtain ⟨hl,h8,a,cap,rfl,hc⟩:=h;refine ⟨hl,h8,a,cap,rfl,fun j hj=>?_⟩;obtain ⟨b',off,rfl,hj'⟩:=hc j hj;refine ⟨b',off,rfl,fun m hm=>?_⟩;have hcm:=hj' m hm;by_cases e:(⟨b,i,none⟩:Addr)=⟨b',off+m,none⟩
 ·rw [<-e,hx] at hcm
  injection hcm with hcm;exact absurd hcm (hn _)
 ·rw [World.cell?_setCell_other w _ _ _ e];exact hcm
theorem Src.start (w:World)(v:Value)(l:List Int)(h:Bs w v l)(T:Nat):Src (w.alloc (.cells #[v,.int .i64 0] T)) w.heap.size v l 0:=by
 refine ⟨by simp,fun i=>by simp,h.below ((Below.refl _ _).alloc (Nat.le_refl _) _),?_,?_⟩ <;> rw [World.cell?_alloc_new] <;> rfl
theorem World.grownBy.trans' {w w1 w2:World}{row:Option Nat}(h:w.grownBy w1 row)(k:w1.grownBy w2 row):w.grownBy w2 row:=
 ⟨k.os.trans h.os,k.tape.trans h.tape,k.output.trans h.output,Nat.le_trans h.size k.size,fun i hi hne=>(k.block i (Nat.lt_of_lt_of_le hi h.size) hne).trans (h.block i hi hne)⟩
def Ym (l:List Int)(k:Nat):Int:=if k<l.length then l[k]?.getD 0 else (((k*167+k / 3*41+l.length*29)%256:Nat):Int)
theorem Z3r {l:List Int}(h:∀ x∈l,0<=x/\x<=255)(k:Nat):0<=Ym l k/\Ym l k<=255:=by
 unfold Ym;split
 ·exact byte_at h k
 ·omega
theorem Xn (g:Nat)(w:World)(v:Value)(l:List Int)(k:Nat)(hL:l.length<=1048576)(hk:k<=1000000000)(h:Src w g v l k) :
  Calls Tryz.prog 93 #[.pointer (some ⟨g,0,none⟩)] w fun e w'=>e=.returned (.int .i64 (Ym l k))/\Src w' g v l (k+1)/\w.grownBy w' (some g):=by
 obtain ⟨hg,hf,hb,h0,h1⟩:=h
 have HE:∀ m,Hid (Src ((w.drewN m).setCell ⟨g,1,none⟩ (.int .i64 ((k+1:Nat):Int))) g v l (k+1)/\w.grownBy ((w.drewN m).setCell ⟨g,1,none⟩ (.int .i64 ((k+1:Nat):Int))) (some g)):=fun m=>by
  refine ⟨⟨by simpa [World.setCell] using hg,fun i=>?_,src_set (w:=w.drewN m) hb h1 (by intro n;simp) _,?_,World.cell?_setCell_same (w.drewN m) _ _ h1⟩,?_⟩
  ·rw [World.frozen?_setCell];exact hf i
  ·rw [World.cell?_setCell_other _ _ _ _ (by intro h;injection h with _ h2 _;cases h2)];exact h0
  ·exact ⟨rfl,rfl,rfl,by simp [World.setCell],fun j _ hj=>Below.heap_setCell _ _ _ _ (fun e=>hj (by rw [e]))⟩
 have hf1:=hf 1;have hby:=Z3r hb.2.1 k;obtain ⟨hl,h8,a,cap,rfl,hc⟩:=hb;by_cases hlt:k<l.length
 ·have hn:Ym l k=l[k]?.getD 0:=by unfold Ym;rw [if_pos hlt]
  rw [hn] at hby ⊢;obtain ⟨b,off,rfl,Xa⟩:=hc k hlt;have hck:=Xa k hlt;have hlt':(k:Int)<(l.length:Int):=by omega
  clear Xa hc h8 hf hn;generalize l[k]?.getD 0=cc at hck hby ⊢;obtain ⟨y0,y1⟩:=hby;go_enter Tryz.func93,Tryz.ntmps93;go_wp2;go_quiet (fail)
  go_wp2;go_quiet (fail)
  go_wp2;go_ret;exact ⟨rfl,(HE _).out.1,(HE _).out.2⟩
 ·have hn:Ym l k=(((k*167+k / 3*41+l.length*29)%256:Nat):Int):=by unfold Ym;rw [if_neg hlt]
  rw [hn] at hby ⊢;have hlt':¬(k:Int)<(l.length:Int):=by omega
  clear hc h8 hf;go_enter Tryz.func93,Tryz.ntmps93;go_wp2;go_quiet (fail)
  go_wp2;go_quiet (fail)
  go_wp2;go_ret;exact ⟨by simp,(HE _).out.1,(HE _).out.2⟩
def Zm (n:Nat):Nat:=if n<=256 then 1 else if n<=65536 then 2 else 4
def pickX (l:List Int)(k n:Nat):Int:=if n<=256 then Ym l k else if n<=65536 then Ym l k*256+Ym l (k+1) else (Ym l k*256+Ym l (k+1))*65536+Ym l (k+1+1)*256+Ym l (k+1+1+1)
def Z5 (l:List Int)(k n:Nat):Nat:=(pickX l k n).toNat%n
theorem Zf (l:List Int)(k n:Nat)(hn:0<n):Z5 l k n<n:=Nat.mod_lt _ hn
theorem Z2p (n:Nat):Zm n<=4:=by unfold Zm;split <;> (try split) <;> omega
theorem Z2w (x:Int)(n:Nat)(h:0<=x):((x.toNat%n:Nat):Int)=x%(n:Int):=by rw [Int.natCast_emod,Int.toNat_of_nonneg h]
theorem Src.byte {w:World}{g:Nat}{v:Value}{l:List Int}{k:Nat}(h:Src w g v l k)(j:Nat):0<=Ym l j/\Ym l j<=255:=Z3r h.2.2.1.2.1 j
theorem Zq (g:Nat)(w:World)(v:Value)(l:List Int)(k n:Nat)(hL:l.length<=1048576)(hk:k<=900000000)(hn:0<n)(hN:n<=4294967296)(h:Src w g v l k) :
  Calls Tryz.prog 53 #[.pointer (some ⟨g,0,none⟩),.int .i64 n] w fun e w'=>e=.returned (.int .i64 (Z5 l k n:Nat))/\Src w' g v l (k+Zm n)/\w.grownBy w' (some g):=by
 have b0:=h.byte k;have b1:=h.byte (k+1);have b2:=h.byte (k+1+1);have b3:=h.byte (k+1+1+1);have HS:Hid (Src w g v l k):=h;have HG:Hid (w.grownBy w (some g)):=⟨rfl,rfl,rfl,Nat.le_refl _,fun _ _ _=>rfl⟩;have g0:True:=trivial;have g1:True:=trivial;have g2:True:=trivial;clear h;by_cases h1:n<=256
 ·have hv:(Z5 l k n:Int)=Ym l k%(n:Int):=by
   unfold Z5 pickX;rw [if_pos h1];exact Z2w _ _ b0.1
  have hkk:Zm n=1:=by unfold Zm;rw [if_pos h1]
  rw [hv,hkk];have hgt:¬(256:Int)<n:=by omega
  go_enter Tryz.func53,Tryz.ntmps53
  go_wp2_with (go_at_call 93;refine (Xn g _ v l _ hL (by omega) HS.out).mono ?_;rintro e w1 ⟨rfl,hs1,hg1⟩;replace HS:Hid (Src w1 g v l (k+1)):=hs1;replace HG:Hid (w.grownBy w1 (some g)):=hg1;clear hs1 hg1;obtain ⟨c0,c1⟩:=b0)
  go_ret;exact ⟨by simp,HS.out,HG.out⟩
 ·by_cases h2:n<=65536
  ·have hv:(Z5 l k n:Int)=(Ym l k*256+Ym l (k+1))%(n:Int):=by
    unfold Z5 pickX;rw [if_neg h1,if_pos h2];exact Z2w _ _ (by omega)
   have hkk:Zm n=1+1:=by unfold Zm;rw [if_neg h1,if_pos h2]
   rw [hv,hkk];have hgt:(256:Int)<n:=by omega
   have hgt2:¬(65536:Int)<n:=by omega
   go_enter Tryz.func53,Tryz.ntmps53
   go_wp2_with (first
    |(go_at_call 93;clear g0;refine (Xn g _ v l k hL (by omega) HS.out).mono ?_;rintro e w1 ⟨rfl,hs1,hg1⟩;replace HS:Hid (Src w1 g v l (k+1)):=hs1;replace HG:Hid (w.grownBy w1 (some g)):=hg1;clear hs1 hg1;obtain ⟨c0,c1⟩:=b0)
    |(go_at_call 93;refine (Xn g _ v l (k+1) hL (by omega) HS.out).mono ?_;rintro e w2 ⟨rfl,hs1,hg1⟩;have HS2:Hid (Src w2 g v l (k+1+1)):=hs1;have HG2:Hid (w.grownBy w2 (some g)):=World.grownBy.trans' HG.out hg1;clear hs1 hg1;obtain ⟨c2,c3⟩:=b1))
   go_ret;exact ⟨by simp,HS2.out,HG2.out⟩
  ·have hv:(Z5 l k n:Int)=((Ym l k*256+Ym l (k+1))*65536+Ym l (k+1+1)*256+Ym l (k+1+1+1))%(n:Int):=by
    unfold Z5 pickX;rw [if_neg h1,if_neg h2];exact Z2w _ _ (by omega)
   have hkk:Zm n=1+1+1+1:=by unfold Zm;rw [if_neg h1,if_neg h2]
   rw [hv,hkk];have hgt:(256:Int)<n:=by omega
   have hgt2:(65536:Int)<n:=by omega
   go_enter Tryz.func53,Tryz.ntmps53
   go_wp2_with (first
    |(go_at_call 93;clear g0;refine (Xn g _ v l k hL (by omega) HS.out).mono ?_;rintro e w1 ⟨rfl,hs1,hg1⟩;replace HS:Hid (Src w1 g v l (k+1)):=hs1;replace HG:Hid (w.grownBy w1 (some g)):=hg1;clear hs1 hg1;obtain ⟨c0,c1⟩:=b0)
    |(go_at_call 93;clear g1;refine (Xn g _ v l (k+1) hL (by omega) HS.out).mono ?_;rintro e w2 ⟨rfl,hs1,hg1⟩;have HS2:Hid (Src w2 g v l (k+1+1)):=hs1;have HG2:Hid (w.grownBy w2 (some g)):=World.grownBy.trans' HG.out hg1;clear hs1 hg1;obtain ⟨c2,c3⟩:=b1)
    |(go_at_call 93;clear g2;refine (Xn g _ v l (k+1+1) hL (by omega) HS2.out).mono ?_;rintro e w3 ⟨rfl,hs1,hg1⟩;have HS3:Hid (Src w3 g v l (k+1+1+1)):=hs1;have HG3:Hid (w.grownBy w3 (some g)):=World.grownBy.trans' HG2.out hg1;clear hs1 hg1;obtain ⟨c4,c5⟩:=b2)
    |(go_at_call 93;refine (Xn g _ v l (k+1+1+1) hL (by omega) HS3.out).mono ?_;rintro e w4 ⟨rfl,hs1,hg1⟩;have HS4:Hid (Src w4 g v l (k+1+1+1+1)):=hs1;have HG4:Hid (w.grownBy w4 (some g)):=World.grownBy.trans' HG3.out hg1;clear hs1 hg1;obtain ⟨c6,c7⟩:=b3))
   go_ret;exact ⟨by simp,HS4.out,HG4.out⟩
theorem Rd.frame {w:World}{b:Nat}(x:Nat)(v:Value):w.grownBy (w.setCell ⟨b,x,none⟩ v) (some b):=
 ⟨rfl,rfl,rfl,by simp [World.setCell],fun k _ hk=>Below.heap_setCell _ _ _ _ (fun e=>hk (by rw [e]))⟩
theorem Zg {w w1 w2:World}{row:Option Nat}(h:w.grownBy w1 row)(k:w1.grownBy w2 row):w.grownBy w2 row:=
 ⟨k.os.trans h.os,k.tape.trans h.tape,k.output.trans h.output,Nat.le_trans h.size k.size,fun i hi hne=>(k.block i (Nat.lt_of_lt_of_le hi h.size) hne).trans (h.block i hi hne)⟩
theorem conv_bs {w:World}{a:Option Addr}{n c:Nat}{l:List Int}(h:Bs w (.slice a n c) l)(hn:0<l.length):(convert 55 9 (.slice a n c)).run Tryz.prog w=.ok (.string (strOfNums l)) w:=by
 obtain ⟨hl,h8,a',cap,e,Xa⟩:=h;injection e with e1 e2 e3;subst e1 e2 e3;obtain ⟨b,off,rfl,hj⟩:=Xa 0 hn;refine run_convert_bytes_arg w 55 5 Tryz.underlying55 Tryz.underlying5 b off l.length c l rfl (fun i hi=>?_) 9 Tryz.underlying9;rw [hj i hi];simp [List.getD,hi]
theorem bs_one (w:World)(x:Int)(h:0<=x/\x<=255):Bs (w.alloc (.cells #[.int .u8 x] 5)) (.slice (some ⟨w.heap.size,0,none⟩) 1 1) [x]:=
 (Own.lit w [x] #[.int .u8 x] rfl (by simpa using h) (by simp [maxLen])).bs (by simp [maxLen])
theorem l1long_any (n:Nat)(c:Int)(hn0:0<n)(hn:n<=1000)(hc:0<=c/\c<=255)(w:World) :
  Calls Tryz.prog 143 #[.int .i64 n,.int .u8 c] w fun e w'=>e=.returned (.string (strOfNums (List.replicate n c)))/\Below w.heap.size w w':=by
 have hO:=Own.lit w [] #[] rfl (by simp) (by simp [maxLen]);go_enter Tryz.func143,Tryz.ntmps143;go_wp2
 go_loopw [5,6] (fun o i wr=>∃ k:Nat,k<=n/\i=.int .i64 k/\Own wr w.heap.size o (List.replicate k c)/\Below w.heap.size w wr) (fun _ i _=>n-(intOf i).toNat)
 case atStart=>exact ⟨0,Nat.zero_le _,rfl,by simpa using hO,(Below.refl _ _).alloc (Nat.le_refl _) _⟩
 case round=>
  obtain ⟨k,hk,rfl,ho,hb⟩:=hrel;have hz:=hb.size;clear hO;by_cases hlt:k<n
  ·go_wp2_with (at_builtin;refine wpl_append rfl (.tmp 13) (.tmp 15) rfl (ho.below ((Below.refl _ _).alloc (Nat.le_refl _) _)) rfl (bs_one _ c hc) rfl (by simp) (by simp;omega) (by simp;omega) ?_;intro v2 w2 ho2 hg2)
   go_roundw
   case rel=>exact ⟨k+1,by omega,by go_num,by rw [List.replicate_succ'];exact ho2,hb.trans (((Below.refl _ _).alloc (by omega) _).trans (hg2.below (ho.below ((Below.refl _ _).alloc (Nat.le_refl _) _)) (by simp;omega)))⟩
   case measure=>simp [intOf];omega
  ·obtain rfl:k=n:=by omega
   obtain ⟨a',cap',e'⟩:=ho.shape;rw [List.length_replicate] at e';subst e';have hcv:=conv_bs (ho.bs (by simp [maxLen];omega)) (by simpa using hn0);clear ho;go_wp2;go_ret;exact ⟨rfl,hb⟩
def Zi (l:List Int)(k:Nat)(e:Bool):ByteArray×Nat:=
 if Z5 l k 16=0/\e=true then (⟨#[]⟩,k+1)
 else if Z5 l k 16=1 then (strOfNums (List.replicate (64-Z5 l (k+1) 2) (97+(Z5 l (k+1+1) 3:Nat))),k+1+1+1)
 else if Z5 l k 16=2 then (strOfNums [Ym l (k+1),Ym l (k+1+1)],k+1+1+1)
 else if Z5 l k 16<11 then (strOfNums [97+(Z5 l (k+1) 4:Nat)],k+1+1)
 else (strOfNums [97+(Z5 l (k+1) 3:Nat),48+(Z5 l (k+1+1) 10:Nat)],k+1+1+1)
theorem Yh (l:List Int)(k:Nat)(e:Bool):(Zi l k e).1.size<=64/\(e=false->0<(Zi l k e).1.size)/\k<(Zi l k e).2/\(Zi l k e).2<=k+3:=by
 have h2:=Zf l (k+1) 2 (by omega);unfold Zi;split
 ·next h=>exact ⟨by simp [ByteArray.size],fun he=>by simp [he] at h,by simp,by simp⟩
 ·split
  ·simp only [strOfNums_size,List.length_replicate];omega
  ·split
   ·simp [strOfNums_size];omega
   ·split <;> simp [strOfNums_size] <;> omega
theorem Yy {w w':World}{row:Option Nat}(h:w.grownBy w' row)(o:Obj):w.grownBy (w'.alloc o) row:=Zg h (World.grownBy_alloc _ _ _)
theorem Z3l {w w' w'':World}{row:Option Nat}(h:w.grownBy w' row)(hb:Below w'.heap.size w' w''):w.grownBy w'' row:=Zg h ⟨hb.os,hb.tape,hb.output,hb.size,fun k hk _=>hb.block k hk⟩
theorem Src.below {w w':World}{g:Nat}{v:Value}{l:List Int}{k:Nat}(h:Src w g v l k)(hb:Below w.heap.size w w'):Src w' g v l k:=
 ⟨Nat.lt_of_lt_of_le h.1 hb.size,fun i=>(hb.frozen h.1).trans (h.2.1 i),h.2.2.1.below hb,(hb.cell h.1).trans h.2.2.2.1,(hb.cell h.1).trans h.2.2.2.2⟩
theorem Z2g:Zm 16=1:=by decide
theorem pickK2:Zm 2=1:=by decide
theorem pickK3:Zm 3=1:=by decide
theorem pickK4:Zm 4=1:=by decide
theorem pickK10:Zm 10=1:=by decide
theorem X9 (g:Nat)(w:World)(v:Value)(l:List Int)(k:Nat)(e:Bool)(hL:l.length<=1048576)(hk:k<=800000000)(h:Src w g v l k) :
  Calls Tryz.prog 142 #[.pointer (some ⟨g,0,none⟩),.bool e] w fun r w'=>r=.returned (.string (Zi l k e).1)/\Src w' g v l (Zi l k e).2/\w.grownBy w' (some g):=by
 have p0:=Zf l k 16 (by omega);have p2:=Zf l (k+1) 2 (by omega);have p3:=Zf l (k+1+1) 3 (by omega);have p3':=Zf l (k+1) 3 (by omega);have p4:=Zf l (k+1) 4 (by omega);have p10:=Zf l (k+1+1) 10 (by omega);have b1:=h.byte (k+1);have b2:=h.byte (k+1+1);have HS:Hid (Src w g v l k):=h;have g0:True:=trivial;have g1:True:=trivial;have g2:True:=trivial;clear h;by_cases c0:Z5 l k 16=0/\e=true
 ·obtain ⟨c0,rfl⟩:=c0
  have hw:Zi l k true=(⟨#[]⟩,k+1):=by unfold Zi;rw [if_pos ⟨c0,rfl⟩]
  rw [hw];have HP:Hid (Z5 l k 16=0):=c0;clear c0 p0 p2 p3 p3' p4 p10 hw;go_enter Tryz.func142,Tryz.ntmps142
  go_wp2_with (go_at_call 53;clear g0;refine (Zq g _ v l k 16 hL (by omega) (by omega) (by omega) HS.out).mono ?_;rintro r w1 ⟨rfl,hs1,hg1⟩;rw [Z2g] at hs1;rw [HP.out])
  go_ret;exact ⟨rfl,hs1,hg1⟩
 have HE:Hid (Z5 l k 16=0->e=false):=fun h=>by cases e with | false=>rfl | true=>exact absurd ⟨h,rfl⟩ c0
 by_cases c1:Z5 l k 16=1
 ·have hw:Zi l k e=(strOfNums (List.replicate (64-Z5 l (k+1) 2) (97+(Z5 l (k+1+1) 3:Nat))),k+1+1+1):=by unfold Zi;rw [if_neg c0,if_pos c1]
  rw [hw];have HP:Hid (Z5 l k 16=1):=c1;clear c0 c1 HE p0 hw p3' p4 p10;have hn:((64:Int)-(Z5 l (k+1) 2:Nat))=((64-Z5 l (k+1) 2:Nat):Int):=by omega
  have HL:Hid (∀ w:World,Calls Tryz.prog 143 #[.int .i64 ((64:Int)-(Z5 l (k+1) 2:Nat)),.int .u8 (97+(Z5 l (k+1+1) 3:Nat))] w fun e w'=>e=.returned (.string (strOfNums (List.replicate (64-Z5 l (k+1) 2) (97+(Z5 l (k+1+1) 3:Nat)))))/\Below w.heap.size w w'):=fun w=>by
   rw [hn];exact l1long_any _ _ (by omega) (by omega) (by omega) w
  clear hn;generalize strOfNums (List.replicate (64-Z5 l (k+1) 2) (97+(Z5 l (k+1+1) 3:Nat)))=S at HL ⊢;go_enter Tryz.func142,Tryz.ntmps142
  go_wp2_with (first
   |(go_at_call 53;clear g0;refine (Zq g _ v l k 16 hL (by omega) (by omega) (by omega) HS.out).mono ?_;rintro r w1 ⟨rfl,hs1,hg1⟩;rw [Z2g] at hs1;rw [HP.out])
   |(go_at_call 53;clear g1;refine (Zq g _ v l (k+1) 2 hL (by omega) (by omega) (by omega) hs1).mono ?_;rintro r w2 ⟨rfl,hs2,hg2⟩;rw [pickK2] at hs2)
   |(go_at_call 53;clear g2;refine (Zq g _ v l (k+1+1) 3 hL (by omega) (by omega) (by omega) hs2).mono ?_;rintro r w3 ⟨rfl,hs3,hg3⟩;rw [pickK3] at hs3)
   |(go_at_call 143;refine (HL.out _).mono ?_;rintro r w4 ⟨rfl,hb4⟩))
  go_ret;exact ⟨rfl,hs3.below hb4,Z3l (Zg hg1 (Zg hg2 hg3)) hb4⟩
 by_cases c2:Z5 l k 16=2
 ·have hw:Zi l k e=(strOfNums [Ym l (k+1),Ym l (k+1+1)],k+1+1+1):=by unfold Zi;rw [if_neg c0,if_neg c1,if_pos c2]
  rw [hw];have HP:Hid (Z5 l k 16=2):=c2;clear c0 c1 c2 HE p0 hw p3' p4 p10 p2 p3;obtain ⟨q1,q2⟩:=b1;obtain ⟨q3,q4⟩:=b2
  have HC:Hid (∀ w:World,(convert 55 9 (.slice (some ⟨w.heap.size,0,none⟩) 2 2)).run Tryz.prog (w.alloc (.cells #[.int .u8 (Ym l (k+1)),.int .u8 (Ym l (k+1+1))] 5))=.ok (.string (strOfNums [Ym l (k+1),Ym l (k+1+1)])) (w.alloc (.cells #[.int .u8 (Ym l (k+1)),.int .u8 (Ym l (k+1+1))] 5))):=fun w=>
   conv_bs ((Own.lit w [Ym l (k+1),Ym l (k+1+1)] #[.int .u8 (Ym l (k+1)),.int .u8 (Ym l (k+1+1))] rfl (by simp;omega) (by simp [maxLen])).bs (by simp [maxLen])) (by simp)
  generalize strOfNums [Ym l (k+1),Ym l (k+1+1)]=S at HC ⊢;go_enter Tryz.func142,Tryz.ntmps142
  go_wp2_with (first
   |(go_at_call 53;clear g0;refine (Zq g _ v l k 16 hL (by omega) (by omega) (by omega) HS.out).mono ?_;rintro r w1 ⟨rfl,hs1,hg1⟩;rw [Z2g] at hs1;rw [HP.out])
   |(go_at_call 93;clear g1;refine (Xn g _ v l (k+1) hL (by omega) hs1).mono ?_;rintro r w2 ⟨rfl,hs2,hg2⟩)
   |(go_at_call 93;clear g2;refine (Xn g _ v l (k+1+1) hL (by omega) hs2).mono ?_;rintro r w3 ⟨rfl,hs3,hg3⟩;have hcv:=HC.out w3))
  go_ret;exact ⟨rfl,hs3.below ((Below.refl _ _).alloc (Nat.le_refl _) _),Yy (Zg hg1 (Zg hg2 hg3)) _⟩
 by_cases c3:Z5 l k 16<11
 ·have hw:Zi l k e=(strOfNums [97+(Z5 l (k+1) 4:Nat)],k+1+1):=by unfold Zi;rw [if_neg c0,if_neg c1,if_neg c2,if_pos c3]
  rw [hw]
  have HC:Hid (∀ w:World,(convert 55 9 (.slice (some ⟨w.heap.size,0,none⟩) 1 1)).run Tryz.prog (w.alloc (.cells #[.int .u8 (97+(Z5 l (k+1) 4:Nat))] 5))=.ok (.string (strOfNums [97+(Z5 l (k+1) 4:Nat)])) (w.alloc (.cells #[.int .u8 (97+(Z5 l (k+1) 4:Nat))] 5))):=fun w=>
   conv_bs ((Own.lit w [97+(Z5 l (k+1) 4:Nat)] #[.int .u8 (97+(Z5 l (k+1) 4:Nat))] rfl (by simp;omega) (by simp [maxLen])).bs (by simp [maxLen])) (by simp)
  clear hw p3' p10 p2 p3 b1 b2;generalize strOfNums [97+(Z5 l (k+1) 4:Nat)]=S at HC ⊢;have HQ:Hid (∃ P:Int,P=(Z5 l k 16:Nat)):=⟨_,rfl⟩;go_enter Tryz.func142,Tryz.ntmps142
  go_wp2_with (first
   |(go_at_call 53;clear g0;refine (Zq g _ v l k 16 hL (by omega) (by omega) (by omega) HS.out).mono ?_;rintro r w1 ⟨rfl,hs1,hg1⟩;rw [Z2g] at hs1)
   |(go_at_call 53;clear g1;refine (Zq g _ v l (k+1) 4 hL (by omega) (by omega) (by omega) hs1).mono ?_;rintro r w2 ⟨rfl,hs2,hg2⟩;rw [pickK4] at hs2;have hcv:=HC.out w2))
  all_goals first
   |(go_ret;exact ⟨rfl,hs2.below ((Below.refl _ _).alloc (Nat.le_refl _) _),Yy (Zg hg1 hg2) _⟩)
   |(exfalso;first | omega | (have:=HE.out (by omega);simp_all))
 ·have hw:Zi l k e=(strOfNums [97+(Z5 l (k+1) 3:Nat),48+(Z5 l (k+1+1) 10:Nat)],k+1+1+1):=by unfold Zi;rw [if_neg c0,if_neg c1,if_neg c2,if_neg c3]
  rw [hw]
  have HC:Hid (∀ w:World,(convert 55 9 (.slice (some ⟨w.heap.size,0,none⟩) 2 2)).run Tryz.prog (w.alloc (.cells #[.int .u8 (97+(Z5 l (k+1) 3:Nat)),.int .u8 (48+(Z5 l (k+1+1) 10:Nat))] 5))=.ok (.string (strOfNums [97+(Z5 l (k+1) 3:Nat),48+(Z5 l (k+1+1) 10:Nat)])) (w.alloc (.cells #[.int .u8 (97+(Z5 l (k+1) 3:Nat)),.int .u8 (48+(Z5 l (k+1+1) 10:Nat))] 5))):=fun w=>
   conv_bs ((Own.lit w [97+(Z5 l (k+1) 3:Nat),48+(Z5 l (k+1+1) 10:Nat)] #[.int .u8 (97+(Z5 l (k+1) 3:Nat)),.int .u8 (48+(Z5 l (k+1+1) 10:Nat))] rfl (by simp;omega) (by simp [maxLen])).bs (by simp [maxLen])) (by simp)
  clear hw p4 p2 p3 b1 b2 HE;generalize strOfNums [97+(Z5 l (k+1) 3:Nat),48+(Z5 l (k+1+1) 10:Nat)]=S at HC ⊢;go_enter Tryz.func142,Tryz.ntmps142
  go_wp2_with (first
   |(go_at_call 53;clear g0;refine (Zq g _ v l k 16 hL (by omega) (by omega) (by omega) HS.out).mono ?_;rintro r w1 ⟨rfl,hs1,hg1⟩;rw [Z2g] at hs1)
   |(go_at_call 53;clear g1;refine (Zq g _ v l (k+1) 3 hL (by omega) (by omega) (by omega) hs1).mono ?_;rintro r w2 ⟨rfl,hs2,hg2⟩;rw [pickK3] at hs2)
   |(go_at_call 53;clear g2;refine (Zq g _ v l (k+1+1) 10 hL (by omega) (by omega) (by omega) hs2).mono ?_;rintro r w3 ⟨rfl,hs3,hg3⟩;rw [pickK10] at hs3;have hcv:=HC.out w3))
  all_goals first
   |(go_ret;exact ⟨rfl,hs3.below ((Below.refl _ _).alloc (Nat.le_refl _) _),Yy (Zg hg1 (Zg hg2 hg3)) _⟩)
   |(exfalso;omega)
def Blk (w:World)(b:Nat)(C:Array Value)(t:TypeId):Prop:=w.heap[b]? = some (.cells C t (0,0))
section
variable {w w':World} {b:Nat} {C:Array Value} {t:TypeId}
theorem Blk.cell (h:Blk w b C t)(j:Nat):w.cell? ⟨b,j,none⟩=C[j]?:=cell_of_row w b j C t _ h
theorem Blk.free (h:Blk w b C t)(j:Nat):w.frozen? ⟨b,j,none⟩=false:=by
 have:w.heap[b]? = some (.cells C t (0,0)):=h;simp [World.frozen?,this]
theorem Blk.lt (h:Blk w b C t):b<w.heap.size:=(Array.getElem?_eq_some_iff.1 h).1
theorem Blk.new (w:World)(C:Array Value)(t:TypeId):Blk (w.alloc (.cells C t)) w.heap.size C t:=heap_alloc_last w _
theorem Blk.new' (w:World)(C:Array Value)(t:TypeId){k:Nat}(hk:k=w.heap.size):Blk (w.alloc (.cells C t)) k C t:=by subst hk;exact Blk.new w C t
theorem Blk.alloc (h:Blk w b C t)(o:Obj):Blk (w.alloc o) b C t:=(Below.heap_alloc w o b h.lt).trans h
theorem Blk.below {B:Nat}(h:Blk w b C t)(hb:Below B w w')(hlt:b<B):Blk w' b C t:=(hb.block b hlt).trans h
theorem Blk.keep (h:Blk w b C t)(hb:w'.heap[b]? = w.heap[b]?):Blk w' b C t:=hb.trans h
theorem Blk.drew (h:Blk w b C t):Blk w.drew b C t:=h
theorem Blk.set_other (h:Blk w b C t){p:Addr}(v:Value)(hne:b≠p.block):Blk (w.setCell p v) b C t:=(Below.heap_setCell w p v b hne).trans h
theorem Blk.set (h:Blk w b C t)(j:Nat)(v:Value):Blk (w.setCell ⟨b,j,none⟩ v) b (C.setIfInBounds j v) t:=by
 unfold Blk;rw [setCell_eq_setRow w b j C t (0,0) v h];exact setRow_heap w b C _ t _ h
theorem Blk.row (h:Blk w b C t)(C':Array Value):Blk (w.setRow b C') b C' t:=setRow_heap w b C C' t _ h
theorem Blk.row_other (h:Blk w b C t){k:Nat}(C':Array Value)(hne:b≠k):Blk (w.setRow k C') b C t:=(setRow_other w k b C' hne).trans h
theorem Blk.range (h:Blk w b C t):w.rangeAt b 0 C.toList:=fun j v hv=>by
 rw [Nat.zero_add,h.cell j,<-hv];simp
theorem Blk.there (h:Blk w b C t):w.there b 0 C.size:=fun j hj=>by
 rw [Nat.zero_add];refine ⟨?_,h.free j⟩;rw [h.cell j,Array.getElem?_eq_getElem hj];rfl
theorem J0 {B:Nat}{a:World}(h:Below B a w){k:Nat}(hk:B<=k)(C':Array Value):Below B a (w.setRow k C'):=h.trans ⟨rfl,rfl,rfl,by simp [World.setRow],fun i hi=>setRow_other w k i C' (by omega)⟩
end
section
variable {P:Program} {ops:Array Oper} {rest:List Oper} {o:Oper} {a:Act} {w:World} {Q:Exit->Act->World->Prop}
theorem Zw (ty:TypeId)(x:Operand)(ho:o.op=.load ty x)(h:wpList P ops Q (o :: rest) a w):wpList P ops Q (o :: rest) a w:=h
theorem Y2 (ty:TypeId)(x y:Operand)(ho:o.op=.store ty x y)(h:wpList P ops Q (o :: rest) a w):wpList P ops Q (o :: rest) a w:=h
theorem Zk (hgd:o.guard=none)(ty:TypeId)(x:Operand)(ho:o.op=.load ty x)(b:Nat)(hx:a.eval x=.pointer (some ⟨b,0,none⟩)){C:Array Value}{t:TypeId}(hb:Blk w b C t)
  {d:TypeDesc} (hu:P.underlying ty=some d) (hd:d.isRow=true) {n:Nat} (hi:(P.info? ty).map (·.size)=some n) (hn:n=C.size)
  (h:wpList P ops Q rest (a.put o.dst (.agg C)) w):wpList P ops Q (o :: rest) a w:=
 wpList_load_mid hgd ty x ho b 0 hx C.toList d hb.range hu hd (by rw [hi,hn];simp) h
theorem Jq {K:Act->World->Prop}(ty:TypeId)(x y:Operand)(ho:o.op=.store ty x y)(b:Nat)(hx:a.eval x=.pointer (some ⟨b,0,none⟩)){C C':Array Value}(hy:a.eval y=.agg C')
  {t:TypeId} (hb:Blk w b C t) {n:Nat} (hi:(P.info? ty).map (·.size)=some n) (hn:n=C'.size) (hc:C.size=C'.size) (h1:C'.all (·.oneCell')=true)
  (h:K (a.put o.dst undef) (w.setRow b C')):o.wp P a w K Q:=by
 unfold Oper.wp execOp;simp only [ho,hx,hy,Instr.storeAt,Instr.sureAddr,Sem.run_bind,Sem.run_pure,Result.andThen_ok,run_storeVar_row w b t ty C C' hb (by rw [hi,hn]) hc h1];exact h
theorem Z0f {K:Act->World->Prop}(ty:TypeId)(x:Operand)(ho:o.op=.load ty x)(b:Nat)(hx:a.eval x=.pointer (some ⟨b,0,none⟩)){C:Array Value}{t:TypeId}(hb:Blk w b C t)
  {d:TypeDesc} (hu:P.underlying ty=some d) (hd:d.isRow=true) {n:Nat} (hi:(P.info? ty).map (·.size)=some n) (hn:n=C.size)
  (h:K (a.put o.dst (.agg C)) w):o.wp P a w K Q:=
 wp_load_mid ty x ho b 0 hx C.toList d hb.range hu hd (by rw [hi,hn];simp) h
theorem Jj {gj:Nat}{gb:Bool}(hgd:o.guard=some (gj,gb))(hy:yielded ops a.tmps gj=some gb)(ty:TypeId)(x:Operand)(ho:o.op=.load ty x)(b:Nat)(hx:a.eval x=.pointer (some ⟨b,0,none⟩)){C:Array Value}{t:TypeId}(hb:Blk w b C t)
  {d:TypeDesc} (hu:P.underlying ty=some d) (hd:d.isRow=true) {n:Nat} (hi:(P.info? ty).map (·.size)=some n) (hn:n=C.size)
  (h:wpList P ops Q rest (a.put o.dst (.agg C)) w):wpList P ops Q (o :: rest) a w:=
 wpList_step fun K hK=>by
  simp only [Region.wanted,hgd,hy,beq_self_eq_true,if_true];exact Z0f ty x ho b hx hb hu hd hi hn (hK _ _ h)
theorem Y1 (hgd:o.guard=none)(ty:TypeId)(x y:Operand)(ho:o.op=.store ty x y)(b:Nat)(hx:a.eval x=.pointer (some ⟨b,0,none⟩)){C C':Array Value}(hy:a.eval y=.agg C')
  {t:TypeId} (hb:Blk w b C t) {n:Nat} (hi:(P.info? ty).map (·.size)=some n) (hn:n=C'.size) (hc:C.size=C'.size) (h1:C'.all (·.oneCell')=true)
  (h:wpList P ops Q rest (a.put o.dst undef) (w.setRow b C')):wpList P ops Q (o :: rest) a w:=
 wpList_plain hgd fun K hK=>by
  unfold Oper.wp execOp;simp only [ho,hx,hy,Instr.storeAt,Instr.sureAddr,Sem.run_bind,Sem.run_pure,Result.andThen_ok,run_storeVar_row w b t ty C C' hb (by rw [hi,hn]) hc h1];exact hK _ _ h
theorem Zz {c c':Array Value}{t:TypeId}(hgd:o.guard=none)(ty:TypeId)(x y:Operand)(ho:o.op=.store ty x y)(k:Nat)(hx:a.eval x=.pointer (some ⟨k,0,none⟩))(hk:k=w.heap.size)(hy:a.eval y=.agg c')
  {n:Nat} (hi:(P.info? ty).map (·.size)=some n) (hn:n=c'.size) (hc:c.size=c'.size) (h1:c'.all (·.oneCell')=true)
  (h:wpList P ops Q rest (a.put o.dst undef) (w.alloc (.cells c' t))):wpList P ops Q (o :: rest) a (w.alloc (.cells c t)):=by
 subst hk;refine Y1 hgd ty x y ho _ hx hy (Blk.new _ _ _) hi hn hc h1 ?_;rw [World.setRow_alloc_new];exact h
theorem setRow_under (w:World)(o:Obj)(c c':Array Value)(t:TypeId):((w.alloc (.cells c t)).alloc o).setRow w.heap.size c'=(w.alloc (.cells c' t)).alloc o:=by
 simp only [World.setRow,World.alloc];congr 1;apply Array.ext_getElem?;intro i;rw [Array.getElem?_modify];by_cases h:w.heap.size=i
 ·subst h
  simp [Array.getElem?_push]
 ·have h':¬ i=w.heap.size:=fun e=>h e.symm
  simp [h,h',Array.getElem?_push]
theorem Z15 {c c':Array Value}{t:TypeId}{ob:Obj}(hgd:o.guard=none)(ty:TypeId)(x y:Operand)(ho:o.op=.store ty x y)(k:Nat)(hx:a.eval x=.pointer (some ⟨k,0,none⟩))(hk:k=w.heap.size)(hy:a.eval y=.agg c')
  {n:Nat} (hi:(P.info? ty).map (·.size)=some n) (hn:n=c'.size) (hc:c.size=c'.size) (h1:c'.all (·.oneCell')=true)
  (h:wpList P ops Q rest (a.put o.dst undef) ((w.alloc (.cells c' t)).alloc ob)):wpList P ops Q (o :: rest) a ((w.alloc (.cells c t)).alloc ob):=by
 subst hk;refine Y1 hgd ty x y ho _ hx hy ((Blk.new _ _ _).alloc _) hi hn hc h1 ?_;rw [setRow_under];exact h
end
theorem Y9 {fn:Func}{s:Tmp}{ty:TypeId}{tmps:Array Value}{b:Nat}{w:World}{C:Array Value}{t:TypeId}(hr:fn.results=#[.cell s ty])(ht:tmps.getD s undef=.pointer (some ⟨b,0,none⟩))
  (hb:Blk w b C t) {d:TypeDesc} (hu:Tryz.prog.underlying ty=some d) (hd:d.isRow=true) {n:Nat} (hi:(Tryz.prog.info? ty).map (·.size)=some n) (hn:n=C.size):(results fn tmps).run Tryz.prog w=.ok (.agg C) w:=by
 have e:tmps[s]?.getD undef=.pointer (some ⟨b,0,none⟩):=by rw [<-ht];simp
 have hl:=run_loadVar_mid (P:=Tryz.prog) w b 0 ty C.toList d hb.range hu hd (by rw [hi,hn];simp);simp [results,hr,e,hl,asAddr]
theorem Src.alloc {w:World}{g:Nat}{v:Value}{l:List Int}{k:Nat}(h:Src w g v l k)(o:Obj):Src (w.alloc o) g v l k:=h.below ((Below.refl _ _).alloc (Nat.le_refl _) _)
theorem Src.lt {w:World}{g:Nat}{v:Value}{l:List Int}{k:Nat}(h:Src w g v l k):g<w.heap.size:=h.1
def NoU8 (C:Array Value):Prop:=∀(j:Nat) (n:Int),C[j]?≠some (Value.int .u8 n)
def isU8:Value->Bool
 | .int .u8 _=>true
 | _=>false
theorem Yd {C:Array Value}(h:C.toList.all (fun x=>!isU8 x)=true):NoU8 C:=fun j n e=>by
 have hm:(.int .u8 n:Value)∈C.toList:=by
  rw [<-Array.getElem?_toList] at e;exact List.mem_of_getElem? e
 have:=List.all_eq_true.1 h _ hm;simp [isU8] at this
theorem Src.setB {w:World}{g:Nat}{v:Value}{l:List Int}{k b:Nat}{C:Array Value}{t:TypeId}(h:Src w g v l k)(hb:Blk w b C t)(hne:b≠g)(j:Nat)(hj:j<C.size)(hn:NoU8 C)(y:Value):Src (w.setCell ⟨b,j,none⟩ y) g v l k:=by
 obtain ⟨h1,h2,h3,h4,h5⟩:=h;have hc:w.cell? ⟨b,j,none⟩=some C[j]:=by rw [hb.cell j];exact Array.getElem?_eq_getElem hj
 refine ⟨by simpa [World.setCell] using h1,fun i=>by rw [World.frozen?_setCell];exact h2 i,src_set h3 hc (fun n e=>hn j n (by rw [Array.getElem?_eq_getElem hj,e])) y,?_,?_⟩
 ·rw [World.cell?_setCell_other _ _ _ _ (by intro e;injection e with e _ _;exact hne e)];exact h4
 ·rw [World.cell?_setCell_other _ _ _ _ (by intro e;injection e with e _ _;exact hne e)];exact h5
theorem Src.row {w:World}{g:Nat}{v:Value}{l:List Int}{k b:Nat}{C:Array Value}{t:TypeId}(h:Src w g v l k)(hb:Blk w b C t)(hne:b≠g)(hn:NoU8 C)(C':Array Value):Src (w.setRow b C') g v l k:=by
 obtain ⟨h1,h2,⟨hl,h8,a,cap,rfl,hc⟩,h4,h5⟩:=h;have hg:(w.setRow b C').heap[g]? = w.heap[g]?:=setRow_other w b g C' (fun e=>hne e.symm)
 have hlt:g<(w.setRow b C').heap.size:=by
  rcases Nat.lt_or_ge g (w.setRow b C').heap.size with h' | h'
  ·exact h'
  ·rw [Array.getElem?_eq_none h',Array.getElem?_eq_getElem h1] at hg
   cases hg
 refine ⟨hlt,fun i=>?_,⟨hl,h8,a,cap,rfl,fun i hi=>?_⟩,(World.cell?_of_block (w:=w) hg).trans h4,(World.cell?_of_block (w:=w) hg).trans h5⟩
 ·have:=h2 i
  simp only [World.frozen?,hg] at this ⊢;exact this
 ·obtain ⟨b',off,rfl,hj⟩:=hc i hi
  refine ⟨b',off,rfl,fun m hm=>?_⟩;by_cases e:b'=b
  ·subst e
   have:=hj m hm;rw [hb.cell] at this;exact absurd this (hn _ _)
  ·exact (World.cell?_of_block (w:=w) (setRow_other w b b' C' e)).trans (hj m hm)
theorem Blk.grown {w w':World}{b g:Nat}{C:Array Value}{t:TypeId}(h:Blk w b C t)(hg:w.grownBy w' (some g))(hne:b≠g):Blk w' b C t:=
 h.keep (hg.block b h.lt (by intro e;injection e with e;exact hne e))
theorem Yl {w w1:World}{row:Option Nat}(h:w.grownBy w1 row){b:Nat}(hb:w.heap.size<=b)(j:Nat)(x:Value):w.grownBy (w1.setCell ⟨b,j,none⟩ x) row:=
 ⟨h.os,h.tape,h.output,by simpa [World.setCell] using h.size,fun k hk hne=>(Below.heap_setCell _ _ _ _ (by simp only;omega)).trans (h.block k hk hne)⟩
theorem X8 {w w1:World}{row:Option Nat}(h:w.grownBy w1 row){b:Nat}{C:Array Value}{t:TypeId}(hB:Blk w1 b C t)(hb:w.heap.size<=b)(C':Array Value):w.grownBy (w1.setRow b C') row:=by
 exact ⟨h.os,h.tape,h.output,by simpa [World.setRow] using h.size,fun k hk hne=>(setRow_other w1 b k C' (by omega)).trans (h.block k hk hne)⟩
structure Dr (w0 w:World) (g:Nat) (v:Value) (l:List Int) (k:Nat) (F:List (Nat×Array Value×TypeId)):Prop where
 grown:w0.grownBy w (some g)
 src:Src w g v l k
 gl:g<w0.heap.size
 bs0:Bs w0 v l
 blks:∀(i:Nat) x,F[i]? = some x->w0.heap.size<=x.1/\Blk w x.1 x.2.1 x.2.2/\NoU8 x.2.1
 dis:∀(i j:Nat) x y,F[i]? = some x->F[j]? = some y->x.1=y.1->i=j
section
variable {w0 w w':World} {g k k':Nat} {v:Value} {l:List Int} {F:List (Nat×Array Value×TypeId)}
theorem Dr.start (h:Src w g v l k):Dr w w g v l k []:=
 ⟨⟨rfl,rfl,rfl,Nat.le_refl _,fun _ _ _=>rfl⟩,h,h.lt,h.2.2.1,fun i x e=>(by simp at e),fun i j x y e=>(by simp at e)⟩
theorem Dr.blk (h:Dr w0 w g v l k F)(i:Nat){b:Nat}{C:Array Value}{t:TypeId}(hi:F[i]? = some (b,C,t)):Blk w b C t:=(h.blks i _ hi).2.1
theorem Dr.ge (h:Dr w0 w g v l k F)(i:Nat){b:Nat}{C:Array Value}{t:TypeId}(hi:F[i]? = some (b,C,t)):w0.heap.size<=b:=(h.blks i _ hi).1
theorem Dr.lt (h:Dr w0 w g v l k F)(i:Nat){b:Nat}{C:Array Value}{t:TypeId}(hi:F[i]? = some (b,C,t)):b<w.heap.size:=(h.blk i hi).lt
theorem Dr.ne (h:Dr w0 w g v l k F)(i:Nat){b:Nat}{C:Array Value}{t:TypeId}(hi:F[i]? = some (b,C,t)):b≠g:=by
 have h1:=h.ge i hi;have h2:=h.gl;omega
theorem Dr.size (h:Dr w0 w g v l k F):w0.heap.size<=w.heap.size:=h.grown.size
theorem Dr.call (h:Dr w0 w g v l k F)(hs:Src w' g v l k')(hg:w.grownBy w' (some g)):Dr w0 w' g v l k' F:=
 ⟨Zg h.grown hg,hs,h.gl,h.bs0,fun i x e=>⟨(h.blks i x e).1,((h.blks i x e).2.1).grown hg (by have h1:=(h.blks i x e).1;have h2:=h.gl;omega),(h.blks i x e).2.2⟩,h.dis⟩
theorem Dr.below (h:Dr w0 w g v l k F)(hb:Below w.heap.size w w'):Dr w0 w' g v l k F:=
 h.call (h.src.below hb) ⟨hb.os,hb.tape,hb.output,hb.size,fun k hk _=>hb.block k hk⟩
theorem Dr.other (h:Dr w0 w g v l k F)(o:Obj):Dr w0 (w.alloc o) g v l k F:=h.below ((Below.refl _ _).alloc (Nat.le_refl _) _)
theorem Dr.drew (h:Dr w0 w g v l k F):Dr w0 w.drew g v l k F:=h.below (Below.refl _ _).drew
theorem Dr.drewN (h:Dr w0 w g v l k F)(n:Nat):Dr w0 (w.drewN n) g v l k F:=h.below ⟨rfl,rfl,rfl,Nat.le_refl _,fun _ _=>rfl⟩
theorem Dr.new (h:Dr w0 w g v l k F)(C:Array Value)(t:TypeId)(hn:NoU8 C):Dr w0 (w.alloc (.cells C t)) g v l k (F ++ [(w.heap.size,C,t)]):=by
 have h':=h.other (.cells C t);refine ⟨h'.grown,h'.src,h'.gl,h.bs0,fun i x e=>?_,fun i j x y ei ej e=>?_⟩
 ·rcases Nat.lt_or_ge i F.length with hi | hi
  ·rw [List.getElem?_append_left hi] at e;exact h'.blks i x e
  ·rw [List.getElem?_append_right hi] at e
   rcases Nat.eq_zero_or_pos (i-F.length) with hz | hz
   ·rw [hz] at e;simp at e;subst e;exact ⟨h.size,Blk.new _ _ _,hn⟩
   ·rw [List.getElem?_eq_none (by simp;omega)] at e;cases e
 ·have key:∀(i:Nat) x,(F ++ [(w.heap.size,C,t)])[i]? = some x->(i<F.length/\F[i]? = some x/\x.1<w.heap.size)∨(i=F.length/\x.1=w.heap.size):=fun i x e=>by
   rcases Nat.lt_or_ge i F.length with hi | hi
   ·rw [List.getElem?_append_left hi] at e;exact .inl ⟨hi,e,((h.blks i x e).2.1).lt⟩
   ·rw [List.getElem?_append_right hi] at e
    rcases Nat.eq_zero_or_pos (i-F.length) with hz | hz
    ·rw [hz] at e;simp at e;subst e;exact .inr ⟨by omega,rfl⟩
    ·rw [List.getElem?_eq_none (by simp;omega)] at e;cases e
  rcases key i x ei with ⟨a1,a2,a3⟩ | ⟨a1,a2⟩ <;> rcases key j y ej with ⟨b1,b2,b3⟩ | ⟨b1,b2⟩
  ·exact h.dis i j x y a2 b2 e
  ·omega
  ·omega
  ·omega
theorem Dr.set (h:Dr w0 w g v l k F)(i:Nat){b:Nat}{C:Array Value}{t:TypeId}(hi:F[i]? = some (b,C,t))(j:Nat)(hj:j<C.size)(y:Value)(hy:isU8 y=false) :
  Dr w0 (w.setCell ⟨b,j,none⟩ y) g v l k (F.set i (b,C.setIfInBounds j y,t)):=by
 have hil:i<F.length:=(List.getElem?_eq_some_iff.1 hi).1;refine ⟨Yl h.grown (h.ge i hi) _ _,h.src.setB (h.blk i hi) (h.ne i hi) j hj (h.blks i _ hi).2.2 y,h.gl,h.bs0,fun n x e=>?_,fun n m x y' en em e=>?_⟩
 ·rw [List.getElem?_set] at e
  by_cases hn:i=n
  ·subst hn
   simp [hil] at e;subst e;refine ⟨h.ge i hi,(h.blk i hi).set j y,fun q m e=>?_⟩;rw [Array.getElem?_setIfInBounds] at e;split at e
   ·(try split at e)
    ·injection e with e;subst e;simp [isU8] at hy
   ·exact (h.blks i _ hi).2.2 q m e
  ·rw [if_neg hn] at e
   exact ⟨(h.blks n x e).1,((h.blks n x e).2.1).set_other _ (fun e'=>hn (h.dis i n _ _ hi e e'.symm)),(h.blks n x e).2.2⟩
 ·have key:∀(n:Nat) (x:Nat×Array Value×TypeId),(F.set i (b,C.setIfInBounds j y,t))[n]? = some x->∃ z:Nat×Array Value×TypeId,F[n]? = some z/\z.1=x.1:=fun n x e=>by
   rw [List.getElem?_set] at e;by_cases hn:i=n
   ·subst hn
    simp [hil] at e;subst e;exact ⟨_,hi,rfl⟩
   ·rw [if_neg hn] at e
    exact ⟨_,e,rfl⟩
  obtain ⟨z1,a1,a2⟩:=key n x en;obtain ⟨z2,b1,b2⟩:=key m y' em;exact h.dis n m z1 z2 a1 b1 (by rw [a2,b2,e])
theorem Dr.row (h:Dr w0 w g v l k F)(i:Nat){b:Nat}{C:Array Value}{t:TypeId}(hi:F[i]? = some (b,C,t))(C':Array Value)(hn':NoU8 C') :
  Dr w0 (w.setRow b C') g v l k (F.set i (b,C',t)):=by
 have hil:i<F.length:=(List.getElem?_eq_some_iff.1 hi).1;refine ⟨X8 h.grown (h.blk i hi) (h.ge i hi) _,h.src.row (h.blk i hi) (h.ne i hi) (h.blks i _ hi).2.2 C',h.gl,h.bs0,fun n x e=>?_,fun n m x y' en em e=>?_⟩
 ·rw [List.getElem?_set] at e
  by_cases hn:i=n
  ·subst hn
   simp [hil] at e;subst e;exact ⟨h.ge i hi,(h.blk i hi).row C',hn'⟩
  ·rw [if_neg hn] at e
   exact ⟨(h.blks n x e).1,((h.blks n x e).2.1).row_other _ (fun e'=>hn (h.dis i n _ _ hi e e'.symm)),(h.blks n x e).2.2⟩
 ·have key:∀(n:Nat) (x:Nat×Array Value×TypeId),(F.set i (b,C',t))[n]? = some x->∃ z:Nat×Array Value×TypeId,F[n]? = some z/\z.1=x.1:=fun n x e=>by
   rw [List.getElem?_set] at e;by_cases hn:i=n
   ·subst hn
    simp [hil] at e;subst e;exact ⟨_,hi,rfl⟩
   ·rw [if_neg hn] at e
    exact ⟨_,e,rfl⟩
  obtain ⟨z1,a1,a2⟩:=key n x en;obtain ⟨z2,b1,b2⟩:=key m y' em;exact h.dis n m z1 z2 a1 b1 (by rw [a2,b2,e])
theorem Z3k {B:Nat}(h:Src w g v l k)(h0:Bs w0 v l)(hw:w0.heap.size<=B)(hg:g<B)(hb:Below B w w'):Src w' g v l k:=by
 obtain ⟨h1,h2,⟨hl,h8,a,cap,rfl,hc⟩,h4,h5⟩:=h;obtain ⟨_,_,a',cap',e,hc0⟩:=h0;injection e with e1 e2 e3;subst e1 e3;refine ⟨Nat.lt_of_lt_of_le h1 hb.size,fun i=>by rw [hb.frozen (p:=⟨g,i,none⟩) hg];exact h2 i,⟨hl,h8,a,cap,rfl,fun i hi=>?_⟩,(hb.cell (p:=⟨g,0,none⟩) hg).trans h4,(hb.cell (p:=⟨g,1,none⟩) hg).trans h5⟩;obtain ⟨b,off,rfl,hj⟩:=hc i hi;obtain ⟨b',off',e',hj'⟩:=hc0 i hi;injection e' with e';injection e' with e1' e2';subst e1' e2';exact ⟨b,off,rfl,fun m hm=>(hb.cell (p:=⟨b,off+m,none⟩) (Nat.lt_of_lt_of_le (Xb (hj' m hm)) hw)).trans (hj m hm)⟩
theorem Dr.belowB (h:Dr w0 w g v l k F){B:Nat}(hb:Below B w w')(hB:w0.heap.size<=B)(hF:∀ x∈F,x.1<B):Dr w0 w' g v l k F:=
 ⟨⟨hb.os.trans h.grown.os,hb.tape.trans h.grown.tape,hb.output.trans h.grown.output,Nat.le_trans h.grown.size hb.size,fun q hq hne=>(hb.block q (by omega)).trans (h.grown.block q hq hne)⟩,
  Z3k h.src h.bs0 hB (Nat.lt_of_lt_of_le h.gl hB) hb,h.gl,h.bs0,fun i x e=>⟨(h.blks i x e).1,((h.blks i x e).2.1).below hb (hF x (List.mem_of_getElem? e)),(h.blks i x e).2.2⟩,h.dis⟩
theorem Dr.grew (h:Dr w0 w g v l k F){u u':Value}(hg:Xe w u w' u')(hB:∀ q,u.ownBlock=some q->w0.heap.size<=q)(hF:∀ x∈F,u.ownBlock≠some x.1):Dr w0 w' g v l k F:=by
 have hb:Below w0.heap.size w w':=(Below.refl _ _).grown hg.g h.size hB
 refine ⟨⟨hb.os.trans h.grown.os,hb.tape.trans h.grown.tape,hb.output.trans h.grown.output,Nat.le_trans h.grown.size hb.size,fun q hq hne=>(hb.block q hq).trans (h.grown.block q hq hne)⟩,
  Z3k h.src h.bs0 (Nat.le_refl _) h.gl hb,h.gl,h.bs0,fun i x e=>⟨(h.blks i x e).1,((h.blks i x e).2.1).keep (hg.block ((h.blks i x e).2.1).lt (hF x (List.mem_of_getElem? e))),(h.blks i x e).2.2⟩,h.dis⟩
theorem ownsRow.neBlk {w:World}{base e size n b:Nat}{v:Value}{xs:List Value}{C:Array Value}{t:TypeId}(h:w.ownsRow base e size v n xs)(hb:Blk w b C t)(hne:e≠t):v.ownBlock≠some b:=fun hv=>by
 rcases h.2 with ⟨e1,_⟩ | ⟨q,cap,cur,e1,_,hh,_⟩
 ·subst e1;cases hv
 ·subst e1
  injection hv with hv;have hv':q=b:=hv;subst hv';have hb':w.heap[q]? = some (.cells C t (0,0)):=hb;rw [hb'] at hh;injection hh with hh;injection hh with _ hh _;exact hne hh.symm
theorem Dr.pick (h:Dr w0 w g v l k F)(n:Nat)(hL:l.length<=1048576)(hk:k<=900000000)(hn:0<n)(hN:n<=4294967296) :
  Calls Tryz.prog 53 #[.pointer (some ⟨g,0,none⟩),.int .i64 n] w fun e w'=>e=.returned (.int .i64 (Z5 l k n:Nat))/\Dr w0 w' g v l (k+Zm n) F:=
 (Zq g w v l k n hL hk hn hN h.src).mono fun e w' ⟨h1,h2,h3⟩=>⟨h1,h.call h2 h3⟩
end
theorem Yi:(Tryz.prog.info? 44).map (·.size)=some 6:=by kernel_rfl
theorem l1drawCmd_00 (g:Nat)(w:World)(v:Value)(l:List Int)(k:Nat)(hL:l.length<=1048576)(hk:k<=700000000)(h:Src w g v l k)(hp:0<Z5 l (Zi l (k+1+1+1) false).2 12)(ho:Z5 l (k+1+1) 4≠1/\Z5 l (k+1+1) 4≠3) :
  Calls Tryz.prog 105 #[.pointer (some ⟨g,0,none⟩)] w fun r w'=>r=.returned (.agg #[.int .i64 (1+(Z5 l k 8:Nat)),.int .i64 (1+(Z5 l (k+1) 6:Nat)),.int .i64 (1+(Z5 l (k+1+1) 4:Nat)),.string (Zi l (k+1+1+1) false).1,.string ⟨#[]⟩,.string ⟨#[]⟩])/\Src w' g v l ((Zi l (k+1+1+1) false).2+1)/\w.grownBy w' (some g):=by
 have HS:Hid (Src w g v l k):=h;have hg0:g<w.heap.size:=h.lt;clear h;have b0:=Zf l k 8 (by omega);have b1:=Zf l (k+1) 6 (by omega);have b2:=Zf l (k+1+1) 4 (by omega);have b3:=Yh l (k+1+1+1) false;have b4:=Zf l (Zi l (k+1+1+1) false).2 12 (by omega);have g0:True:=trivial;have g1:True:=trivial;have g2:True:=trivial;have g3:True:=trivial;have g4:True:=trivial;have fa0:¬(1+(Z5 l (k+1+1) 4:Nat):Int)=2:=by omega
 have fa1:¬(1+(Z5 l (k+1+1) 4:Nat):Int)=4:=by omega
 have fa2:¬((Z5 l (Zi l (k+1+1+1) false).2 12:Nat):Int)=0:=by omega
 go_enter Tryz.func105,Tryz.ntmps105
 go_wp2_with (first
  |(go_at_call 53;clear g0;refine Calls.mono (Zq g _ v l k 8 hL (by omega) (by omega) (by omega) (HS.out.alloc _)) ?_;rintro r w1 ⟨rfl,hs,hg⟩;rw [show Zm 8=1 from by first | decide | (unfold Zm;rw [if_pos (by omega)])] at hs;have z0:=hg.size;(try simp [World.setCell] at z0);have BR:Hid (Blk _ _ _ _):=(Blk.new w _ _).grown hg (by omega);have HG:Hid (w.grownBy w1 (some g)):=Zg (World.grownBy_alloc _ _ _) hg;replace HS:Hid (Src w1 g v l (k+1)):=hs;clear hs hg)
  |(go_at_call 53;clear g1;refine Calls.mono (Zq g _ v l (k+1) 6 hL (by omega) (by omega) (by omega) HS.out) ?_;rintro r w2 ⟨rfl,hs,hg⟩;rw [show Zm 6=1 from by first | decide | (unfold Zm;rw [if_pos (by omega)])] at hs;have z1:=hg.size;(try simp [World.setCell] at z1);replace BR:Hid (Blk _ _ _ _):=BR.out.grown hg (by omega);replace HG:Hid (w.grownBy w2 (some g)):=Zg HG.out hg;replace HS:Hid (Src w2 g v l ((k+1)+1)):=hs;clear hs hg)
  |(go_at_call 53;clear g2;refine Calls.mono (Zq g _ v l (k+1+1) 4 hL (by omega) (by omega) (by omega) HS.out) ?_;rintro r w3 ⟨rfl,hs,hg⟩;rw [show Zm 4=1 from by first | decide | (unfold Zm;rw [if_pos (by omega)])] at hs;have z2:=hg.size;(try simp [World.setCell] at z2);replace BR:Hid (Blk _ _ _ _):=BR.out.grown hg (by omega);replace HG:Hid (w.grownBy w3 (some g)):=Zg HG.out hg;replace HS:Hid (Src w3 g v l ((k+1+1)+1)):=hs;clear hs hg)
  |(go_at_call 142;clear g3;refine Calls.mono (X9 g _ v l (k+1+1+1) false hL (by omega) HS.out) ?_;rintro r w4 ⟨rfl,hs,hg⟩;have z3:=hg.size;(try simp [World.setCell] at z3);replace BR:Hid (Blk _ _ _ _):=BR.out.grown hg (by omega);replace HG:Hid (w.grownBy w4 (some g)):=Zg HG.out hg;replace HS:Hid (Src w4 g v l (Zi l (k+1+1+1) false).2):=hs;clear hs hg)
  |(have hBA:=HS;refine Y2 44 (.tmp 3) _ rfl ?_;clear hBA;refine Zz rfl 44 (.tmp 3) _ rfl (w4.heap.size) rfl rfl rfl Yi rfl rfl (by simp [Value.oneCell']) ?_)
  |(go_at_call 53;clear g4;refine Calls.mono (Zq g _ v l (Zi l (k+1+1+1) false).2 12 hL (by omega) (by omega) (by omega) (HS.out.alloc _)) ?_;rintro r w5 ⟨rfl,hs,hg⟩;rw [show Zm 12=1 from by first | decide | (unfold Zm;rw [if_pos (by omega)])] at hs;have z4:=hg.size;(try simp [World.setCell] at z4);replace BR:Hid (Blk _ _ _ _):=(BR.out.alloc _).grown hg (by omega);replace HG:Hid (w.grownBy w5 (some g)):=Zg (Yy HG.out _) hg;have BV:Hid (Blk _ _ _ _):=(Blk.new w4 _ _).grown hg (by omega);replace HS:Hid (Src w5 g v l ((Zi l (k+1+1+1) false).2+1)):=hs;clear hs hg;have cV4:=BV.out.cell;have fV4:=BV.out.free)
  |(have hBA:=HS;refine Zw 44 (.tmp 3) rfl ?_;clear hBA;refine Zk rfl 44 (.tmp 3) rfl (w4.heap.size) rfl BV.out Tryz.underlying44 rfl Yi rfl ?_)
  |(have hBA:=HS;refine Y2 44 (.tmp 2) _ rfl ?_;clear hBA;refine Y1 rfl 44 (.tmp 2) _ rfl (w.heap.size) rfl rfl BR.out Yi rfl rfl (by simp [Value.oneCell']) ?_))
 all_goals first
  | exact bodyPost_ret (v:=.agg #[.int .i64 (1+(Z5 l k 8:Nat)),.int .i64 (1+(Z5 l (k+1) 6:Nat)),.int .i64 (1+(Z5 l (k+1+1) 4:Nat)),.string (Zi l (k+1+1+1) false).1,.string ⟨#[]⟩,.string ⟨#[]⟩]) (Y9 Tryz.results105 rfl (BR.out.row _) Tryz.underlying44 rfl Yi rfl) rfl ⟨rfl,HS.out.row BR.out (by omega) (Yd rfl) _,X8 HG.out BR.out (Nat.le_refl _) _⟩
  |(exfalso;omega)
  |(exfalso;simp only [beq_iff_eq] at *;omega)
theorem l1drawCmd_01 (g:Nat)(w:World)(v:Value)(l:List Int)(k:Nat)(hL:l.length<=1048576)(hk:k<=700000000)(h:Src w g v l k)(hp:0<Z5 l (Zi l (k+1+1+1) false).2 12)(ho:Z5 l (k+1+1) 4=1) :
  Calls Tryz.prog 105 #[.pointer (some ⟨g,0,none⟩)] w fun r w'=>r=.returned (.agg #[.int .i64 (1+(Z5 l k 8:Nat)),.int .i64 (1+(Z5 l (k+1) 6:Nat)),.int .i64 2,.string (Zi l (k+1+1+1) false).1,.string (Zi l ((Zi l (k+1+1+1) false).2+1) true).1,.string ⟨#[]⟩])/\Src w' g v l (Zi l ((Zi l (k+1+1+1) false).2+1) true).2/\w.grownBy w' (some g):=by
 have HS:Hid (Src w g v l k):=h;have hg0:g<w.heap.size:=h.lt;clear h;have b0:=Zf l k 8 (by omega);have b1:=Zf l (k+1) 6 (by omega);have b2:=Zf l (k+1+1) 4 (by omega);have b3:=Yh l (k+1+1+1) false;have b4:=Zf l (Zi l (k+1+1+1) false).2 12 (by omega);have b5:=Yh l ((Zi l (k+1+1+1) false).2+1) true;have g0:True:=trivial;have g1:True:=trivial;have g2:True:=trivial;have g3:True:=trivial;have g4:True:=trivial;have g5:True:=trivial;have fa0:(1+(Z5 l (k+1+1) 4:Nat):Int)=2:=by omega
 have fa1:¬(1+(Z5 l (k+1+1) 4:Nat):Int)=4:=by omega
 have fa2:¬((Z5 l (Zi l (k+1+1+1) false).2 12:Nat):Int)=0:=by omega
 go_enter Tryz.func105,Tryz.ntmps105
 go_wp2_with (first
  |(go_at_call 53;clear g0;refine Calls.mono (Zq g _ v l k 8 hL (by omega) (by omega) (by omega) (HS.out.alloc _)) ?_;rintro r w1 ⟨rfl,hs,hg⟩;rw [show Zm 8=1 from by first | decide | (unfold Zm;rw [if_pos (by omega)])] at hs;have z0:=hg.size;(try simp [World.setCell] at z0);have BR:Hid (Blk _ _ _ _):=(Blk.new w _ _).grown hg (by omega);have HG:Hid (w.grownBy w1 (some g)):=Zg (World.grownBy_alloc _ _ _) hg;replace HS:Hid (Src w1 g v l (k+1)):=hs;clear hs hg)
  |(go_at_call 53;clear g1;refine Calls.mono (Zq g _ v l (k+1) 6 hL (by omega) (by omega) (by omega) HS.out) ?_;rintro r w2 ⟨rfl,hs,hg⟩;rw [show Zm 6=1 from by first | decide | (unfold Zm;rw [if_pos (by omega)])] at hs;have z1:=hg.size;(try simp [World.setCell] at z1);replace BR:Hid (Blk _ _ _ _):=BR.out.grown hg (by omega);replace HG:Hid (w.grownBy w2 (some g)):=Zg HG.out hg;replace HS:Hid (Src w2 g v l ((k+1)+1)):=hs;clear hs hg)
  |(go_at_call 53;clear g2;refine Calls.mono (Zq g _ v l (k+1+1) 4 hL (by omega) (by omega) (by omega) HS.out) ?_;rintro r w3 ⟨rfl,hs,hg⟩;rw [show Zm 4=1 from by first | decide | (unfold Zm;rw [if_pos (by omega)])] at hs;have z2:=hg.size;(try simp [World.setCell] at z2);replace BR:Hid (Blk _ _ _ _):=BR.out.grown hg (by omega);replace HG:Hid (w.grownBy w3 (some g)):=Zg HG.out hg;replace HS:Hid (Src w3 g v l ((k+1+1)+1)):=hs;clear hs hg)
  |(go_at_call 142;clear g3;refine Calls.mono (X9 g _ v l (k+1+1+1) false hL (by omega) HS.out) ?_;rintro r w4 ⟨rfl,hs,hg⟩;have z3:=hg.size;(try simp [World.setCell] at z3);replace BR:Hid (Blk _ _ _ _):=BR.out.grown hg (by omega);replace HG:Hid (w.grownBy w4 (some g)):=Zg HG.out hg;replace HS:Hid (Src w4 g v l (Zi l (k+1+1+1) false).2):=hs;clear hs hg)
  |(have hBA:=HS;refine Y2 44 (.tmp 3) _ rfl ?_;clear hBA;refine Zz rfl 44 (.tmp 3) _ rfl (w4.heap.size) rfl rfl rfl Yi rfl rfl (by simp [Value.oneCell']) ?_)
  |(go_at_call 53;clear g4;refine Calls.mono (Zq g _ v l (Zi l (k+1+1+1) false).2 12 hL (by omega) (by omega) (by omega) (HS.out.alloc _)) ?_;rintro r w5 ⟨rfl,hs,hg⟩;rw [show Zm 12=1 from by first | decide | (unfold Zm;rw [if_pos (by omega)])] at hs;have z4:=hg.size;(try simp [World.setCell] at z4);replace BR:Hid (Blk _ _ _ _):=(BR.out.alloc _).grown hg (by omega);replace HG:Hid (w.grownBy w5 (some g)):=Zg (Yy HG.out _) hg;have BV:Hid (Blk _ _ _ _):=(Blk.new w4 _ _).grown hg (by omega);replace HS:Hid (Src w5 g v l ((Zi l (k+1+1+1) false).2+1)):=hs;clear hs hg;have cV4:=BV.out.cell;have fV4:=BV.out.free)
  |(go_at_call 142;clear g5;refine Calls.mono (X9 g _ v l ((Zi l (k+1+1+1) false).2+1) true hL (by omega) HS.out) ?_;rintro r w6 ⟨rfl,hs,hg⟩;have z5:=hg.size;(try simp [World.setCell] at z5);replace BR:Hid (Blk _ _ _ _):=BR.out.grown hg (by omega);replace HG:Hid (w.grownBy w6 (some g)):=Zg HG.out hg;replace BV:Hid (Blk _ _ _ _):=BV.out.grown hg (by omega);replace HS:Hid (Src w6 g v l (Zi l ((Zi l (k+1+1+1) false).2+1) true).2):=hs;clear hs hg;have cV5:=BV.out.cell;have fV5:=BV.out.free)
  |(have hBA:=HS;refine Zw 44 (.tmp 3) rfl ?_;clear hBA;refine Zk rfl 44 (.tmp 3) rfl (w4.heap.size) rfl (show Blk _ _ #[.int .i64 (1+(Z5 l k 8:Nat)),.int .i64 (1+(Z5 l (k+1) 6:Nat)),.int .i64 2,.string (Zi l (k+1+1+1) false).1,.string (Zi l ((Zi l (k+1+1+1) false).2+1) true).1,.string ⟨#[]⟩] _ from by simpa using BV.out.set 4 (.string (Zi l ((Zi l (k+1+1+1) false).2+1) true).1)) Tryz.underlying44 rfl Yi rfl ?_)
  |(have hBA:=HS;refine Y2 44 (.tmp 2) _ rfl ?_;clear hBA;refine Y1 rfl 44 (.tmp 2) _ rfl (w.heap.size) rfl rfl (BR.out.set_other (p:=⟨w4.heap.size,4,none⟩) _ (show w.heap.size≠w4.heap.size by omega)) Yi rfl rfl (by simp [Value.oneCell']) ?_))
 all_goals first
  | exact bodyPost_ret (v:=.agg #[.int .i64 (1+(Z5 l k 8:Nat)),.int .i64 (1+(Z5 l (k+1) 6:Nat)),.int .i64 2,.string (Zi l (k+1+1+1) false).1,.string (Zi l ((Zi l (k+1+1+1) false).2+1) true).1,.string ⟨#[]⟩]) (Y9 Tryz.results105 rfl ((BR.out.set_other (p:=⟨w4.heap.size,4,none⟩) _ (show w.heap.size≠w4.heap.size by omega)).row _) Tryz.underlying44 rfl Yi rfl) rfl ⟨rfl,(HS.out.setB BV.out (by omega) 4 (by simp) (Yd rfl) _).row (BR.out.set_other (p:=⟨w4.heap.size,4,none⟩) _ (show w.heap.size≠w4.heap.size by omega)) (by omega) (Yd rfl) _,X8 (Yl HG.out (by omega) _ _) (BR.out.set_other (p:=⟨w4.heap.size,4,none⟩) _ (show w.heap.size≠w4.heap.size by omega)) (Nat.le_refl _) _⟩
  |(exfalso;omega)
  |(exfalso;simp only [beq_iff_eq] at *;omega)
theorem l1drawCmd_02 (g:Nat)(w:World)(v:Value)(l:List Int)(k:Nat)(hL:l.length<=1048576)(hk:k<=700000000)(h:Src w g v l k)(hp:0<Z5 l (Zi l (k+1+1+1) false).2 12)(ho:Z5 l (k+1+1) 4=3) :
  Calls Tryz.prog 105 #[.pointer (some ⟨g,0,none⟩)] w fun r w'=>r=.returned (.agg #[.int .i64 (1+(Z5 l k 8:Nat)),.int .i64 (1+(Z5 l (k+1) 6:Nat)),.int .i64 4,.string (Zi l (k+1+1+1) false).1,.string (Zi l ((Zi l (k+1+1+1) false).2+1) true).1,.string (Zi l (Zi l ((Zi l (k+1+1+1) false).2+1) true).2 true).1])/\Src w' g v l (Zi l (Zi l ((Zi l (k+1+1+1) false).2+1) true).2 true).2/\w.grownBy w' (some g):=by
 have HS:Hid (Src w g v l k):=h;have hg0:g<w.heap.size:=h.lt;clear h;have b0:=Zf l k 8 (by omega);have b1:=Zf l (k+1) 6 (by omega);have b2:=Zf l (k+1+1) 4 (by omega);have b3:=Yh l (k+1+1+1) false;have b4:=Zf l (Zi l (k+1+1+1) false).2 12 (by omega);have b5:=Yh l ((Zi l (k+1+1+1) false).2+1) true;have b6:=Yh l (Zi l ((Zi l (k+1+1+1) false).2+1) true).2 true;have g0:True:=trivial;have g1:True:=trivial;have g2:True:=trivial;have g3:True:=trivial;have g4:True:=trivial;have g5:True:=trivial;have g6:True:=trivial;have fa0:¬(1+(Z5 l (k+1+1) 4:Nat):Int)=2:=by omega
 have fa1:(1+(Z5 l (k+1+1) 4:Nat):Int)=4:=by omega
 have fa2:¬((Z5 l (Zi l (k+1+1+1) false).2 12:Nat):Int)=0:=by omega
 go_enter Tryz.func105,Tryz.ntmps105
 go_wp2_with (first
  |(go_at_call 53;clear g0;refine Calls.mono (Zq g _ v l k 8 hL (by omega) (by omega) (by omega) (HS.out.alloc _)) ?_;rintro r w1 ⟨rfl,hs,hg⟩;rw [show Zm 8=1 from by first | decide | (unfold Zm;rw [if_pos (by omega)])] at hs;have z0:=hg.size;(try simp [World.setCell] at z0);have BR:Hid (Blk _ _ _ _):=(Blk.new w _ _).grown hg (by omega);have HG:Hid (w.grownBy w1 (some g)):=Zg (World.grownBy_alloc _ _ _) hg;replace HS:Hid (Src w1 g v l (k+1)):=hs;clear hs hg)
  |(go_at_call 53;clear g1;refine Calls.mono (Zq g _ v l (k+1) 6 hL (by omega) (by omega) (by omega) HS.out) ?_;rintro r w2 ⟨rfl,hs,hg⟩;rw [show Zm 6=1 from by first | decide | (unfold Zm;rw [if_pos (by omega)])] at hs;have z1:=hg.size;(try simp [World.setCell] at z1);replace BR:Hid (Blk _ _ _ _):=BR.out.grown hg (by omega);replace HG:Hid (w.grownBy w2 (some g)):=Zg HG.out hg;replace HS:Hid (Src w2 g v l ((k+1)+1)):=hs;clear hs hg)
  |(go_at_call 53;clear g2;refine Calls.mono (Zq g _ v l (k+1+1) 4 hL (by omega) (by omega) (by omega) HS.out) ?_;rintro r w3 ⟨rfl,hs,hg⟩;rw [show Zm 4=1 from by first | decide | (unfold Zm;rw [if_pos (by omega)])] at hs;have z2:=hg.size;(try simp [World.setCell] at z2);replace BR:Hid (Blk _ _ _ _):=BR.out.grown hg (by omega);replace HG:Hid (w.grownBy w3 (some g)):=Zg HG.out hg;replace HS:Hid (Src w3 g v l ((k+1+1)+1)):=hs;clear hs hg)
  |(go_at_call 142;clear g3;refine Calls.mono (X9 g _ v l (k+1+1+1) false hL (by omega) HS.out) ?_;rintro r w4 ⟨rfl,hs,hg⟩;have z3:=hg.size;(try simp [World.setCell] at z3);replace BR:Hid (Blk _ _ _ _):=BR.out.grown hg (by omega);replace HG:Hid (w.grownBy w4 (some g)):=Zg HG.out hg;replace HS:Hid (Src w4 g v l (Zi l (k+1+1+1) false).2):=hs;clear hs hg)
  |(have hBA:=HS;refine Y2 44 (.tmp 3) _ rfl ?_;clear hBA;refine Zz rfl 44 (.tmp 3) _ rfl (w4.heap.size) rfl rfl rfl Yi rfl rfl (by simp [Value.oneCell']) ?_)
  |(go_at_call 53;clear g4;refine Calls.mono (Zq g _ v l (Zi l (k+1+1+1) false).2 12 hL (by omega) (by omega) (by omega) (HS.out.alloc _)) ?_;rintro r w5 ⟨rfl,hs,hg⟩;rw [show Zm 12=1 from by first | decide | (unfold Zm;rw [if_pos (by omega)])] at hs;have z4:=hg.size;(try simp [World.setCell] at z4);replace BR:Hid (Blk _ _ _ _):=(BR.out.alloc _).grown hg (by omega);replace HG:Hid (w.grownBy w5 (some g)):=Zg (Yy HG.out _) hg;have BV:Hid (Blk _ _ _ _):=(Blk.new w4 _ _).grown hg (by omega);replace HS:Hid (Src w5 g v l ((Zi l (k+1+1+1) false).2+1)):=hs;clear hs hg;have cV4:=BV.out.cell;have fV4:=BV.out.free)
  |(go_at_call 142;clear g5;refine Calls.mono (X9 g _ v l ((Zi l (k+1+1+1) false).2+1) true hL (by omega) HS.out) ?_;rintro r w6 ⟨rfl,hs,hg⟩;have z5:=hg.size;(try simp [World.setCell] at z5);replace BR:Hid (Blk _ _ _ _):=BR.out.grown hg (by omega);replace HG:Hid (w.grownBy w6 (some g)):=Zg HG.out hg;replace BV:Hid (Blk _ _ _ _):=BV.out.grown hg (by omega);replace HS:Hid (Src w6 g v l (Zi l ((Zi l (k+1+1+1) false).2+1) true).2):=hs;clear hs hg;have cV5:=BV.out.cell;have fV5:=BV.out.free)
  |(go_at_call 142;clear g6;refine Calls.mono (X9 g _ v l (Zi l ((Zi l (k+1+1+1) false).2+1) true).2 true hL (by omega) (HS.out.setB BV.out (by omega) 4 (by simp) (Yd rfl) _)) ?_;rintro r w7 ⟨rfl,hs,hg⟩;have z6:=hg.size;(try simp [World.setCell] at z6);replace BR:Hid (Blk _ _ _ _):=(BR.out.set_other (p:=⟨w4.heap.size,4,none⟩) _ (show w.heap.size≠w4.heap.size by omega)).grown hg (by omega);replace HG:Hid (w.grownBy w7 (some g)):=Zg (Yl HG.out (by omega) _ _) hg;replace BV:Hid (Blk _ _ _ _):=(show Blk _ _ #[.int .i64 (1+(Z5 l k 8:Nat)),.int .i64 (1+(Z5 l (k+1) 6:Nat)),.int .i64 4,.string (Zi l (k+1+1+1) false).1,.string (Zi l ((Zi l (k+1+1+1) false).2+1) true).1,.string ⟨#[]⟩] _ from by simpa using BV.out.set 4 (.string (Zi l ((Zi l (k+1+1+1) false).2+1) true).1)).grown hg (by omega);replace HS:Hid (Src w7 g v l (Zi l (Zi l ((Zi l (k+1+1+1) false).2+1) true).2 true).2):=hs;clear hs hg;have cV6:=BV.out.cell;have fV6:=BV.out.free)
  |(have hBA:=HS;refine Zw 44 (.tmp 3) rfl ?_;clear hBA;refine Zk rfl 44 (.tmp 3) rfl (w4.heap.size) rfl (show Blk _ _ #[.int .i64 (1+(Z5 l k 8:Nat)),.int .i64 (1+(Z5 l (k+1) 6:Nat)),.int .i64 4,.string (Zi l (k+1+1+1) false).1,.string (Zi l ((Zi l (k+1+1+1) false).2+1) true).1,.string (Zi l (Zi l ((Zi l (k+1+1+1) false).2+1) true).2 true).1] _ from by simpa using BV.out.set 5 (.string (Zi l (Zi l ((Zi l (k+1+1+1) false).2+1) true).2 true).1)) Tryz.underlying44 rfl Yi rfl ?_)
  |(have hBA:=HS;refine Y2 44 (.tmp 2) _ rfl ?_;clear hBA;refine Y1 rfl 44 (.tmp 2) _ rfl (w.heap.size) rfl rfl (BR.out.set_other (p:=⟨w4.heap.size,5,none⟩) _ (show w.heap.size≠w4.heap.size by omega)) Yi rfl rfl (by simp [Value.oneCell']) ?_))
 all_goals first
  | exact bodyPost_ret (v:=.agg #[.int .i64 (1+(Z5 l k 8:Nat)),.int .i64 (1+(Z5 l (k+1) 6:Nat)),.int .i64 4,.string (Zi l (k+1+1+1) false).1,.string (Zi l ((Zi l (k+1+1+1) false).2+1) true).1,.string (Zi l (Zi l ((Zi l (k+1+1+1) false).2+1) true).2 true).1]) (Y9 Tryz.results105 rfl ((BR.out.set_other (p:=⟨w4.heap.size,5,none⟩) _ (show w.heap.size≠w4.heap.size by omega)).row _) Tryz.underlying44 rfl Yi rfl) rfl ⟨rfl,(HS.out.setB BV.out (by omega) 5 (by simp) (Yd rfl) _).row (BR.out.set_other (p:=⟨w4.heap.size,5,none⟩) _ (show w.heap.size≠w4.heap.size by omega)) (by omega) (Yd rfl) _,X8 (Yl HG.out (by omega) _ _) (BR.out.set_other (p:=⟨w4.heap.size,5,none⟩) _ (show w.heap.size≠w4.heap.size by omega)) (Nat.le_refl _) _⟩
  |(exfalso;omega)
  |(exfalso;simp only [beq_iff_eq] at *;omega)
theorem l1drawCmd_10 (g:Nat)(w:World)(v:Value)(l:List Int)(k:Nat)(hL:l.length<=1048576)(hk:k<=700000000)(h:Src w g v l k)(hp:Z5 l (Zi l (k+1+1+1) false).2 12=0)(ho:Z5 l (k+1+1) 4≠1/\Z5 l (k+1+1) 4≠3) :
  Calls Tryz.prog 105 #[.pointer (some ⟨g,0,none⟩)] w fun r w'=>r=.returned (.agg #[.int .i64 (1+(Z5 l k 8:Nat)),.int .i64 (1073741824-(Z5 l ((Zi l (k+1+1+1) false).2+1) 2:Nat)),.int .i64 (1+(Z5 l (k+1+1) 4:Nat)),.string (Zi l (k+1+1+1) false).1,.string ⟨#[]⟩,.string ⟨#[]⟩])/\Src w' g v l (((Zi l (k+1+1+1) false).2+1)+1)/\w.grownBy w' (some g):=by
 have HS:Hid (Src w g v l k):=h;have hg0:g<w.heap.size:=h.lt;clear h;have b0:=Zf l k 8 (by omega);have b1:=Zf l (k+1) 6 (by omega);have b2:=Zf l (k+1+1) 4 (by omega);have b3:=Yh l (k+1+1+1) false;have b4:=Zf l (Zi l (k+1+1+1) false).2 12 (by omega);have b5:=Zf l ((Zi l (k+1+1+1) false).2+1) 2 (by omega);have g0:True:=trivial;have g1:True:=trivial;have g2:True:=trivial;have g3:True:=trivial;have g4:True:=trivial;have g5:True:=trivial;have fa0:¬(1+(Z5 l (k+1+1) 4:Nat):Int)=2:=by omega
 have fa1:¬(1+(Z5 l (k+1+1) 4:Nat):Int)=4:=by omega
 have fa2:((Z5 l (Zi l (k+1+1+1) false).2 12:Nat):Int)=0:=by omega
 go_enter Tryz.func105,Tryz.ntmps105
 go_wp2_with (first
  |(go_at_call 53;clear g0;refine Calls.mono (Zq g _ v l k 8 hL (by omega) (by omega) (by omega) (HS.out.alloc _)) ?_;rintro r w1 ⟨rfl,hs,hg⟩;rw [show Zm 8=1 from by first | decide | (unfold Zm;rw [if_pos (by omega)])] at hs;have z0:=hg.size;(try simp [World.setCell] at z0);have BR:Hid (Blk _ _ _ _):=(Blk.new w _ _).grown hg (by omega);have HG:Hid (w.grownBy w1 (some g)):=Zg (World.grownBy_alloc _ _ _) hg;replace HS:Hid (Src w1 g v l (k+1)):=hs;clear hs hg)
  |(go_at_call 53;clear g1;refine Calls.mono (Zq g _ v l (k+1) 6 hL (by omega) (by omega) (by omega) HS.out) ?_;rintro r w2 ⟨rfl,hs,hg⟩;rw [show Zm 6=1 from by first | decide | (unfold Zm;rw [if_pos (by omega)])] at hs;have z1:=hg.size;(try simp [World.setCell] at z1);replace BR:Hid (Blk _ _ _ _):=BR.out.grown hg (by omega);replace HG:Hid (w.grownBy w2 (some g)):=Zg HG.out hg;replace HS:Hid (Src w2 g v l ((k+1)+1)):=hs;clear hs hg)
  |(go_at_call 53;clear g2;refine Calls.mono (Zq g _ v l (k+1+1) 4 hL (by omega) (by omega) (by omega) HS.out) ?_;rintro r w3 ⟨rfl,hs,hg⟩;rw [show Zm 4=1 from by first | decide | (unfold Zm;rw [if_pos (by omega)])] at hs;have z2:=hg.size;(try simp [World.setCell] at z2);replace BR:Hid (Blk _ _ _ _):=BR.out.grown hg (by omega);replace HG:Hid (w.grownBy w3 (some g)):=Zg HG.out hg;replace HS:Hid (Src w3 g v l ((k+1+1)+1)):=hs;clear hs hg)
  |(go_at_call 142;clear g3;refine Calls.mono (X9 g _ v l (k+1+1+1) false hL (by omega) HS.out) ?_;rintro r w4 ⟨rfl,hs,hg⟩;have z3:=hg.size;(try simp [World.setCell] at z3);replace BR:Hid (Blk _ _ _ _):=BR.out.grown hg (by omega);replace HG:Hid (w.grownBy w4 (some g)):=Zg HG.out hg;replace HS:Hid (Src w4 g v l (Zi l (k+1+1+1) false).2):=hs;clear hs hg)
  |(have hBA:=HS;refine Y2 44 (.tmp 3) _ rfl ?_;clear hBA;refine Zz rfl 44 (.tmp 3) _ rfl (w4.heap.size) rfl rfl rfl Yi rfl rfl (by simp [Value.oneCell']) ?_)
  |(go_at_call 53;clear g4;refine Calls.mono (Zq g _ v l (Zi l (k+1+1+1) false).2 12 hL (by omega) (by omega) (by omega) (HS.out.alloc _)) ?_;rintro r w5 ⟨rfl,hs,hg⟩;rw [show Zm 12=1 from by first | decide | (unfold Zm;rw [if_pos (by omega)])] at hs;have z4:=hg.size;(try simp [World.setCell] at z4);replace BR:Hid (Blk _ _ _ _):=(BR.out.alloc _).grown hg (by omega);replace HG:Hid (w.grownBy w5 (some g)):=Zg (Yy HG.out _) hg;have BV:Hid (Blk _ _ _ _):=(Blk.new w4 _ _).grown hg (by omega);replace HS:Hid (Src w5 g v l ((Zi l (k+1+1+1) false).2+1)):=hs;clear hs hg;have cV4:=BV.out.cell;have fV4:=BV.out.free)
  |(go_at_call 53;clear g5;refine Calls.mono (Zq g _ v l ((Zi l (k+1+1+1) false).2+1) 2 hL (by omega) (by omega) (by omega) HS.out) ?_;rintro r w6 ⟨rfl,hs,hg⟩;rw [show Zm 2=1 from by first | decide | (unfold Zm;rw [if_pos (by omega)])] at hs;have z5:=hg.size;(try simp [World.setCell] at z5);replace BR:Hid (Blk _ _ _ _):=BR.out.grown hg (by omega);replace HG:Hid (w.grownBy w6 (some g)):=Zg HG.out hg;replace BV:Hid (Blk _ _ _ _):=BV.out.grown hg (by omega);replace HS:Hid (Src w6 g v l (((Zi l (k+1+1+1) false).2+1)+1)):=hs;clear hs hg;have cV5:=BV.out.cell;have fV5:=BV.out.free)
  |(have hBA:=HS;refine Zw 44 (.tmp 3) rfl ?_;clear hBA;refine Zk rfl 44 (.tmp 3) rfl (w4.heap.size) rfl (show Blk _ _ #[.int .i64 (1+(Z5 l k 8:Nat)),.int .i64 (1073741824-(Z5 l ((Zi l (k+1+1+1) false).2+1) 2:Nat)),.int .i64 (1+(Z5 l (k+1+1) 4:Nat)),.string (Zi l (k+1+1+1) false).1,.string ⟨#[]⟩,.string ⟨#[]⟩] _ from by simpa using BV.out.set 1 (.int .i64 (1073741824-(Z5 l ((Zi l (k+1+1+1) false).2+1) 2:Nat)))) Tryz.underlying44 rfl Yi rfl ?_)
  |(have hBA:=HS;refine Y2 44 (.tmp 2) _ rfl ?_;clear hBA;refine Y1 rfl 44 (.tmp 2) _ rfl (w.heap.size) rfl rfl (BR.out.set_other (p:=⟨w4.heap.size,1,none⟩) _ (show w.heap.size≠w4.heap.size by omega)) Yi rfl rfl (by simp [Value.oneCell']) ?_))
 all_goals first
  | exact bodyPost_ret (v:=.agg #[.int .i64 (1+(Z5 l k 8:Nat)),.int .i64 (1073741824-(Z5 l ((Zi l (k+1+1+1) false).2+1) 2:Nat)),.int .i64 (1+(Z5 l (k+1+1) 4:Nat)),.string (Zi l (k+1+1+1) false).1,.string ⟨#[]⟩,.string ⟨#[]⟩]) (Y9 Tryz.results105 rfl ((BR.out.set_other (p:=⟨w4.heap.size,1,none⟩) _ (show w.heap.size≠w4.heap.size by omega)).row _) Tryz.underlying44 rfl Yi rfl) rfl ⟨rfl,(HS.out.setB BV.out (by omega) 1 (by simp) (Yd rfl) _).row (BR.out.set_other (p:=⟨w4.heap.size,1,none⟩) _ (show w.heap.size≠w4.heap.size by omega)) (by omega) (Yd rfl) _,X8 (Yl HG.out (by omega) _ _) (BR.out.set_other (p:=⟨w4.heap.size,1,none⟩) _ (show w.heap.size≠w4.heap.size by omega)) (Nat.le_refl _) _⟩
  |(exfalso;omega)
  |(exfalso;simp only [beq_iff_eq] at *;omega)
theorem l1drawCmd_11 (g:Nat)(w:World)(v:Value)(l:List Int)(k:Nat)(hL:l.length<=1048576)(hk:k<=700000000)(h:Src w g v l k)(hp:Z5 l (Zi l (k+1+1+1) false).2 12=0)(ho:Z5 l (k+1+1) 4=1) :
  Calls Tryz.prog 105 #[.pointer (some ⟨g,0,none⟩)] w fun r w'=>r=.returned (.agg #[.int .i64 (1+(Z5 l k 8:Nat)),.int .i64 (1073741824-(Z5 l ((Zi l (k+1+1+1) false).2+1) 2:Nat)),.int .i64 2,.string (Zi l (k+1+1+1) false).1,.string (Zi l (((Zi l (k+1+1+1) false).2+1)+1) true).1,.string ⟨#[]⟩])/\Src w' g v l (Zi l (((Zi l (k+1+1+1) false).2+1)+1) true).2/\w.grownBy w' (some g):=by
 have HS:Hid (Src w g v l k):=h;have hg0:g<w.heap.size:=h.lt;clear h;have b0:=Zf l k 8 (by omega);have b1:=Zf l (k+1) 6 (by omega);have b2:=Zf l (k+1+1) 4 (by omega);have b3:=Yh l (k+1+1+1) false;have b4:=Zf l (Zi l (k+1+1+1) false).2 12 (by omega);have b5:=Zf l ((Zi l (k+1+1+1) false).2+1) 2 (by omega);have b6:=Yh l (((Zi l (k+1+1+1) false).2+1)+1) true;have g0:True:=trivial;have g1:True:=trivial;have g2:True:=trivial;have g3:True:=trivial;have g4:True:=trivial;have g5:True:=trivial;have g6:True:=trivial;have fa0:(1+(Z5 l (k+1+1) 4:Nat):Int)=2:=by omega
 have fa1:¬(1+(Z5 l (k+1+1) 4:Nat):Int)=4:=by omega
 have fa2:((Z5 l (Zi l (k+1+1+1) false).2 12:Nat):Int)=0:=by omega
 go_enter Tryz.func105,Tryz.ntmps105
 go_wp2_with (first
  |(go_at_call 53;clear g0;refine Calls.mono (Zq g _ v l k 8 hL (by omega) (by omega) (by omega) (HS.out.alloc _)) ?_;rintro r w1 ⟨rfl,hs,hg⟩;rw [show Zm 8=1 from by first | decide | (unfold Zm;rw [if_pos (by omega)])] at hs;have z0:=hg.size;(try simp [World.setCell] at z0);have BR:Hid (Blk _ _ _ _):=(Blk.new w _ _).grown hg (by omega);have HG:Hid (w.grownBy w1 (some g)):=Zg (World.grownBy_alloc _ _ _) hg;replace HS:Hid (Src w1 g v l (k+1)):=hs;clear hs hg)
  |(go_at_call 53;clear g1;refine Calls.mono (Zq g _ v l (k+1) 6 hL (by omega) (by omega) (by omega) HS.out) ?_;rintro r w2 ⟨rfl,hs,hg⟩;rw [show Zm 6=1 from by first | decide | (unfold Zm;rw [if_pos (by omega)])] at hs;have z1:=hg.size;(try simp [World.setCell] at z1);replace BR:Hid (Blk _ _ _ _):=BR.out.grown hg (by omega);replace HG:Hid (w.grownBy w2 (some g)):=Zg HG.out hg;replace HS:Hid (Src w2 g v l ((k+1)+1)):=hs;clear hs hg)
  |(go_at_call 53;clear g2;refine Calls.mono (Zq g _ v l (k+1+1) 4 hL (by omega) (by omega) (by omega) HS.out) ?_;rintro r w3 ⟨rfl,hs,hg⟩;rw [show Zm 4=1 from by first | decide | (unfold Zm;rw [if_pos (by omega)])] at hs;have z2:=hg.size;(try simp [World.setCell] at z2);replace BR:Hid (Blk _ _ _ _):=BR.out.grown hg (by omega);replace HG:Hid (w.grownBy w3 (some g)):=Zg HG.out hg;replace HS:Hid (Src w3 g v l ((k+1+1)+1)):=hs;clear hs hg)
  |(go_at_call 142;clear g3;refine Calls.mono (X9 g _ v l (k+1+1+1) false hL (by omega) HS.out) ?_;rintro r w4 ⟨rfl,hs,hg⟩;have z3:=hg.size;(try simp [World.setCell] at z3);replace BR:Hid (Blk _ _ _ _):=BR.out.grown hg (by omega);replace HG:Hid (w.grownBy w4 (some g)):=Zg HG.out hg;replace HS:Hid (Src w4 g v l (Zi l (k+1+1+1) false).2):=hs;clear hs hg)
  |(have hBA:=HS;refine Y2 44 (.tmp 3) _ rfl ?_;clear hBA;refine Zz rfl 44 (.tmp 3) _ rfl (w4.heap.size) rfl rfl rfl Yi rfl rfl (by simp [Value.oneCell']) ?_)
  |(go_at_call 53;clear g4;refine Calls.mono (Zq g _ v l (Zi l (k+1+1+1) false).2 12 hL (by omega) (by omega) (by omega) (HS.out.alloc _)) ?_;rintro r w5 ⟨rfl,hs,hg⟩;rw [show Zm 12=1 from by first | decide | (unfold Zm;rw [if_pos (by omega)])] at hs;have z4:=hg.size;(try simp [World.setCell] at z4);replace BR:Hid (Blk _ _ _ _):=(BR.out.alloc _).grown hg (by omega);replace HG:Hid (w.grownBy w5 (some g)):=Zg (Yy HG.out _) hg;have BV:Hid (Blk _ _ _ _):=(Blk.new w4 _ _).grown hg (by omega);replace HS:Hid (Src w5 g v l ((Zi l (k+1+1+1) false).2+1)):=hs;clear hs hg;have cV4:=BV.out.cell;have fV4:=BV.out.free)
  |(go_at_call 53;clear g5;refine Calls.mono (Zq g _ v l ((Zi l (k+1+1+1) false).2+1) 2 hL (by omega) (by omega) (by omega) HS.out) ?_;rintro r w6 ⟨rfl,hs,hg⟩;rw [show Zm 2=1 from by first | decide | (unfold Zm;rw [if_pos (by omega)])] at hs;have z5:=hg.size;(try simp [World.setCell] at z5);replace BR:Hid (Blk _ _ _ _):=BR.out.grown hg (by omega);replace HG:Hid (w.grownBy w6 (some g)):=Zg HG.out hg;replace BV:Hid (Blk _ _ _ _):=BV.out.grown hg (by omega);replace HS:Hid (Src w6 g v l (((Zi l (k+1+1+1) false).2+1)+1)):=hs;clear hs hg;have cV5:=BV.out.cell;have fV5:=BV.out.free)
  |(go_at_call 142;clear g6;refine Calls.mono (X9 g _ v l (((Zi l (k+1+1+1) false).2+1)+1) true hL (by omega) (HS.out.setB BV.out (by omega) 1 (by simp) (Yd rfl) _)) ?_;rintro r w7 ⟨rfl,hs,hg⟩;have z6:=hg.size;(try simp [World.setCell] at z6);replace BR:Hid (Blk _ _ _ _):=(BR.out.set_other (p:=⟨w4.heap.size,1,none⟩) _ (show w.heap.size≠w4.heap.size by omega)).grown hg (by omega);replace HG:Hid (w.grownBy w7 (some g)):=Zg (Yl HG.out (by omega) _ _) hg;replace BV:Hid (Blk _ _ _ _):=(show Blk _ _ #[.int .i64 (1+(Z5 l k 8:Nat)),.int .i64 (1073741824-(Z5 l ((Zi l (k+1+1+1) false).2+1) 2:Nat)),.int .i64 2,.string (Zi l (k+1+1+1) false).1,.string ⟨#[]⟩,.string ⟨#[]⟩] _ from by simpa using BV.out.set 1 (.int .i64 (1073741824-(Z5 l ((Zi l (k+1+1+1) false).2+1) 2:Nat)))).grown hg (by omega);replace HS:Hid (Src w7 g v l (Zi l (((Zi l (k+1+1+1) false).2+1)+1) true).2):=hs;clear hs hg;have cV6:=BV.out.cell;have fV6:=BV.out.free)
  |(have hBA:=HS;refine Zw 44 (.tmp 3) rfl ?_;clear hBA;refine Zk rfl 44 (.tmp 3) rfl (w4.heap.size) rfl (show Blk _ _ #[.int .i64 (1+(Z5 l k 8:Nat)),.int .i64 (1073741824-(Z5 l ((Zi l (k+1+1+1) false).2+1) 2:Nat)),.int .i64 2,.string (Zi l (k+1+1+1) false).1,.string (Zi l (((Zi l (k+1+1+1) false).2+1)+1) true).1,.string ⟨#[]⟩] _ from by simpa using BV.out.set 4 (.string (Zi l (((Zi l (k+1+1+1) false).2+1)+1) true).1)) Tryz.underlying44 rfl Yi rfl ?_)
  |(have hBA:=HS;refine Y2 44 (.tmp 2) _ rfl ?_;clear hBA;refine Y1 rfl 44 (.tmp 2) _ rfl (w.heap.size) rfl rfl (BR.out.set_other (p:=⟨w4.heap.size,4,none⟩) _ (show w.heap.size≠w4.heap.size by omega)) Yi rfl rfl (by simp [Value.oneCell']) ?_))
 all_goals first
  | exact bodyPost_ret (v:=.agg #[.int .i64 (1+(Z5 l k 8:Nat)),.int .i64 (1073741824-(Z5 l ((Zi l (k+1+1+1) false).2+1) 2:Nat)),.int .i64 2,.string (Zi l (k+1+1+1) false).1,.string (Zi l (((Zi l (k+1+1+1) false).2+1)+1) true).1,.string ⟨#[]⟩]) (Y9 Tryz.results105 rfl ((BR.out.set_other (p:=⟨w4.heap.size,4,none⟩) _ (show w.heap.size≠w4.heap.size by omega)).row _) Tryz.underlying44 rfl Yi rfl) rfl ⟨rfl,(HS.out.setB BV.out (by omega) 4 (by simp) (Yd rfl) _).row (BR.out.set_other (p:=⟨w4.heap.size,4,none⟩) _ (show w.heap.size≠w4.heap.size by omega)) (by omega) (Yd rfl) _,X8 (Yl HG.out (by omega) _ _) (BR.out.set_other (p:=⟨w4.heap.size,4,none⟩) _ (show w.heap.size≠w4.heap.size by omega)) (Nat.le_refl _) _⟩
  |(exfalso;omega)
  |(exfalso;simp only [beq_iff_eq] at *;omega)
theorem l1drawCmd_12 (g:Nat)(w:World)(v:Value)(l:List Int)(k:Nat)(hL:l.length<=1048576)(hk:k<=700000000)(h:Src w g v l k)(hp:Z5 l (Zi l (k+1+1+1) false).2 12=0)(ho:Z5 l (k+1+1) 4=3) :
  Calls Tryz.prog 105 #[.pointer (some ⟨g,0,none⟩)] w fun r w'=>r=.returned (.agg #[.int .i64 (1+(Z5 l k 8:Nat)),.int .i64 (1073741824-(Z5 l ((Zi l (k+1+1+1) false).2+1) 2:Nat)),.int .i64 4,.string (Zi l (k+1+1+1) false).1,.string (Zi l (((Zi l (k+1+1+1) false).2+1)+1) true).1,.string (Zi l (Zi l (((Zi l (k+1+1+1) false).2+1)+1) true).2 true).1])/\Src w' g v l (Zi l (Zi l (((Zi l (k+1+1+1) false).2+1)+1) true).2 true).2/\w.grownBy w' (some g):=by
 have HS:Hid (Src w g v l k):=h;have hg0:g<w.heap.size:=h.lt;clear h;have b0:=Zf l k 8 (by omega);have b1:=Zf l (k+1) 6 (by omega);have b2:=Zf l (k+1+1) 4 (by omega);have b3:=Yh l (k+1+1+1) false;have b4:=Zf l (Zi l (k+1+1+1) false).2 12 (by omega);have b5:=Zf l ((Zi l (k+1+1+1) false).2+1) 2 (by omega);have b6:=Yh l (((Zi l (k+1+1+1) false).2+1)+1) true;have b7:=Yh l (Zi l (((Zi l (k+1+1+1) false).2+1)+1) true).2 true;have g0:True:=trivial;have g1:True:=trivial;have g2:True:=trivial;have g3:True:=trivial;have g4:True:=trivial;have g5:True:=trivial;have g6:True:=trivial;have g7:True:=trivial;have fa0:¬(1+(Z5 l (k+1+1) 4:Nat):Int)=2:=by omega
 have fa1:(1+(Z5 l (k+1+1) 4:Nat):Int)=4:=by omega
 have fa2:((Z5 l (Zi l (k+1+1+1) false).2 12:Nat):Int)=0:=by omega
 go_enter Tryz.func105,Tryz.ntmps105
 go_wp2_with (first
  |(go_at_call 53;clear g0;refine Calls.mono (Zq g _ v l k 8 hL (by omega) (by omega) (by omega) (HS.out.alloc _)) ?_;rintro r w1 ⟨rfl,hs,hg⟩;rw [show Zm 8=1 from by first | decide | (unfold Zm;rw [if_pos (by omega)])] at hs;have z0:=hg.size;(try simp [World.setCell] at z0);have BR:Hid (Blk _ _ _ _):=(Blk.new w _ _).grown hg (by omega);have HG:Hid (w.grownBy w1 (some g)):=Zg (World.grownBy_alloc _ _ _) hg;replace HS:Hid (Src w1 g v l (k+1)):=hs;clear hs hg)
  |(go_at_call 53;clear g1;refine Calls.mono (Zq g _ v l (k+1) 6 hL (by omega) (by omega) (by omega) HS.out) ?_;rintro r w2 ⟨rfl,hs,hg⟩;rw [show Zm 6=1 from by first | decide | (unfold Zm;rw [if_pos (by omega)])] at hs;have z1:=hg.size;(try simp [World.setCell] at z1);replace BR:Hid (Blk _ _ _ _):=BR.out.grown hg (by omega);replace HG:Hid (w.grownBy w2 (some g)):=Zg HG.out hg;replace HS:Hid (Src w2 g v l ((k+1)+1)):=hs;clear hs hg)
  |(go_at_call 53;clear g2;refine Calls.mono (Zq g _ v l (k+1+1) 4 hL (by omega) (by omega) (by omega) HS.out) ?_;rintro r w3 ⟨rfl,hs,hg⟩;rw [show Zm 4=1 from by first | decide | (unfold Zm;rw [if_pos (by omega)])] at hs;have z2:=hg.size;(try simp [World.setCell] at z2);replace BR:Hid (Blk _ _ _ _):=BR.out.grown hg (by omega);replace HG:Hid (w.grownBy w3 (some g)):=Zg HG.out hg;replace HS:Hid (Src w3 g v l ((k+1+1)+1)):=hs;clear hs hg)
  |(go_at_call 142;clear g3;refine Calls.mono (X9 g _ v l (k+1+1+1) false hL (by omega) HS.out) ?_;rintro r w4 ⟨rfl,hs,hg⟩;have z3:=hg.size;(try simp [World.setCell] at z3);replace BR:Hid (Blk _ _ _ _):=BR.out.grown hg (by omega);replace HG:Hid (w.grownBy w4 (some g)):=Zg HG.out hg;replace HS:Hid (Src w4 g v l (Zi l (k+1+1+1) false).2):=hs;clear hs hg)
  |(have hBA:=HS;refine Y2 44 (.tmp 3) _ rfl ?_;clear hBA;refine Zz rfl 44 (.tmp 3) _ rfl (w4.heap.size) rfl rfl rfl Yi rfl rfl (by simp [Value.oneCell']) ?_)
  |(go_at_call 53;clear g4;refine Calls.mono (Zq g _ v l (Zi l (k+1+1+1) false).2 12 hL (by omega) (by omega) (by omega) (HS.out.alloc _)) ?_;rintro r w5 ⟨rfl,hs,hg⟩;rw [show Zm 12=1 from by first | decide | (unfold Zm;rw [if_pos (by omega)])] at hs;have z4:=hg.size;(try simp [World.setCell] at z4);replace BR:Hid (Blk _ _ _ _):=(BR.out.alloc _).grown hg (by omega);replace HG:Hid (w.grownBy w5 (some g)):=Zg (Yy HG.out _) hg;have BV:Hid (Blk _ _ _ _):=(Blk.new w4 _ _).grown hg (by omega);replace HS:Hid (Src w5 g v l ((Zi l (k+1+1+1) false).2+1)):=hs;clear hs hg;have cV4:=BV.out.cell;have fV4:=BV.out.free)
  |(go_at_call 53;clear g5;refine Calls.mono (Zq g _ v l ((Zi l (k+1+1+1) false).2+1) 2 hL (by omega) (by omega) (by omega) HS.out) ?_;rintro r w6 ⟨rfl,hs,hg⟩;rw [show Zm 2=1 from by first | decide | (unfold Zm;rw [if_pos (by omega)])] at hs;have z5:=hg.size;(try simp [World.setCell] at z5);replace BR:Hid (Blk _ _ _ _):=BR.out.grown hg (by omega);replace HG:Hid (w.grownBy w6 (some g)):=Zg HG.out hg;replace BV:Hid (Blk _ _ _ _):=BV.out.grown hg (by omega);replace HS:Hid (Src w6 g v l (((Zi l (k+1+1+1) false).2+1)+1)):=hs;clear hs hg;have cV5:=BV.out.cell;have fV5:=BV.out.free)
  |(go_at_call 142;clear g6;refine Calls.mono (X9 g _ v l (((Zi l (k+1+1+1) false).2+1)+1) true hL (by omega) (HS.out.setB BV.out (by omega) 1 (by simp) (Yd rfl) _)) ?_;rintro r w7 ⟨rfl,hs,hg⟩;have z6:=hg.size;(try simp [World.setCell] at z6);replace BR:Hid (Blk _ _ _ _):=(BR.out.set_other (p:=⟨w4.heap.size,1,none⟩) _ (show w.heap.size≠w4.heap.size by omega)).grown hg (by omega);replace HG:Hid (w.grownBy w7 (some g)):=Zg (Yl HG.out (by omega) _ _) hg;replace BV:Hid (Blk _ _ _ _):=(show Blk _ _ #[.int .i64 (1+(Z5 l k 8:Nat)),.int .i64 (1073741824-(Z5 l ((Zi l (k+1+1+1) false).2+1) 2:Nat)),.int .i64 4,.string (Zi l (k+1+1+1) false).1,.string ⟨#[]⟩,.string ⟨#[]⟩] _ from by simpa using BV.out.set 1 (.int .i64 (1073741824-(Z5 l ((Zi l (k+1+1+1) false).2+1) 2:Nat)))).grown hg (by omega);replace HS:Hid (Src w7 g v l (Zi l (((Zi l (k+1+1+1) false).2+1)+1) true).2):=hs;clear hs hg;have cV6:=BV.out.cell;have fV6:=BV.out.free)
  |(go_at_call 142;clear g7;refine Calls.mono (X9 g _ v l (Zi l (((Zi l (k+1+1+1) false).2+1)+1) true).2 true hL (by omega) (HS.out.setB BV.out (by omega) 4 (by simp) (Yd rfl) _)) ?_;rintro r w8 ⟨rfl,hs,hg⟩;have z7:=hg.size;(try simp [World.setCell] at z7);replace BR:Hid (Blk _ _ _ _):=(BR.out.set_other (p:=⟨w4.heap.size,4,none⟩) _ (show w.heap.size≠w4.heap.size by omega)).grown hg (by omega);replace HG:Hid (w.grownBy w8 (some g)):=Zg (Yl HG.out (by omega) _ _) hg;replace BV:Hid (Blk _ _ _ _):=(show Blk _ _ #[.int .i64 (1+(Z5 l k 8:Nat)),.int .i64 (1073741824-(Z5 l ((Zi l (k+1+1+1) false).2+1) 2:Nat)),.int .i64 4,.string (Zi l (k+1+1+1) false).1,.string (Zi l (((Zi l (k+1+1+1) false).2+1)+1) true).1,.string ⟨#[]⟩] _ from by simpa using BV.out.set 4 (.string (Zi l (((Zi l (k+1+1+1) false).2+1)+1) true).1)).grown hg (by omega);replace HS:Hid (Src w8 g v l (Zi l (Zi l (((Zi l (k+1+1+1) false).2+1)+1) true).2 true).2):=hs;clear hs hg;have cV7:=BV.out.cell;have fV7:=BV.out.free)
  |(have hBA:=HS;refine Zw 44 (.tmp 3) rfl ?_;clear hBA;refine Zk rfl 44 (.tmp 3) rfl (w4.heap.size) rfl (show Blk _ _ #[.int .i64 (1+(Z5 l k 8:Nat)),.int .i64 (1073741824-(Z5 l ((Zi l (k+1+1+1) false).2+1) 2:Nat)),.int .i64 4,.string (Zi l (k+1+1+1) false).1,.string (Zi l (((Zi l (k+1+1+1) false).2+1)+1) true).1,.string (Zi l (Zi l (((Zi l (k+1+1+1) false).2+1)+1) true).2 true).1] _ from by simpa using BV.out.set 5 (.string (Zi l (Zi l (((Zi l (k+1+1+1) false).2+1)+1) true).2 true).1)) Tryz.underlying44 rfl Yi rfl ?_)
  |(have hBA:=HS;refine Y2 44 (.tmp 2) _ rfl ?_;clear hBA;refine Y1 rfl 44 (.tmp 2) _ rfl (w.heap.size) rfl rfl (BR.out.set_other (p:=⟨w4.heap.size,5,none⟩) _ (show w.heap.size≠w4.heap.size by omega)) Yi rfl rfl (by simp [Value.oneCell']) ?_))
 all_goals first
  | exact bodyPost_ret (v:=.agg #[.int .i64 (1+(Z5 l k 8:Nat)),.int .i64 (1073741824-(Z5 l ((Zi l (k+1+1+1) false).2+1) 2:Nat)),.int .i64 4,.string (Zi l (k+1+1+1) false).1,.string (Zi l (((Zi l (k+1+1+1) false).2+1)+1) true).1,.string (Zi l (Zi l (((Zi l (k+1+1+1) false).2+1)+1) true).2 true).1]) (Y9 Tryz.results105 rfl ((BR.out.set_other (p:=⟨w4.heap.size,5,none⟩) _ (show w.heap.size≠w4.heap.size by omega)).row _) Tryz.underlying44 rfl Yi rfl) rfl ⟨rfl,(HS.out.setB BV.out (by omega) 5 (by simp) (Yd rfl) _).row (BR.out.set_other (p:=⟨w4.heap.size,5,none⟩) _ (show w.heap.size≠w4.heap.size by omega)) (by omega) (Yd rfl) _,X8 (Yl HG.out (by omega) _ _) (BR.out.set_other (p:=⟨w4.heap.size,5,none⟩) _ (show w.heap.size≠w4.heap.size by omega)) (Nat.le_refl _) _⟩
  |(exfalso;omega)
  |(exfalso;simp only [beq_iff_eq] at *;omega)
def Z0e (l:List Int)(k:Nat):Int:=if Z5 l (Zi l (k+1+1+1) false).2 12=0 then 1073741824-(Z5 l ((Zi l (k+1+1+1) false).2+1) 2:Nat) else 1+(Z5 l (k+1) 6:Nat)
def J4 (l:List Int)(k:Nat):Nat:=if Z5 l (Zi l (k+1+1+1) false).2 12=0 then (Zi l (k+1+1+1) false).2+1+1 else (Zi l (k+1+1+1) false).2+1
def Je (l:List Int)(k:Nat):ByteArray:=if Z5 l (k+1+1) 4=1∨Z5 l (k+1+1) 4=3 then (Zi l (J4 l k) true).1 else ⟨#[]⟩
def Xo (l:List Int)(k:Nat):Nat:=if Z5 l (k+1+1) 4=1∨Z5 l (k+1+1) 4=3 then (Zi l (J4 l k) true).2 else J4 l k
def Jd (l:List Int)(k:Nat):ByteArray:=if Z5 l (k+1+1) 4=3 then (Zi l (Xo l k) true).1 else ⟨#[]⟩
def Z0r (l:List Int)(k:Nat):Nat:=if Z5 l (k+1+1) 4=3 then (Zi l (Xo l k) true).2 else Xo l k
def cmdCl (l:List Int)(k:Nat):Int:=1+(Z5 l k 8:Nat)
def J6 (l:List Int)(k:Nat):Int:=1+(Z5 l (k+1+1) 4:Nat)
def Z1v (l:List Int)(k:Nat):ByteArray:=(Zi l (k+1+1+1) false).1
theorem cmdK_le (l:List Int)(k:Nat):k<Z0r l k/\Z0r l k<=k+14:=by
 have h0:=Yh l (k+1+1+1) false;have h1:=Yh l (J4 l k) true;have h2:=Yh l (Xo l k) true;have e2:(Zi l (k+1+1+1) false).2<J4 l k/\J4 l k<=(Zi l (k+1+1+1) false).2+2:=by unfold J4;split <;> omega
 have e3:J4 l k<=Xo l k/\Xo l k<=J4 l k+3:=by unfold Xo;split <;> omega
 unfold Z0r;split <;> omega
theorem cmd_facts (l:List Int)(k:Nat):1<=cmdCl l k/\cmdCl l k<=8/\1<=Z0e l k/\Z0e l k<=1073741824/\1<=J6 l k/\J6 l k<=4/\1<=(Z1v l k).size/\(Z1v l k).size<=64/\(Je l k).size<=64/\(Jd l k).size<=64/\(J6 l k≠2/\J6 l k≠4->(Je l k).size=0)/\(J6 l k≠4->(Jd l k).size=0):=by
 have p0:=Zf l k 8 (by omega);have p1:=Zf l (k+1) 6 (by omega);have p2:=Zf l (k+1+1) 4 (by omega);have p3:=Zf l ((Zi l (k+1+1+1) false).2+1) 2 (by omega);have h0:=Yh l (k+1+1+1) false;have h1:=Yh l (J4 l k) true;have h2:=Yh l (Xo l k) true;have hq:1<=Z0e l k/\Z0e l k<=1073741824:=by unfold Z0e;split <;> omega
 have hv:(Je l k).size<=64/\(J6 l k≠2/\J6 l k≠4->(Je l k).size=0):=by
  unfold Je J6;split
  ·next h=>exact ⟨h1.1,fun h'=>by omega⟩
  ·exact ⟨by simp [ByteArray.size],fun _=>rfl⟩
 have ho:(Jd l k).size<=64/\(J6 l k≠4->(Jd l k).size=0):=by
  unfold Jd J6;split
  ·next h=>exact ⟨h2.1,fun h'=>by omega⟩
  ·exact ⟨by simp [ByteArray.size],fun _=>rfl⟩
 have hk:1<=(Z1v l k).size/\(Z1v l k).size<=64:=by unfold Z1v;exact ⟨h0.2.1 rfl,h0.1⟩
 refine ⟨?_,?_,hq.1,hq.2,?_,?_,hk.1,hk.2,hv.1,ho.1,hv.2,ho.2⟩ <;> (first | unfold cmdCl | unfold J6) <;> omega
theorem l1drawCmd_any (g:Nat)(w:World)(v:Value)(l:List Int)(k:Nat)(hL:l.length<=1048576)(hk:k<=700000000)(h:Src w g v l k) :
  Calls Tryz.prog 105 #[.pointer (some ⟨g,0,none⟩)] w fun r w'=>r=.returned (.agg #[.int .i64 (cmdCl l k),.int .i64 (Z0e l k),.int .i64 (J6 l k),.string (Z1v l k),.string (Je l k),.string (Jd l k)])/\Src w' g v l (Z0r l k)/\w.grownBy w' (some g):=by
 by_cases hp:Z5 l (Zi l (k+1+1+1) false).2 12=0
 ·have e1:Z0e l k=1073741824-(Z5 l ((Zi l (k+1+1+1) false).2+1) 2:Nat):=by unfold Z0e;rw [if_pos hp]
  have e2:J4 l k=(Zi l (k+1+1+1) false).2+1+1:=by unfold J4;rw [if_pos hp]
  by_cases h1:Z5 l (k+1+1) 4=1
  ·have e3:Je l k=(Zi l (J4 l k) true).1:=by unfold Je;rw [if_pos (.inl h1)]
   have e4:Xo l k=(Zi l (J4 l k) true).2:=by unfold Xo;rw [if_pos (.inl h1)]
   have e5:Jd l k=⟨#[]⟩:=by unfold Jd;rw [if_neg (by omega)]
   have e6:Z0r l k=Xo l k:=by unfold Z0r;rw [if_neg (by omega)]
   have e7:J6 l k=2:=by unfold J6;omega
   rw [e6,e4,e3,e5,e2,e1,e7];exact l1drawCmd_11 g w v l k hL hk h hp h1
  by_cases h3:Z5 l (k+1+1) 4=3
  ·have e3:Je l k=(Zi l (J4 l k) true).1:=by unfold Je;rw [if_pos (.inr h3)]
   have e4:Xo l k=(Zi l (J4 l k) true).2:=by unfold Xo;rw [if_pos (.inr h3)]
   have e5:Jd l k=(Zi l (Xo l k) true).1:=by unfold Jd;rw [if_pos h3]
   have e6:Z0r l k=(Zi l (Xo l k) true).2:=by unfold Z0r;rw [if_pos h3]
   have e7:J6 l k=4:=by unfold J6;omega
   rw [e6,e5,e4,e3,e2,e1,e7];exact l1drawCmd_12 g w v l k hL hk h hp h3
  ·have e3:Je l k=⟨#[]⟩:=by unfold Je;rw [if_neg (by omega)]
   have e4:Xo l k=J4 l k:=by unfold Xo;rw [if_neg (by omega)]
   have e5:Jd l k=⟨#[]⟩:=by unfold Jd;rw [if_neg (by omega)]
   have e6:Z0r l k=Xo l k:=by unfold Z0r;rw [if_neg (by omega)]
   rw [e6,e5,e4,e3,e2,e1];exact l1drawCmd_10 g w v l k hL hk h hp ⟨h1,h3⟩
 ·have e1:Z0e l k=1+(Z5 l (k+1) 6:Nat):=by unfold Z0e;rw [if_neg hp]
  have e2:J4 l k=(Zi l (k+1+1+1) false).2+1:=by unfold J4;rw [if_neg hp]
  replace hp:0<Z5 l (Zi l (k+1+1+1) false).2 12:=by omega
  by_cases h1:Z5 l (k+1+1) 4=1
  ·have e3:Je l k=(Zi l (J4 l k) true).1:=by unfold Je;rw [if_pos (.inl h1)]
   have e4:Xo l k=(Zi l (J4 l k) true).2:=by unfold Xo;rw [if_pos (.inl h1)]
   have e5:Jd l k=⟨#[]⟩:=by unfold Jd;rw [if_neg (by omega)]
   have e6:Z0r l k=Xo l k:=by unfold Z0r;rw [if_neg (by omega)]
   have e7:J6 l k=2:=by unfold J6;omega
   rw [e6,e4,e3,e5,e2,e1,e7];exact l1drawCmd_01 g w v l k hL hk h hp h1
  by_cases h3:Z5 l (k+1+1) 4=3
  ·have e3:Je l k=(Zi l (J4 l k) true).1:=by unfold Je;rw [if_pos (.inr h3)]
   have e4:Xo l k=(Zi l (J4 l k) true).2:=by unfold Xo;rw [if_pos (.inr h3)]
   have e5:Jd l k=(Zi l (Xo l k) true).1:=by unfold Jd;rw [if_pos h3]
   have e6:Z0r l k=(Zi l (Xo l k) true).2:=by unfold Z0r;rw [if_pos h3]
   have e7:J6 l k=4:=by unfold J6;omega
   rw [e6,e5,e4,e3,e2,e1,e7];exact l1drawCmd_02 g w v l k hL hk h hp h3
  ·have e3:Je l k=⟨#[]⟩:=by unfold Je;rw [if_neg (by omega)]
   have e4:Xo l k=J4 l k:=by unfold Xo;rw [if_neg (by omega)]
   have e5:Jd l k=⟨#[]⟩:=by unfold Jd;rw [if_neg (by omega)]
   have e6:Z0r l k=Xo l k:=by unfold Z0r;rw [if_neg (by omega)]
   rw [e6,e5,e4,e3,e2,e1];exact l1drawCmd_00 g w v l k hL hk h hp ⟨h1,h3⟩
structure Ent where
 t:Int
 cl:Int
 sq:Int
 op:Int
 k:ByteArray
 v:ByteArray
 o:ByteArray
def Ent.fits (e:Ent):Prop:=e.k.size<=maxLen/\e.v.size<=maxLen/\e.o.size<=maxLen
def Xv (w:World)(b off:Nat)(e:Ent):Prop:=
 w.cell? ⟨b,off,none⟩=some (.int .i64 e.t)/\w.cell? ⟨b,off+1,none⟩=some (.int .i64 e.cl)/\w.cell? ⟨b,off+2,none⟩=some (.int .i64 e.sq)/\w.cell? ⟨b,off+3,none⟩=some (.int .i64 e.op) /\
 w.cell? ⟨b,off+4,none⟩=some (.string e.k)/\w.cell? ⟨b,off+5,none⟩=some (.string e.v)/\w.cell? ⟨b,off+6,none⟩=some (.string e.o)
theorem Xv.below {w w':World}{b off:Nat}{e:Ent}(h:Xv w b off e)(hb:Below w.heap.size w w'):Xv w' b off e:=by
 obtain ⟨h0,h1,h2,h3,h4,h5,h6⟩:=h;have hl:=Xb h0;exact ⟨(hb.cell hl).trans h0,(hb.cell hl).trans h1,(hb.cell hl).trans h2,(hb.cell hl).trans h3,(hb.cell hl).trans h4,(hb.cell hl).trans h5,(hb.cell hl).trans h6⟩
def Es (w:World)(v:Value)(l:List Ent):Prop:=
 l.length<=maxLen/\(∀ e∈l,e.fits) /\
 ∃ a cap,v=.slice a l.length cap/\∀ i,i<l.length->∃ b off,a=some ⟨b,off,none⟩/\∀ j (h:j<l.length),Xv w b (off+j*7) l[j]
theorem Es.below {w w':World}{v:Value}{l:List Ent}(h:Es w v l)(hb:Below w.heap.size w w'):Es w' v l:=by
 obtain ⟨hl,hf,a,cap,rfl,hc⟩:=h;refine ⟨hl,hf,a,cap,rfl,fun i hi=>?_⟩;obtain ⟨b,off,rfl,hj⟩:=hc i hi;exact ⟨b,off,rfl,fun j hj'=>(hj j hj').below hb⟩
theorem infoEnt:(Tryz.prog.info? 118).map (fun i=>(i.zero,i.size,i.bytes))=some (some (.agg #[.int .i64 0,.int .i64 0,.int .i64 0,.int .i64 0,.string ⟨#[]⟩,.string ⟨#[]⟩,.string ⟨#[]⟩]),7,80):=by kernel_rfl
def Ent.cells (e:Ent):List Value:=[.int .i64 e.t,.int .i64 e.cl,.int .i64 e.sq,.int .i64 e.op,.string e.k,.string e.v,.string e.o]
def Yc:List Ent->List Value
 | []=>[]
 | e :: l=>e.cells ++ Yc l
theorem Z2j (l k:List Ent):Yc (l ++ k)=Yc l ++ Yc k:=by
 induction l with
 | nil=>rfl
 | cons e l ih=>rw [List.cons_append,Yc,ih,Yc,List.append_assoc]
theorem Z2h (l:List Ent):(Yc l).length=l.length*7:=by
 induction l with
 | nil=>rfl
 | cons e l ih=>rw [Yc,List.length_append,ih,List.length_cons];simp [Ent.cells];omega
theorem Z2o (l:List Ent):∀(j:Nat) (h:j<l.length) (i:Nat),i<7->(Yc l)[j*7+i]? = l[j].cells[i]?:=by
 induction l with
 | nil=>intro j h;simp at h
 | cons e l ih=>
  intro j h i hi;have h7:e.cells.length=7:=rfl
  cases j with
  | zero=>rw [Yc,List.getElem?_append_left (by rw [h7];omega)];simp
  | succ j=>
   rw [Yc,List.getElem?_append_right (by rw [h7];omega),h7,show (j+1)*7+i-7=j*7+i by omega,ih j (by simpa using h) i hi];simp
def Zv (w:World)(B:Nat)(v:Value)(l:List Ent):Prop:=
 (∀ e∈l,e.fits)/\w.ownsRow B 118 7 v l.length (Yc l)
theorem Zv.nil (w:World)(B:Nat):Zv w B (.slice none 0 0) []:=⟨by simp,World.ownsRow_nil w B _ 7⟩
theorem Zv.made (w:World)(B:Nat)(hB:B<=w.heap.size):Zv (w.alloc (.cells #[] 118)) B (.slice (some ⟨w.heap.size,0,none⟩) 0 0) []:=
 ⟨by simp,World.ownsRow_made w #[] 0 hB (by decide) (by simp)⟩
theorem Zv.shape {w:World}{B:Nat}{v:Value}{l:List Ent}(h:Zv w B v l):∃ a cap,v=.slice a l.length cap:=by
 rcases h.2.2 with ⟨rfl,h0⟩ | ⟨g,cap,cur,rfl,_⟩
 ·exact ⟨none,0,by rw [h0]⟩
 ·exact ⟨_,_,rfl⟩
theorem Zv.shape' {w:World}{B:Nat}{v:Value}{l:List Ent}(h:Zv w B v l)(hl:0<l.length):∃ g cap,v=.slice (some ⟨g,0,none⟩) l.length cap:=by
 rcases h.2.2 with ⟨rfl,h0⟩ | ⟨g,cap,cur,rfl,_⟩
 ·omega
 ·exact ⟨_,_,rfl⟩
theorem Zv.le {w:World}{B B':Nat}{v:Value}{l:List Ent}(h:Zv w B v l)(hb:B'<=B):Zv w B' v l:=by
 refine ⟨h.1,h.2.1,?_⟩;rcases h.2.2 with h | ⟨g,cap,cur,hv,hg,r⟩
 ·exact .inl h
 ·exact .inr ⟨g,cap,cur,hv,Nat.le_trans hb hg,r⟩
theorem Zv.block {w w':World}{B:Nat}{v:Value}{l:List Ent}(h:Zv w B v l)(hb:∀ k,v.ownBlock=some k->w'.heap[k]? = w.heap[k]?):Zv w' B v l:=by
 refine ⟨h.1,h.2.1,?_⟩;rcases h.2.2 with h | ⟨g,cap,cur,hv,hg,hh,r⟩
 ·exact .inl h
 ·subst hv
  exact .inr ⟨g,cap,cur,rfl,hg,(hb g rfl).trans hh,r⟩
theorem Zv.below {w w':World}{B:Nat}{v:Value}{l:List Ent}(h:Zv w B v l)(hb:Below w.heap.size w w'):Zv w' B v l:=
 h.block fun k hk=>hb.block k (h.2.lt k hk).2
theorem Zv.grown {w w':World}{B b:Nat}{v:Value}{l:List Ent}(h:Zv w B v l)(hg:w.grownBy w' (some b))(hb:b<B):Zv w' B v l:=
 h.block fun k hk=>hg.block k (h.2.lt k hk).2 (by intro e;injection e with e;have:=(h.2.lt k hk).1;omega)
theorem Zv.es {w:World}{B:Nat}{v:Value}{l:List Ent}(h:Zv w B v l)(hl:l.length<=maxLen):Es w v l:=by
 obtain ⟨a,cap,rfl⟩:=h.shape;refine ⟨hl,h.1,a,cap,rfl,fun i hi=>?_⟩;obtain ⟨g,cap',e⟩:=h.shape' (by omega);simp only [Value.slice.injEq] at e;obtain ⟨rfl,_,rfl⟩:=e;refine ⟨g,0,rfl,fun j hj=>?_⟩
 have c:∀ i,i<7->w.cell? ⟨g,j*7+i,none⟩=l[j].cells[i]?:=fun i hi=>by
  rw [h.2.cellAt (j*7+i) (by omega)];exact Z2o l j hj i hi
 rw [Nat.zero_add];exact ⟨c 0 (by omega),c 1 (by omega),c 2 (by omega),c 3 (by omega),c 4 (by omega),c 5 (by omega),c 6 (by omega)⟩
theorem growE {B:Nat}{w w':World}{v v':Value}{l:List Ent}(h:Xe w v w' v')(hown:Zv w B v l)(hB:B<=w.heap.size):Below B w w':=
 (Below.refl _ _).grown h.g hB (fun k hk=>(hown.2.lt k hk).1)
theorem Xu {w:World}{ops:Array Oper}{rest:List Oper}{o:Oper}{a:Act}{Q:Exit->Act->World->Prop}(hgd:o.guard=none)(s x:Operand)
  (ho:o.op=.call { callee:=.builtin .append,args:=#[s,x],argTypes:=#[34,34] })
  {B:Nat} {v:Value} {l:List Ent} (e:Ent) (hf:e.fits) (hown:Zv w B v l) (hs:a.eval s=v) (b c:Nat) (hu:Xv w b 0 e) (hx:a.eval x=.slice (some ⟨b,0,none⟩) 1 c) (hlen:l.length<=1000000) (hB:B<=w.heap.size)
  (h:∀ v' w',Zv w' B v' (l ++ [e])->Xe w v w' v'->wpList Tryz.prog ops Q rest (a.put o.dst v') w'):wpList Tryz.prog ops Q (o :: rest) a w:=by
 obtain ⟨i0,hi,hz0,hz1,hz2⟩:=info_parts infoEnt;obtain ⟨u0,u1,u2,u3,u4,u5,u6⟩:=hu;refine wpList_append_own_at w hgd s x 34 ho B 118 i0 _ 7 80 Tryz.underlying34 hi hz0 hz1 hz2 rfl (by decide) v l.length _ hs hown.2 ⟨b,0,none⟩ 1 c e.cells hx rfl ?_ ?_ (by unfold maxLen;omega) (by omega) hB ?_
 ·intro j u hj
  rw [Z1d,Nat.zero_add];have hj7:j<7:=(List.getElem?_eq_some_iff.1 hj).1;rcases (show j=0∨j=1∨j=2∨j=3∨j=4∨j=5∨j=6 by omega) with rfl | rfl | rfl | rfl | rfl | rfl | rfl
  ·exact u0.trans hj
  ·exact u1.trans hj
  ·exact u2.trans hj
  ·exact u3.trans hj
  ·exact u4.trans hj
  ·exact u5.trans hj
  ·exact u6.trans hj
 ·intro u hu
  simp only [Ent.cells,List.mem_cons,List.not_mem_nil,or_false] at hu;rcases hu with rfl | rfl | rfl | rfl | rfl | rfl | rfl <;> rfl
 ·intro v' w' h2 h3 _ h5
  refine h v' w' ⟨fun y hy=>?_,by rw [Z2j];simpa [Yc] using h2⟩ ⟨h3,h5.imp id fun e=>⟨_,e,Nat.le_refl _⟩⟩;rcases List.mem_append.1 hy with hy | hy
  ·exact hown.1 y hy
  ·rw [List.mem_singleton.1 hy];exact hf
theorem Z1e {B g:Nat}{w0:World}(hg:B<=g):∀(vs:List Value) (o:Nat) (w:World),Below B w0 w->Below B w0 (w.setCells g o vs)
 | [],_,_,h=>h
 | v :: vs,o,w,h=>Z1e hg vs (o+1) _ (h.setCell (show B<=(⟨g,o,none⟩:Addr).block from hg) v)
theorem Z20 {P:Program}{w:World}{ops:Array Oper}{rest:List Oper}{o:Oper}{a:Act}{Q:Exit->Act->World->Prop}(ty:TypeId)(x y:Operand)(ho:o.op=.store ty x y)
  (h:wpList P ops Q (o :: rest) a w):wpList P ops Q (o :: rest) a w:=h
theorem Z22 {w:World}{b n:Nat}(h:w.there b 0 n)(o k:Nat)(hk:o+k<=n):w.there b o k:=fun j hj=>by
 have:=h (o+j) (by omega)
 rwa [Nat.zero_add] at this
end Go.Proofs.YtmmpoppgabadmaaGreat
