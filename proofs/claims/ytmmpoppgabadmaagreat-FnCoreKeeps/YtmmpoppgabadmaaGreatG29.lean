import Derived.Test.YtmmpoppgabadmaaGreatG12
import Derived.Deep.DeepCutAuto
set_option linter.unusedVariables false
set_option linter.unusedSimpArgs false
set_option maxRecDepth 100000
set_option maxHeartbeats 16000000
open Go.IntKind renaming i64 → O
open Go.Value renaming int → Aa,string → Az,oneCell' → Bh
open Go renaming Value → Af,World → Ag,Calls → Ar
open Go.Ending renaming returned → Aj
open _root_.Nat renaming zero_le → Bb
open _root_.List renaming length_append → Bc,length_set → Bg
namespace Go.Proofs.YtmmpoppgabadmaaGreat
open Go.Proofs.Tryz
open Go.RowKit
structure CmdV where
 cl:Int
 sq:Int
 op:Int
 ky:ByteArray
 vl:ByteArray
 ol:ByteArray
abbrev CmdV.arrC (c:CmdV):Array Af:=#[Aa O c.cl,Aa O c.sq,Aa O c.op,Az c.ky,Az c.vl,Az c.ol]
def Z1e (n:Nat)(x:Int):ByteArray:=strOfNums (List.replicate n x)
def Js (l:List Int)(k:Nat)(c:CmdV):CmdV×Nat:=
 if Z4 l k 9=0 then ({ c with op:=((Z4 l (k+1) 9:Nat):Int)-2 },k+1+1)
 else if Z4 l k 9=1 then ({ c with cl:=((Z4 l (k+1) 12:Nat):Int)-2 },k+1+1)
 else if Z4 l k 9=2 then ({ c with sq:=1073741824+((Z4 l (k+1) 3:Nat):Int)-1 },k+1+1)
 else if Z4 l k 9=3 then ({ c with sq:=((Z4 l (k+1) 3:Nat):Int)-2 },k+1+1)
 else if Z4 l k 9=4 then ({ c with ky:=⟨#[]⟩ },k+1)
 else if Z4 l k 9=5 then ({ c with ky:=Z1e (64+Z4 l (k+1) 2) 107 },k+1+1)
 else if Z4 l k 9=6 then ({ c with vl:=Z1e (64+Z4 l (k+1) 2) 118 },k+1+1)
 else if Z4 l k 9=7 then ({ c with ol:=Z1e (64+Z4 l (k+1) 2) 111 },k+1+1)
 else (⟨((Z4 l (k+1) 2:Nat):Int),((Z4 l (k+1+1) 2:Nat):Int),0,Z1e (Z4 l (k+1+1+1) 2) 107,Z1e (Z4 l (k+1+1+1+1) 2) 118,Z1e (Z4 l (k+1+1+1+1+1) 2) 111⟩,k+1+1+1+1+1+1)
theorem Y8:(Tryz.prog.info? 44).map (·.size)=some 6:=by kernel_rfl
theorem l1long_zero (x:Int)(w:Ag):Ar Tryz.prog 143 #[Aa O ((0:Nat):Int),Aa .u8 x] w λe w'=>e=Aj (Az (Z1e 0 x))/\Below w.heap.size w w':=by
 have a:=λu=>run_convert_bytes_arg u 55 5 underlying55 underlying5 w.heap.size 0 0 0 [] rfl (λi hi=>by simp at hi) 9 underlying9
 go_enter func143,ntmps143;go_wp2
 go_loopw [5,6] (λo i wr=>o=.slice (some ⟨w.heap.size,0,none⟩) 0 0/\i=Aa O ((0:Nat):Int)/\wr=w.alloc (.cells #[] 5)) (λ_ i _=>0)
 case atStart=>exact ⟨rfl,rfl,rfl⟩
 case round=>
  obtain ⟨rfl,rfl,rfl⟩:=hrel;go_wp2;go_ret;exact ⟨rfl,baq⟩
theorem Z1k (n:Nat)(x:Int)(b:n<=1000)(a:0<=x/\x<=255)(w:Ag):Ar Tryz.prog 143 #[Aa O n,Aa .u8 x] w λe w'=>e=Aj (Az (Z1e n x))/\Below w.heap.size w w':=by
 rcases Nat.eq_zero_or_pos n with h | h
 ·subst h;exact l1long_zero x w
 ·exact Z8n n x h b a w
theorem Z5z (g:Nat)(w:Ag)(v:Af)(l:List Int)(k:Nat)(c:CmdV)(hL:l.length<=1048576)(hk:k<=500000000)(h:Src w g v l k) :
  Ar Tryz.prog 106 #[.pointer (some ⟨g,0,none⟩),.agg c.arrC] w λr w'=>r=Aj (.agg (cqN ((Js l k c).1.cl) ((Js l k c).1.sq) ((Js l k c).1.op) ((Js l k c).1.ky) ((Js l k c).1.vl) ((Js l k c).1.ol)))/\Src w' g v l (Js l k c).2/\w.grownBy w' (some g):=by
 have ao:Hid (Dr w ((w.alloc (.cells c.arrC 44)).alloc (.cells zCmd 44)) g v l k [(w.heap.size,c.arrC,44),(w.heap.size+1,zCmd,44)]):=by
  have hX:=((Dr.start h).new c.arrC 44 (Zr)).new zCmd 44 (Zr);have hY:Dr w ((w.alloc (.cells c.arrC 44)).alloc (.cells zCmd 44)) g v l k [(w.heap.size,c.arrC,44),(w.heap.size+1,zCmd,44)]:=by simpa using hX
  exact hY
 clear h;have hB:Js l k c=Js l k c:=rfl
 conv at hB=>rhs;unfold Js
 have i:Hid (Js l k c=_):=hB;generalize Js l k c=R at *;clear hB;have b9:=Z6 l k 9;obtain ⟨p,hp⟩:=exq (Z4 l k 9);rw [<-hp] at b9 i;have Hp:=Z0 hp;clear hp;go_enter func106,ntmps106
 go_upto_if 9 with (go_at_call 53;refine (ao.pick1 9).mono ?_;rintro e w1 ⟨rfl,a⟩;rw [<-Hp.out];have f:=Z0 a;have aq:=(a.blk 0).cell;have au:=(a.blk 0).free;clear a)
 go_cut [10] (λ_ wx=>Dr w wx g v l R.2 [(w.heap.size,R.1.arrC,44),(w.heap.size+1,zCmd,44)])
 case first=>
  rcases (show p=0∨p=1∨p=2∨p=3∨p=4∨p=5∨p=6∨p=7∨p=8 by omega) with c0 | c0 | c0 | c0 | c0 | c0 | c0 | c0 | c0
  ·subst c0
   rw [if_pos rfl] at i;have x:=Z6 l (k+1) 9;obtain ⟨q,j⟩:=exq (Z4 l (k+1) 9);have y:=Z0 j;rw [<-j] at x i;clear j
   go_wp2_with (go_at_call 53;refine (f.pick1 9).mono ?_;rintro e w2 ⟨rfl,a⟩;rw [<-y.out];have d:=Z0 a;have n:=(a.blk 0).cell;have m:=(a.blk 0).free;have b:=Z0 (a.set 0 rfl 2 (by simp) (Aa O ((q:Int)-2)));clear a)
   go_meet;rw [i.out];exact b
  ·subst c0
   rw [ifd,if_pos rfl] at i;have x:=Z6 l (k+1) 12;obtain ⟨q,j⟩:=exq (Z4 l (k+1) 12);have y:=Z0 j;rw [<-j] at x i;clear j
   go_wp2_with (go_at_call 53;refine (f.pick1 12).mono ?_;rintro e w2 ⟨rfl,a⟩;rw [<-y.out];have d:=Z0 a;have n:=(a.blk 0).cell;have m:=(a.blk 0).free;have b:=Z0 (a.set 0 rfl 0 (by simp) (Aa O ((q:Int)-2)));clear a)
   go_meet;rw [i.out];exact b
  ·subst c0
   rw [ifd,ifd,if_pos rfl] at i;have x:=Z6 l (k+1) 3;obtain ⟨q,j⟩:=exq (Z4 l (k+1) 3);have y:=Z0 j;rw [<-j] at x i;clear j
   go_wp2_with (go_at_call 53;refine (f.pick1 3).mono ?_;rintro e w2 ⟨rfl,a⟩;rw [<-y.out];have d:=Z0 a;have n:=(a.blk 0).cell;have m:=(a.blk 0).free;have b:=Z0 (a.set 0 rfl 1 (by simp) (Aa O (1073741824+(q:Int)-1)));clear a)
   go_meet;rw [i.out];exact b
  ·subst c0
   rw [ifd,ifd,ifd,if_pos rfl] at i;have x:=Z6 l (k+1) 3;obtain ⟨q,j⟩:=exq (Z4 l (k+1) 3);have y:=Z0 j;rw [<-j] at x i;clear j
   go_wp2_with (go_at_call 53;refine (f.pick1 3).mono ?_;rintro e w2 ⟨rfl,a⟩;rw [<-y.out];have d:=Z0 a;have n:=(a.blk 0).cell;have m:=(a.blk 0).free;have b:=Z0 (a.set 0 rfl 1 (by simp) (Aa O ((q:Int)-2)));clear a)
   go_meet;rw [i.out];exact b
  ·subst c0
   rw [ifd,ifd,ifd,ifd,if_pos rfl] at i;have b:=Z0 (f.set 0 rfl 3 (by simp) (Az ⟨#[]⟩))
   go_wp2_with fail
   go_meet;rw [i.out];exact b
  ·subst c0
   rw [ifd,ifd,ifd,ifd,ifd,if_pos rfl] at i;have x:=Z6 l (k+1) 2;obtain ⟨q,j⟩:=exq (Z4 l (k+1) 2);have y:=Z0 j;rw [<-j] at x i;clear j;have z:Hid (∀ u:Ag,Ar Tryz.prog 143 #[Aa O (64+(q:Int)),Aa .u8 107] u λe w'=>e=Aj (Az (Z1e (64+q) 107))/\Below u.heap.size u w'):=λu=>Z1k (64+q) 107 (by omega) (by decide) u
   generalize Z1e (64+q) 107=LG at *
   go_wp2_with (first
    |(go_at_call 53;refine (f.pick1 2).mono ?_;rintro e w2 ⟨rfl,a⟩;rw [<-y.out];have d:=Z0 a;have n:=(a.blk 0).cell;have m:=(a.blk 0).free;clear a)
    |(go_at_call 143;refine (z _).mono ?_;rintro e w3 ⟨rfl,t⟩;have o:=Z0 (d.below t);have ax:=(o.blk 0).cell;have al:=(o.blk 0).free;have b:=Z0 (o.set 0 rfl 3 (by simp) (.string LG));clear t))
   go_meet;rw [i.out];exact b
  ·subst c0
   rw [ifd,ifd,ifd,ifd,ifd,ifd,if_pos rfl] at i;have x:=Z6 l (k+1) 2;obtain ⟨q,j⟩:=exq (Z4 l (k+1) 2);have y:=Z0 j;rw [<-j] at x i;clear j;have z:Hid (∀ u:Ag,Ar Tryz.prog 143 #[Aa O (64+(q:Int)),Aa .u8 118] u λe w'=>e=Aj (Az (Z1e (64+q) 118))/\Below u.heap.size u w'):=λu=>Z1k (64+q) 118 (by omega) (by decide) u
   generalize Z1e (64+q) 118=LG at *
   go_wp2_with (first
    |(go_at_call 53;refine (f.pick1 2).mono ?_;rintro e w2 ⟨rfl,a⟩;rw [<-y.out];have d:=Z0 a;have n:=(a.blk 0).cell;have m:=(a.blk 0).free;clear a)
    |(go_at_call 143;refine (z _).mono ?_;rintro e w3 ⟨rfl,t⟩;have o:=Z0 (d.below t);have ax:=(o.blk 0).cell;have al:=(o.blk 0).free;have b:=Z0 (o.set 0 rfl 4 (by simp) (.string LG));clear t))
   go_meet;rw [i.out];exact b
  ·subst c0
   rw [ifd,ifd,ifd,ifd,ifd,ifd,ifd,if_pos rfl] at i;have x:=Z6 l (k+1) 2;obtain ⟨q,j⟩:=exq (Z4 l (k+1) 2);have y:=Z0 j;rw [<-j] at x i;clear j;have z:Hid (∀ u:Ag,Ar Tryz.prog 143 #[Aa O (64+(q:Int)),Aa .u8 111] u λe w'=>e=Aj (Az (Z1e (64+q) 111))/\Below u.heap.size u w'):=λu=>Z1k (64+q) 111 (by omega) (by decide) u
   generalize Z1e (64+q) 111=LG at *
   go_wp2_with (first
    |(go_at_call 53;refine (f.pick1 2).mono ?_;rintro e w2 ⟨rfl,a⟩;rw [<-y.out];have d:=Z0 a;have n:=(a.blk 0).cell;have m:=(a.blk 0).free;clear a)
    |(go_at_call 143;refine (z _).mono ?_;rintro e w3 ⟨rfl,t⟩;have o:=Z0 (d.below t);have ax:=(o.blk 0).cell;have al:=(o.blk 0).free;have b:=Z0 (o.set 0 rfl 5 (by simp) (.string LG));clear t))
   go_meet;rw [i.out];exact b
  ·subst c0
   rw [ifd,ifd,ifd,ifd,ifd,ifd,ifd,ifd] at i;have a7:=Z6 l (k+1) 2;obtain ⟨qa,ag⟩:=exq (Z4 l (k+1) 2);have bc:=Z0 ag;rw [<-ag] at a7 i;clear ag;have a9:True:=trivial;have ay:=Z6 l (k+1+1) 2;obtain ⟨qb,ai⟩:=exq (Z4 l (k+1+1) 2);have a2:=Z0 ai;rw [<-ai] at ay i;clear ai;have az:True:=trivial;have a4:=Z6 l (k+1+1+1) 2;obtain ⟨qc,af⟩:=exq (Z4 l (k+1+1+1) 2);have a8:=Z0 af;rw [<-af] at a4 i;clear af;have a3:True:=trivial;have a0:=Z6 l (k+1+1+1+1) 2;obtain ⟨qd,ah⟩:=exq (Z4 l (k+1+1+1+1) 2);have a5:=Z0 ah;rw [<-ah] at a0 i;clear ah;have ba:True:=trivial;have bb:=Z6 l (k+1+1+1+1+1) 2;obtain ⟨qe,aj⟩:=exq (Z4 l (k+1+1+1+1+1) 2);have a1:=Z0 aj;rw [<-aj] at bb i;clear aj;have a6:True:=trivial;have ac:=Z0 λu=>Z1k qc 107 (by omega) (by decide) u
   generalize Z1e qc 107=LC at *;have ae:=Z0 λu=>Z1k qd 118 (by omega) (by decide) u
   generalize Z1e qd 118=LD at *;have ad:=Z0 λu=>Z1k qe 111 (by omega) (by decide) u
   generalize Z1e qe 111=LE at *
   go_wp2_with (first
    |(go_at_call 53;clear a9;refine (f.pick1 2).mono ?_;rintro e w2 ⟨rfl,a⟩;rw [<-bc.out];have d:=Z0 a;have n:=(a.blk 0).cell;have m:=(a.blk 0).free;clear a)
    |(go_at_call 53;clear az;refine (d.pick1 2).mono ?_;rintro e w3 ⟨rfl,a⟩;rw [<-a2.out];have av:=Z0 a;have bk:=(a.blk 0).cell;have bg:=(a.blk 0).free;clear a)
    |(go_at_call 53;clear a3;refine (av.pick1 2).mono ?_;rintro e w4 ⟨rfl,a⟩;rw [<-a8.out];have aw:=Z0 a;have bd:=(a.blk 0).cell;have bh:=(a.blk 0).free;clear a)
    |(go_at_call 143;refine (ac _).mono ?_;rintro e w5 ⟨rfl,s⟩;have am:=Z0 (aw.below s);clear s ac)
    |(go_at_call 53;clear ba;refine (am.pick1 2).mono ?_;rintro e w6 ⟨rfl,a⟩;rw [<-a5.out];have ak:=Z0 a;have be:=(a.blk 0).cell;have bi:=(a.blk 0).free;clear a)
    |(go_at_call 143;refine (ae _).mono ?_;rintro e w7 ⟨rfl,s⟩;have an:=Z0 (ak.below s);clear s ae)
    |(go_at_call 53;clear a6;refine (an.pick1 2).mono ?_;rintro e w8 ⟨rfl,a⟩;rw [<-a1.out];have ar:=Z0 a;have bj:=(a.blk 0).cell;have bm:=(a.blk 0).free;clear a)
    |(go_at_call 143;refine (ad _).mono ?_;rintro e w9 ⟨rfl,s⟩;have aa:=Z0 (ar.below s);clear s ad)
    |(have ab:=aa;refine Zn 44 (.tmp 3) _ rfl ?_;clear ab;refine Zg rfl 44 (.tmp 3) _ rfl (w.heap.size) rfl rfl (aa.blk 0 rfl) Y8 rfl rfl (by simp [Bh]) ?_;have b:Hid (Dr w (w9.setRow w.heap.size (cqN (qa:Int) (qb:Int) 0 LC LD LE)) g v l (k+1+1+1+1+1+1) [(w.heap.size,(cqN (qa:Int) (qb:Int) 0 LC LD LE),44),(w.heap.size+1,zCmd,44)]):=aa.row 0 rfl (cqN (qa:Int) (qb:Int) 0 LC LD LE) (Zr)))
   go_meet;rw [i.out];exact b
 case rest=>
  have b:=Z0 hcut;clear hcut ao f aq au i
  go_wp2_with (first
   |(have ab:=b;refine Zd 44 (.tmp 3) rfl ?_;clear ab;refine Z7 rfl 44 (.tmp 3) rfl (w.heap.size) rfl (b.blk 0 rfl) underlying44 rfl Y8 rfl ?_)
   |(have ab:=b;refine Zn 44 (.tmp 4) _ rfl ?_;clear ab;refine Zg rfl 44 (.tmp 4) _ rfl (w.heap.size+1) rfl rfl (b.blk 1 rfl) Y8 rfl rfl (by simp [Bh]) ?_))
  have hR:=b.row 1 rfl R.1.arrC (Zr);exact bodyPost_ret (Zl results106 rfl (hR.blk 1 rfl) underlying44 rfl Y8 rfl) rfl ⟨rfl,hR.src,hR.grown⟩
section
def setCE (c:CmdV)(e:Ent):Ent:=⟨e.t,c.cl,c.sq,c.op,c.ky,c.vl,c.ol⟩
def Ent.cmd (e:Ent):CmdV:=⟨e.cl,e.sq,e.op,e.k,e.v,e.o⟩
def CmdV.cells (c:CmdV):List Af:=[Aa O c.cl,Aa O c.sq,Aa O c.op,Az c.ky,Az c.vl,Az c.ol]
theorem Z4y (c:CmdV):∀(l:List Ent) (i:Nat) (hi:i<l.length),Zv (l.set i (setCE c l[i]))=setL (Zv l) (i*7+1) c.cells
 | [],i,hi=>by simp at hi
 | e :: l,0,hi=>by simp [Zv,Ent.cells,setCE,CmdV.cells,setL]
 | e :: l,i+1,hi=>by
  have a:i<l.length:=by simpa using hi
  have b:e.cells.length=7:=rfl;simp only [List.set_cons_succ,List.getElem_cons_succ,Zv];rw [Z4y c l i a,show (i+1)*7+1=e.cells.length+(i*7+1) by rw [b];omega,setL_app _ c.cells (Zv l) (i*7+1)]
variable {w:Ag}{q c n:Nat}
theorem Zh.setC {B:Nat}{l:List Ent}(h:Zh w B (.slice (some ⟨q,0,none⟩) n c) l)(a:n=l.length)(i:Nat)(hi:i<l.length)(x:CmdV)(b:x.ky.size<=maxLen/\x.vl.size<=maxLen/\x.ol.size<=maxLen):Zh (w.setCells q (i*7+1) x.cells) B (.slice (some ⟨q,0,none⟩) n c) (l.set i (setCE x l[i])):=by
 subst a;refine ⟨λe he=>?_,?_⟩
 ·rcases List.mem_or_eq_of_mem_set he with he | he
  ·exact h.1 e he
  ·subst he;exact b
 ·rw [Bg,Z4y x l i hi]
  exact Z2t _ _ _ _ h.2
theorem grewCell {i:Nat}(x:Af):Ye w (.slice (some ⟨q,0,none⟩) n c) (w.setCell ⟨q,i,none⟩ x) (.slice (some ⟨q,0,none⟩) n c):=
 ⟨⟨rfl,rfl,rfl,by simp,λk _ hk=>Below.heap_setCell _ _ _ _ (λe=>hk (by rw [e];rfl))⟩,.inl rfl⟩
theorem grewCells : ∀(vs:List Af) (w:Ag) (i:Nat),Ye w (.slice (some ⟨q,0,none⟩) n c) (w.setCells q i vs) (.slice (some ⟨q,0,none⟩) n c)
 | [],w,i=>Ye.refl _ _
 | v :: vs,w,i=>(grewCell v).trans (grewCells vs _ (i+1))
end
section
def Z42 (L:List Ent)(i:Nat):Ent:=L[i]?.getD ⟨0,0,0,0,⟨#[]⟩,⟨#[]⟩,⟨#[]⟩⟩
variable {L:List Ent}
theorem entAtD_get {i:Nat}(h:i<L.length):Z42 L i=L[i]:=by
 unfold Z42;rw [List.getElem?_eq_getElem h];rfl
def BadAt (w0 w w':Ag)(g:Nat)(v:Af)(l:List Int)(u:Af)(L:List Ent)(K:Nat):Prop:=
 Zh w' w0.heap.size u L/\Dr w0 w' g v l K []/\∀ b,b<w.heap.size->b≠g->u.ownBlock≠some b->w'.heap[b]? = w.heap[b]?
variable {w0 w w':Ag}{g k K:Nat}{v u:Af}{l:List Int}
theorem Xb (h:Dr w0 w g v l k [])(d:Zh w w0.heap.size u L)(c:Src w' g v l K)(a:w.grownBy w' (some g)):BadAt w0 w w' g v l u L K:=
 ⟨d.grown a h.gl,h.call c a,λb hb hne _=>a.block b hb (λe=>hne (by injection e))⟩
theorem Dr.rebase {W:Ag}{b:Nat}{F:List (Nat×Array Af×TypeId)}(h:Dr w0 w g v l k [])(a:Dr w W g v l b F):Dr w0 W g v l b F:=
 ⟨Z8 h.grown a.grown,a.src,h.gl,h.bs0,λi x e=>⟨Nat.le_trans h.size (a.blks i x e).1,(a.blks i x e).2⟩,a.dis⟩
theorem Z4t (h:k≠g):∀(vs:List Af) (o:Nat) (w:Ag),(w.setCells g o vs).heap[k]? = w.heap[k]?
 | [],_,_=>rfl
 | v :: vs,o,w=>(Z4t h vs (o+1) _).trans (Below.heap_setCell w ⟨g,o,none⟩ v k h)
theorem six_cells (u:Ag)(q o:Nat)(c:CmdV):((((((u.setCell ⟨q,o,none⟩ (Aa O c.cl)).setCell ⟨q,o+1,none⟩ (Aa O c.sq)).setCell ⟨q,o+2,none⟩ (Aa O c.op)).setCell ⟨q,o+3,none⟩ (Az c.ky)).setCell ⟨q,o+4,none⟩ (Az c.vl)).setCell ⟨q,o+5,none⟩ (Az c.ol))=u.setCells q o c.cells:=rfl
theorem Z7x (n:Nat)(x:Int):(Z1e n x).size=n:=by
 unfold Z1e;rw [strOfNums_size,List.length_replicate]
theorem badC_fits (l:List Int)(k:Nat)(c:CmdV)(h:c.ky.size<=maxLen/\c.vl.size<=maxLen/\c.ol.size<=maxLen):(Js l k c).1.ky.size<=maxLen/\(Js l k c).1.vl.size<=maxLen/\(Js l k c).1.ol.size<=maxLen:=by
 obtain ⟨d,a,b⟩:=h;have i:=λj=>Nat.le_of_lt (Z6 l j 2)
 have e:∀ j x,(Z1e (64+Z4 l j 2) x).size<=maxLen:=λj x=>by rw [Z7x];have:=i j;unfold maxLen;omega
 have f:∀ j x,(Z1e (Z4 l j 2) x).size<=maxLen:=λj x=>by rw [Z7x];have:=i j;unfold maxLen;omega
 have m:(⟨#[]⟩:ByteArray).size<=maxLen:=Bb _;unfold Js;split
 ·exact ⟨d,a,b⟩
 split
 ·exact ⟨d,a,b⟩
 split
 ·exact ⟨d,a,b⟩
 split
 ·exact ⟨d,a,b⟩
 split
 ·exact ⟨m,a,b⟩
 split
 ·exact ⟨e _ _,a,b⟩
 split
 ·exact ⟨d,e _ _,b⟩
 split
 ·exact ⟨d,a,e _ _⟩
 ·exact ⟨f _ _,f _ _,f _ _⟩
theorem Zh.bad {u':Af}{d c:List Ent}{B:Nat}(b:Zh w B u' c)(f:BadAt w0 w w' g v l u d K)(h:g<B)(a:∀ q,u.ownBlock=some q->u'.ownBlock≠some q):Zh w' B u' c:=
 b.block λq hq=>f.2.2 q (b.2.lt q hq).2 (by have:=(b.2.lt q hq).1;omega) (λe=>a q e hq)
end
structure Sm (K:Nat) (r:Rn):Prop where
 sz:r.n.sz<=7
 log:r.n.log.length<=5000
 gr:r.n.gr.length<=1000
 nx:r.n.nx.length<=1000
 mt:r.n.mt.length<=1000
 se:r.n.se.length<=1000
 st:r.n.st.length<=1000
 out:r.out.length<=K
 es:∀ m∈r.out,m.es.length<=32
section
variable {K:Nat} {r:Rn}
theorem Sm.mono (h:Sm K r){a:Nat}(b:K<=a):Sm a r:=⟨h.sz,h.log,h.gr,h.nx,h.mt,h.se,h.st,Nat.le_trans h.out b,h.es⟩
theorem Sm.timer (h:Sm K r):Sm K r.timer:=⟨h.sz,h.log,h.gr,h.nx,h.mt,h.se,h.st,h.out,h.es⟩
theorem Sm.lone (h:Sm K r):Sm K r.lone:=⟨h.sz,h.log,Bb _,Bb _,Bb _,Bb _,Bb _,h.out,h.es⟩
theorem Sm.adopt (h:Sm K r)(t:Int):Sm K (r.adopt t):=by
 unfold Rn.adopt;split
 ·exact Sm.timer ⟨h.sz,h.log,Bb _,Bb _,Bb _,Bb _,Bb _,h.out,h.es⟩
 ·exact ⟨h.sz,h.log,Bb _,Bb _,Bb _,Bb _,Bb _,h.out,h.es⟩
theorem Sm.code (h:Sm K r)(c:Int):Sm K { r with code:=c }:=⟨h.sz,h.log,h.gr,h.nx,h.mt,h.se,h.st,h.out,h.es⟩
theorem Sm.send (h:Sm K r)(m:Mg)(a:m.es.length<=32:=by simp):Sm (K+1) (r.send m):=
 ⟨h.sz,h.log,h.gr,h.nx,h.mt,h.se,h.st,by have:=h.out;simp only [Rn.send,Bc,List.length_cons,List.length_nil];omega,λx hx=>by
  simp only [Rn.send,List.mem_append,List.mem_cons,List.not_mem_nil,or_false] at hx;rcases hx with hx | rfl
  ·exact h.es x hx
  ·exact a⟩
theorem Sm.allK (h:Sm K r)(m:Mg)(a:m.es.length<=32):∀ k:Nat,Sm (K+k) (Rn.allK m k r)
 | 0=>h
 | k+1=>by
  unfold Rn.allK;split
  ·exact (Sm.allK h m a k).mono (by omega)
  ·have b:=(Sm.allK h m a k).send { m with td:=(k:Int)+1 } a
   exact b.mono (by omega)
theorem Sm.sendE (h:Sm K r)(j:Nat):Sm (K+1) (r.sendE j):=by
 have a:=h.send (Z0k r.n j) (by unfold Z0k;simp only [List.length_take];omega);exact ⟨h.sz,h.log,h.gr,h.nx,h.mt,h.se,by show (r.n.st.set j r.n.nw).length<=_;rw [Bg];exact h.st,a.out,a.es⟩
theorem Sm.sendK (h:Sm K r):∀ k:Nat,Sm (K+k) (Rn.sendK k r)
 | 0=>h
 | k+1=>by
  unfold Rn.sendK;split
  ·exact (Sm.sendK h k).mono (by omega)
  ·exact ((Sm.sendK h k).sendE _).mono (by omega)
theorem Sm.beatK (h:Sm K r):∀ k:Nat,Sm (K+k) (Rn.beatK k r)
 | 0=>h
 | k+1=>by
  unfold Rn.beatK;split
  ·exact ((Sm.beatK h k).sendE _).mono (by omega)
  ·exact (Sm.beatK h k).mono (by omega)
theorem Z6e (gr:List Int)(fr:Int):∀ k:Nat,(Zx gr fr k).length<=k
 | 0=>by simp [Zx]
 | k+1=>by
  have:=Z6e gr fr k;unfold Zx;split <;> simp <;> omega
theorem Sm.sendAll (h:Sm K r):Sm (K+7) r.sendAll:=by
 have:=h.sz;exact (h.sendK _).mono (by omega)
theorem Sm.tick (h:Sm K r):Sm (K+7) r.tick:=by
 have b:Sm K { r with n:={ r.n with nw:=r.n.nw+1 } }:=⟨h.sz,h.log,h.gr,h.nx,h.mt,h.se,h.st,h.out,h.es⟩;unfold Rn.tick;split
 ·exact (h.code 7).mono (by omega)
 generalize ({ r with n:={ r.n with nw:=r.n.nw+1 } } : Rn)=r1 at *;have e:=b.sz;dsimp only;split
 ·split
  ·exact (b.beatK _).mono (by omega)
  ·exact b.lone.timer.mono (by omega)
 split
 ·exact b.mono (by omega)
 split
 ·exact b.lone.timer.mono (by omega)
 ·have a:=b.lone.timer
  have c:Sm K { r1.lone.timer with n:={ r1.lone.timer.n with ro:=1,gr:=[r1.n.id] } }:=⟨a.sz,a.log,by show ([r1.n.id]:List Int).length<=1000;simp,a.nx,a.mt,a.se,a.st,a.out,a.es⟩;have d:=c.allK ⟨1,0,0,r1.n.tm+1,r1.n.log.length,Y9 r1.n.log,0,0,0,[]⟩ (by show (([]:List Ent)).length<=32;simp) r1.n.sz.toNat;exact d.mono (by omega)
theorem Sm.preAsk (h:Sm K r)(m:Mg):Sm (K+7) (r.preAsk m):=by
 unfold Rn.preAsk;split
 ·exact (h.code 2).mono (by omega)
 split
 ·exact (h.send _).mono (by omega)
 ·exact (h.send _).mono (by omega)
theorem Sm.higher (h:Sm K r)(t:Int):Sm K (r.higher t):=by
 unfold Rn.higher;split
 ·exact h.adopt t
 ·exact h
theorem Sm.voteAsk (h:Sm K r)(m:Mg):Sm (K+7) (r.voteAsk m):=by
 unfold Rn.voteAsk;split
 ·exact (h.code 2).mono (by omega)
 have b:=h.higher m.tm;dsimp only;split
 ·have a:=b.lone
  refine Sm.mono (Sm.send (K:=K) (Sm.timer ?_) _ ?_) ?_
  ·exact ⟨a.sz,a.log,a.gr,a.nx,a.mt,a.se,a.st,a.out,a.es⟩
  ·simp
  ·omega
 ·exact (b.send _).mono (by omega)
theorem Sm.preReply (h:Sm K r)(m:Mg):Sm (K+7) (r.preReply m):=by
 have c:=h.sz;unfold Rn.preReply;split
 ·unfold Rn.takeTerm
  split
  ·exact (h.adopt _).mono (by omega)
  ·exact (h.code 3).mono (by omega)
 split
 ·exact (h.code 3).mono (by omega)
 dsimp only;split
 ·have a:Sm K (Rn.timer { r with n:={ r.n with tm:=r.n.tm+1,vo:=r.n.id,ro:=2,gr:=[r.n.id] } }):=Sm.timer ⟨h.sz,h.log,by show ([r.n.id]:List Int).length<=1000;simp,h.nx,h.mt,h.se,h.st,h.out,h.es⟩
  have b:=a.allK ⟨3,0,0,r.n.tm+1,r.n.log.length,Y9 r.n.log,0,0,0,[]⟩ (by show (([]:List Ent)).length<=32;simp) r.n.sz.toNat;exact b.mono (by omega)
 ·have:=Z6e r.n.gr m.fr r.n.sz.toNat
  exact ⟨h.sz,h.log,by show (Zx r.n.gr m.fr r.n.sz.toNat).length<=1000;omega,h.nx,h.mt,h.se,h.st,by have:=h.out;show r.out.length<=K+7;omega,h.es⟩
theorem Sm.lead (h:Sm K r):Sm (K+7) r.lead:=by
 have b:=h.sz;have a:=h.lone;unfold Rn.lead;dsimp only;refine Sm.sendAll ⟨h.sz,?_,a.gr,?_,?_,?_,?_,h.out,h.es⟩
 ·have:=h.log
  simp only;split
  ·simp only [Bc,List.length_cons,List.length_nil];omega
  ·omega
 all_goals (simp only [Xk];omega)
theorem Sm.voteReply (h:Sm K r)(m:Mg):Sm (K+7) (r.voteReply m):=by
 have a:=h.sz;unfold Rn.voteReply;split
 ·exact (h.adopt _).mono (by omega)
 split
 ·exact (h.code 3).mono (by omega)
 dsimp only;split
 ·exact h.lead
 ·have:=Z6e r.n.gr m.fr r.n.sz.toNat
  exact ⟨h.sz,h.log,by show (Zx r.n.gr m.fr r.n.sz.toNat).length<=1000;omega,h.nx,h.mt,h.se,h.st,by have:=h.out;show r.out.length<=K+7;omega,h.es⟩
theorem higher_log (r:Rn)(t:Int):(r.higher t).n.log=r.n.log:=by
 unfold Rn.higher Rn.adopt;split
 ·split <;> rfl
 ·rfl
theorem Sm.append (h:Sm K r)(e:r.n.log.length<=4900)(m:Mg)(f:m.es.length<=32):Sm (K+7) (r.append m):=by
 unfold Rn.append;split
 ·exact (h.send _).mono (by omega)
 have c:=h.higher m.tm;have d:=higher_log r m.tm;generalize r.higher m.tm=r1 at *;dsimp only;split
 ·exact (c.code 3).mono (by omega)
 have b:=c.lone;have a:Sm K (Rn.timer { r1.lone with n:={ r1.lone.n with ld:=m.fr,hd:=r1.n.nw } }):=Sm.timer ⟨b.sz,b.log,b.gr,b.nx,b.mt,b.se,b.st,b.out,b.es⟩;have e3:(Rn.timer { r1.lone with n:={ r1.lone.n with ld:=m.fr,hd:=r1.n.nw } }).n.log=r.n.log:=d;generalize Rn.timer { r1.lone with n:={ r1.lone.n with ld:=m.fr,hd:=r1.n.nw } }=r3 at *;split
 ·exact (a.send _).mono (by omega)
 split
 ·exact (a.code 3).mono (by omega)
 refine Sm.mono (Sm.send (K:=K) ?_ _ ?_) ?_
 ·refine ⟨a.sz,?_,a.gr,a.nx,a.mt,a.se,a.st,a.out,a.es⟩
  dsimp only;split
  ·rw [e3]
   simp only [Bc,List.length_take,List.length_drop];omega
  ·exact a.log
 ·simp
 ·omega
theorem Sm.appReply (h:Sm K r)(m:Mg):Sm (K+7) (r.appReply m):=by
 unfold Rn.appReply;split
 ·exact (h.adopt _).mono (by omega)
 split
 ·exact (h.code 3).mono (by omega)
 dsimp only;have a:∀ c:Int,Sm K { r with code:=c,n:={ r.n with se:=r.n.se.set (m.fr-1).toNat r.n.nw } }:=λc=>⟨h.sz,h.log,h.gr,h.nx,h.mt,by simp only [Bg];exact h.se,h.st,h.out,h.es⟩
 split
 ·split
  ·exact (a 3).mono (by omega)
  ·refine Sm.mono (Sm.sendE (K:=K) ?_ _) ?_
   ·exact ⟨h.sz,h.log,h.gr,by simp only [Bg];exact h.nx,h.mt,by simp only [Bg];exact h.se,h.st,h.out,h.es⟩
   ·omega
 split
 ·exact (a 3).mono (by omega)
 split
 ·refine Sm.mono (Sm.sendE (K:=K) ?_ _) ?_
  ·exact ⟨h.sz,h.log,h.gr,by simp only [Bg];exact h.nx,by simp only [Bg];exact h.mt,by simp only [Bg];exact h.se,h.st,h.out,h.es⟩
  ·omega
 ·exact ⟨h.sz,h.log,h.gr,by simp only [Bg];exact h.nx,by simp only [Bg];exact h.mt,by simp only [Bg];exact h.se,h.st,Nat.le_trans h.out (by omega),h.es⟩
theorem Sm.message (h:Sm K r)(a:r.n.log.length<=4900)(bad:Bool)(m:Mg)(b:bad=false->m.ki=5->m.es.length<=32):Sm (K+7) (r.message bad m):=by
 unfold Rn.message;split
 ·exact (h.code 1).mono (by omega)
 rename_i hb;split
 ·exact h.preAsk m
 split
 ·exact h.preReply m
 split
 ·exact h.voteAsk m
 split
 ·exact h.voteReply m
 split
 ·rename_i h5
  exact h.append a m (b (by cases bad with | false=>rfl | true=>exact absurd (Or.inl rfl) hb) h5)
 ·exact h.appReply m
theorem Sm.propose (h:Sm K r)(a:r.n.log.length<=4900)(bad:Bool)(cl sq op:Int)(k v o:ByteArray):Sm (K+7) (r.propose bad cl sq op k v o):=by
 unfold Rn.propose;split
 ·exact (h.code 6).mono (by omega)
 split
 ·exact (h.code 4).mono (by omega)
 split
 ·exact (h.code 5).mono (by omega)
 ·exact Sm.sendAll ⟨h.sz,by simp only [Bc,List.length_cons,List.length_nil];omega,h.gr,h.nx,h.mt,h.se,h.st,h.out,h.es⟩
end
theorem stepA_sm (n:Nd)(dr ki:Int)(m:Mg)(cl sq op:Int)(k v o:ByteArray):Sm 7 (Z2j n dr ki m cl sq op k v o):=by
 unfold Z2j;split
 ·rename_i h0
  obtain ⟨a,-,-,-,e,-,-,f⟩:=Z03 n h0
  have hL:n.nx.length<=1000/\n.mt.length<=1000/\n.se.length<=1000/\n.st.length<=1000:=by
   have d:=f;have g:=a.sz1;have h:=a.sz0;unfold Jw at d;rw [Bool.and_eq_true,Xu] at d;split at d <;> omega
  have c:Sm 0 ⟨n,[],0,0,dr⟩:=⟨a.sz1,by have:=a.ln;simp only;omega,e,hL.1,hL.2.1,hL.2.2.1,hL.2.2.2,Nat.le_refl _,λx hx=>by cases hx⟩;have b:n.log.length<=4900:=by have:=a.ln;omega
  unfold Z8w;dsimp only;split
  ·exact c.tick
  split
  ·exact c.message b _ m (λhbd h5=>(Z2a m (by simpa using hbd)).2.2.2.2.2.1 h5)
  split
  ·exact c.propose b _ cl sq op k v o
  ·exact (c.code 8).mono (by omega)
 ·exact ⟨by decide,by decide,by decide,by decide,by decide,by decide,by decide,by decide,λx hx=>by cases hx⟩
end Go.Proofs.YtmmpoppgabadmaaGreat
