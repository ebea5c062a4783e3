import Derived.Test.YtmmpoppgabadmaaGreatG29
set_option linter.unusedVariables false
set_option linter.unusedSimpArgs false
set_option maxRecDepth 100000
set_option maxHeartbeats 16000000
open Go.Value renaming slice → I,int → Aa,pointer → Ae
open Go.IntKind renaming i64 → O
namespace Go.Proofs.YtmmpoppgabadmaaGreat
open Go.RowKit
structure MsgE where
 ki:Int
 fr:Int
 td:Int
 tm:Int
 li:Int
 lt:Int
 cm:Int
 ok:Int
 hi:Int
 es:List Ent
abbrev MsgE.arrC (m:MsgE) (v:Value):Array Value:=#[Aa O m.ki,Aa O m.fr,Aa O m.td,Aa O m.tm,Aa O m.li,Aa O m.lt,Aa O m.cm,Aa O m.ok,Aa O m.hi,v]
def mbV (l:List Int)(k:Nat):Int×Nat:=if Z4 l (k+1) 3=0 then (4096+((Z4 l (k+1+1) 3:Nat):Int)-1,k+1+1+1) else (((Z4 l k 5:Nat):Int)-2,k+1+1)
def badN (l:List Int)(V:Int)(k:Nat)(m:MsgE):MsgE×Nat:=
 if Z4 l k 11=0 then ({ m with ki:=((Z4 l (k+1) 10:Nat):Int)-1 },k+1+1)
 else if Z4 l k 11=1 then ({ m with fr:=((Z4 l (k+1) 11:Nat):Int)-1 },k+1+1)
 else if Z4 l k 11=2 then ({ m with td:=((Z4 l (k+1) 11:Nat):Int)-1 },k+1+1)
 else if Z4 l k 11=3 then ({ m with tm:=((Z4 l (k+1) 2:Nat):Int)*(1073741824+((Z4 l (k+1+1) 2:Nat):Int)) },k+1+1+1)
 else if Z4 l k 11=4 then ({ m with li:=V },k+1)
 else if Z4 l k 11=5 then ({ m with lt:=m.tm+V },k+1)
 else if Z4 l k 11=6 then ({ m with cm:=V },k+1)
 else if Z4 l k 11=7 then ({ m with ok:=V },k+1)
 else if Z4 l k 11=8 then ({ m with hi:=V },k+1)
 else if Z4 l k 11=9 then ({ m with es:=(Y0 l (k+1+1) 1 (31+Z4 l (k+1) 4)).1 },(Y0 l (k+1+1) 1 (31+Z4 l (k+1) 4)).2.1)
 else if m.es.length=0 then ({ m with es:=(Y0 l (k+1) 1 1).1 },(Y0 l (k+1) 1 1).2.1)
 else if Z4 l (k+1+1) 2=0 then ({ m with es:=m.es.set (Z4 l (k+1) m.es.length) (J4 (m.lt+V) (Z42 m.es (Z4 l (k+1) m.es.length))) },k+1+1+1)
 else ({ m with es:=m.es.set (Z4 l (k+1) m.es.length) (setCE (Js l (k+1+1+1) (Z42 m.es (Z4 l (k+1) m.es.length)).cmd).1 (Z42 m.es (Z4 l (k+1) m.es.length))) },(Js l (k+1+1+1) (Z42 m.es (Z4 l (k+1) m.es.length)).cmd).2)
def Z2f (l:List Int)(k:Nat)(m:MsgE):MsgE×Nat:=badN l (mbV l k).1 (mbV l k).2 m
variable {w:World}{v:Value}
theorem Z0u {w':World}{B b:Nat}{l:List Ent}{C:Array Value}{t:TypeId}(h:Zh w B v l)(d:Blk w b C t)(a:118≠t)(c:∀ q,q≠b->w'.heap[q]? = w.heap[q]?):Zh w' B v l:=
 h.block λq hq=>c q (λe=>ownsRow.neBlk h.2 d a (by rw [hq,e]))
theorem set_keepM (w:World)(b j:Nat)(x:Value):∀ q,q≠b->(w.setCell ⟨b,j,none⟩ x).heap[q]? = w.heap[q]?:=λq hq=>Below.heap_setCell _ _ _ _ hq
theorem Z24 (w:World)(b:Nat)(C:Array Value):∀ q,q≠b->(w.setRow b C).heap[q]? = w.heap[q]?:=λq hq=>setRow_other _ _ _ _ hq
theorem Zz:(Tryz.prog.info? 43).map (·.size)=some 10:=by kernel_rfl
theorem mbV_ok (l:List Int)(k:Nat) : -2<=(mbV l k).1/\(mbV l k).1<=4098/\(mbV l k).2<=k+3:=by
 have b:=Z6 l (k+1+1) 3;have a:=Z6 l k 5;unfold mbV;split <;> (dsimp only;omega)
theorem Z8x {w0 a:World}{g k K:Nat}{u:Value}{l:List Int}{F:List (Nat×Array Value×TypeId)}{es:List Ent}(h:Dr w0 w g v l k [])(d:Zh w w0.heap.size u es)(c:Dr w a g v l K F):Dr w0 a g v l K F/\Zh a w0.heap.size u es/\∀ b,b<w.heap.size->b≠g->u.ownBlock≠some b->a.heap[b]? = w.heap[b]?:=
 ⟨h.rebase c,d.grown c.grown h.gl,λb hb hne _=>c.grown.block b hb (λe=>hne (by injection e))⟩
theorem l1badMsg_any (g:Nat)(w0 w:World)(v:Value)(l:List Int)(k:Nat)(m:MsgE)(a:Option Addr)(cap n:Nat)(hL:l.length<=1048576)(hk:k<=300000000)(hn:n=m.es.length)(cx:n<=200)(cy : -4294967296<=m.tm/\m.tm<=4294967296)(dc : -4294967296<=m.lt/\m.lt<=4294967296)(h:Dr w0 w g v l k [])(hO:Zh w w0.heap.size (I a n cap) m.es) :
  Calls Tryz.prog 107 #[Ae (some ⟨g,0,none⟩),.agg (m.arrC (I a n cap))] w λr w'=>∃ ea ec,r=.returned (.agg (mqN ((Z2f l k m).1.ki) ((Z2f l k m).1.fr) ((Z2f l k m).1.td) ((Z2f l k m).1.tm) ((Z2f l k m).1.li) ((Z2f l k m).1.lt) ((Z2f l k m).1.cm) ((Z2f l k m).1.ok) ((Z2f l k m).1.hi) (I ea (Z2f l k m).1.es.length ec)))/\Zh w' w0.heap.size (I ea (Z2f l k m).1.es.length ec) (Z2f l k m).1.es/\Dr w0 w' g v l (Z2f l k m).2 []/\∀ b,b<w.heap.size->b≠g->(Value.slice a n cap).ownBlock≠some b->w'.heap[b]? = w.heap[b]?:=by
 have bn:Hid (Dr w ((w.alloc (.cells (m.arrC (I a n cap)) 43)).alloc (.cells zMsg 43)) g v l k [(w.heap.size,(m.arrC (I a n cap)),43),(w.heap.size+1,zMsg,43)]):=by
  have hX:=((Dr.start h.src).new (m.arrC (I a n cap)) 43 (Zr)).new zMsg 43 (Zr);have hY:Dr w ((w.alloc (.cells (m.arrC (I a n cap)) 43)).alloc (.cells zMsg 43)) g v l k [(w.heap.size,(m.arrC (I a n cap)),43),(w.heap.size+1,zMsg,43)]:=by simpa using hX
  exact hY
 have HW:=Z0 h;have HO:=Z0 hO;have Hn:=Z0 hn;clear h hO hn;unfold Z2f;have hV:=mbV_ok l k;have HV:Hid (mbV l k=if Z4 l (k+1) 3=0 then (4096+((Z4 l (k+1+1) 3:Nat):Int)-1,k+1+1+1) else (((Z4 l k 5:Nat):Int)-2,k+1+1)):=(rfl:mbV l k=_);generalize mbV l k=VK at *;obtain ⟨V,K⟩:=VK;dsimp only at hV ⊢;obtain ⟨da,c8,hK⟩:=hV;have hB:badN l V K m=badN l V K m:=rfl
 conv at hB=>rhs;unfold badN
 have t:Hid (badN l V K m=_):=hB;generalize badN l V K m=R at *;clear hB;obtain ⟨p5,bc⟩:=exq (Z4 l k 5);have b5:=Z6 l k 5;obtain ⟨p3,a7⟩:=exq (Z4 l (k+1) 3);have b3:=Z6 l (k+1) 3;obtain ⟨q3,bd⟩:=exq (Z4 l (k+1+1) 3);have c3:=Z6 l (k+1+1) 3;rw [<-bc] at b5 HV;rw [<-a7] at b3 HV;rw [<-bd] at c3 HV;have bz:=Z0 bc;have cj:=Z0 a7;have cg:=Z0 bd;clear bc a7 bd;obtain ⟨p,hp⟩:=exq (Z4 l K 11);have b7:=Z6 l K 11;rw [<-hp] at b7 t;have Hp:=Z0 hp;clear hp;obtain ⟨nR,a9⟩:=exq (R.1.es.length);rw [<-a9];have ab:=Z0 a9;clear a9;have A2:True:=trivial;go_enter Tryz.func107,Tryz.ntmps107
 go_upto_if 13 with (first
  |(go_at_call 53;clear A2;refine (bn.pick1 5).mono ?_;rintro e w1 ⟨rfl,d⟩;rw [<-bz.out];have a3:=Z0 d;have co:=(d.blk 0).cell;have ct:=(d.blk 0).free;clear d)
  |(go_at_call 53;refine (a3.pick1 3).mono ?_;rintro e w2 ⟨rfl,d⟩;rw [<-cj.out];have ay:=Z0 d;have cu:=(d.blk 0).cell;have cr:=(d.blk 0).free;clear d))
 go_cut [5] (λs5 wx=>s5=Aa O V/\Dr w wx g v l K [(w.heap.size,(m.arrC (I a n cap)),43),(w.heap.size+1,zMsg,43)])
 case first=>
  by_cases c0:p3=0
  ·subst c0
   rw [if_pos rfl] at HV;have a8:=HV.out;injection a8 with e1 e2;have E1:=Z0 e1;have E2:=Z0 e2;clear e1 e2
   go_wp2_with (go_at_call 53;refine (ay.pick1 3).mono ?_;rintro e w3 ⟨rfl,d⟩;rw [<-cg.out];have bw:=Z0 d;have cv:=(d.blk 0).cell;have cp:=(d.blk 0).free;clear d)
   go_meet;exact ⟨by rw [E1.out],E2.out▸bw⟩
  ·rw [if_neg c0] at HV
   have a8:=HV.out;injection a8 with e1 e2;have E1:=Z0 e1;have E2:=Z0 e2;clear e1 e2;have c1:((p3:Int) == 0)=false:=by rw [beq_eq_false_iff_ne];omega
   go_wp2_with fail
   go_meet;exact ⟨by rw [E1.out],E2.out▸ay⟩
 case rest=>
  obtain ⟨rfl,hd⟩:=hcut;have bv:=Z0 hd;have cd:=(hd.blk 0).cell;clear hd bn a3 ay
  go_upto_if 21 with (go_at_call 53;refine (bv.pick1 11).mono ?_;rintro e w4 ⟨rfl,d⟩;rw [<-Hp.out];have f:=Z0 d;have bk:=(d.blk 0).cell;have bp:=(d.blk 0).free;clear d)
  go_cut [22] (λ_ wx=>∃ ea ec,Dr w0 wx g v l R.2 [(w.heap.size,(R.1.arrC (I ea nR ec)),43),(w.heap.size+1,zMsg,43)]/\Zh wx w0.heap.size (I ea nR ec) R.1.es/\∀ b,b<w.heap.size->b≠g->(Value.slice a n cap).ownBlock≠some b->wx.heap[b]? = w.heap[b]?)
  case first=>
   rcases (show p=0∨p=1∨p=2∨p=3∨p=4∨p=5∨p=6∨p=7∨p=8∨p=9∨(p=10/\n=0)∨(p=10/\0<n) by omega) with c0 | c0 | c0 | c0 | c0 | c0 | c0 | c0 | c0 | c0 | ⟨c0,c1⟩ | ⟨c0,c1⟩
   ·subst c0
    rw [if_pos rfl] at t;have bq:=Z6 l (K+1) 10;obtain ⟨q,hq⟩:=exq (Z4 l (K+1) 10);have Hq:=Z0 hq;rw [<-hq] at bq t;clear hq
    go_wp2_with (go_at_call 53;refine (f.pick1 10).mono ?_;rintro e w5 ⟨rfl,d⟩;rw [<-Hq.out];have z:=Z0 d;have ak:=(d.blk 0).cell;have aj:=(d.blk 0).free;have s:=Z0 (d.set 0 rfl 0 (by simp) (Aa O ((q:Int)-1)));clear d)
    go_meet;rw [ab.out,t.out];dsimp only;rw [<-Hn.out];exact ⟨a,cap,Z8x HW HO s⟩
   ·subst c0
    rw [ifd,if_pos rfl] at t;have bq:=Z6 l (K+1) 11;obtain ⟨q,hq⟩:=exq (Z4 l (K+1) 11);have Hq:=Z0 hq;rw [<-hq] at bq t;clear hq
    go_wp2_with (go_at_call 53;refine (f.pick1 11).mono ?_;rintro e w5 ⟨rfl,d⟩;rw [<-Hq.out];have z:=Z0 d;have ak:=(d.blk 0).cell;have aj:=(d.blk 0).free;have s:=Z0 (d.set 0 rfl 1 (by simp) (Aa O ((q:Int)-1)));clear d)
    go_meet;rw [ab.out,t.out];dsimp only;rw [<-Hn.out];exact ⟨a,cap,Z8x HW HO s⟩
   ·subst c0
    rw [ifd,ifd,if_pos rfl] at t;have bq:=Z6 l (K+1) 11;obtain ⟨q,hq⟩:=exq (Z4 l (K+1) 11);have Hq:=Z0 hq;rw [<-hq] at bq t;clear hq
    go_wp2_with (go_at_call 53;refine (f.pick1 11).mono ?_;rintro e w5 ⟨rfl,d⟩;rw [<-Hq.out];have z:=Z0 d;have ak:=(d.blk 0).cell;have aj:=(d.blk 0).free;have s:=Z0 (d.set 0 rfl 2 (by simp) (Aa O ((q:Int)-1)));clear d)
    go_meet;rw [ab.out,t.out];dsimp only;rw [<-Hn.out];exact ⟨a,cap,Z8x HW HO s⟩
   ·subst c0
    rw [ifd,ifd,ifd,if_pos rfl] at t;have bq:=Z6 l (K+1) 2;obtain ⟨q,hq⟩:=exq (Z4 l (K+1) 2);have Hq:=Z0 hq;rw [<-hq] at bq t;clear hq;have br:=Z6 l (K+1+1) 2;obtain ⟨r,hr⟩:=exq (Z4 l (K+1+1) 2);have Hr:=Z0 hr;rw [<-hr] at br t;clear hr;have hw:IntKind.i64.wrap ((q:Int)*(1073741824+(r:Int)))=(q:Int)*(1073741824+(r:Int)):=(by rcases (show q=0∨q=1 by omega) with rfl | rfl <;> rw [IntKind.wrap_i64] <;> simp <;> omega);have A3:True:=trivial
    go_wp2_with (first
     |(go_at_call 53;clear A3;refine (f.pick1 2).mono ?_;rintro e w5 ⟨rfl,d⟩;rw [<-Hq.out];have z:=Z0 d;have ak:=(d.blk 0).cell;have aj:=(d.blk 0).free;clear d)
     |(go_at_call 53;refine (z.pick1 2).mono ?_;rintro e w6 ⟨rfl,d⟩;rw [<-Hr.out];have ad:=Z0 d;have a1:=(d.blk 0).cell;have a4:=(d.blk 0).free;have s:=Z0 (d.set 0 rfl 3 (by simp) (Aa O ((q:Int)*(1073741824+(r:Int)))));clear d))
    go_meet;rw [ab.out,t.out];dsimp only;rw [<-Hn.out];exact ⟨a,cap,Z8x HW HO s⟩
   ·subst c0
    rw [ifd,ifd,ifd,ifd,if_pos rfl] at t;have s:=Z0 (f.set 0 rfl 4 (by simp) (Aa O V))
    go_wp2_with fail
    go_meet;rw [ab.out,t.out];dsimp only;rw [<-Hn.out];exact ⟨a,cap,Z8x HW HO s⟩
   ·subst c0
    rw [ifd,ifd,ifd,ifd,ifd,if_pos rfl] at t;have hw:IntKind.i64.wrap (m.tm+V)=m.tm+V:=(wry);have s:=Z0 (f.set 0 rfl 5 (by simp) (Aa O (m.tm+V)))
    go_wp2_with fail
    go_meet;rw [ab.out,t.out];dsimp only;rw [<-Hn.out];exact ⟨a,cap,Z8x HW HO s⟩
   ·subst c0
    rw [ifd,ifd,ifd,ifd,ifd,ifd,if_pos rfl] at t;have s:=Z0 (f.set 0 rfl 6 (by simp) (Aa O V))
    go_wp2_with fail
    go_meet;rw [ab.out,t.out];dsimp only;rw [<-Hn.out];exact ⟨a,cap,Z8x HW HO s⟩
   ·subst c0
    rw [ifd,ifd,ifd,ifd,ifd,ifd,ifd,if_pos rfl] at t;have s:=Z0 (f.set 0 rfl 7 (by simp) (Aa O V))
    go_wp2_with fail
    go_meet;rw [ab.out,t.out];dsimp only;rw [<-Hn.out];exact ⟨a,cap,Z8x HW HO s⟩
   ·subst c0
    rw [ifd,ifd,ifd,ifd,ifd,ifd,ifd,ifd,if_pos rfl] at t;have s:=Z0 (f.set 0 rfl 8 (by simp) (Aa O V))
    go_wp2_with fail
    go_meet;rw [ab.out,t.out];dsimp only;rw [<-Hn.out];exact ⟨a,cap,Z8x HW HO s⟩
   ·subst c0
    rw [ifd,ifd,ifd,ifd,ifd,ifd,ifd,ifd,ifd,if_pos rfl] at t;have bq:=Z6 l (K+1) 4;obtain ⟨q,hq⟩:=exq (Z4 l (K+1) 4);have Hq:=Z0 hq;rw [<-hq] at bq t;clear hq
    have aq:=Z0 λu hu=>by
     have:=Xw g u v l (K+1+1) (31+q) 1 hL (by omega) (by omega) ⟨by omega,by omega⟩ hu;rw [show (((31+q:Nat)):Int)=31+(q:Int) by omega] at this;exact this
    generalize Y0 l (K+1+1) 1 (31+q)=ED at *;obtain ⟨E1,E2,E3⟩:=ED;dsimp only at aq t;obtain ⟨nE,an⟩:=exq (E1.length);have ax:=Z0 an;clear an
    go_wp2_with (first
     |(go_at_call 53;refine (f.pick1 4).mono ?_;rintro e w5 ⟨rfl,d⟩;rw [<-Hq.out];have z:=Z0 d;have ak:=(d.blk 0).cell;have aj:=(d.blk 0).free;clear d)
     |(go_at_call 96;refine (aq _ z.src).mono ?_;rintro e w6 ⟨ev,rfl,ah,au,ao⟩;obtain ⟨za,zc,av⟩:=ah.shape;rw [<-ax.out] at av;subst av;have ae:=Z0 (z.call au ao);have bb:=Z0 (ah.le (Nat.le_trans HW.size z.size));have bx:=(ae.blk 0).cell;have cf:=(ae.blk 0).free;have s:=Z0 (ae.set 0 rfl 9 (by simp) (I za nE zc));clear ah au ao))
    have o1:=Z0u bb (ae.blk 0 rfl) (by decide) (set_keepM _ _ 9 (I za nE zc));go_meet;rw [ab.out,t.out];dsimp only;rw [<-ax.out];exact ⟨za,zc,HW.rebase s,o1,(Z8x HW HO s).2.2⟩
   ·subst c0
    have ar:m.es.length=0:=Hn.out▸c1
    rw [ifd,ifd,ifd,ifd,ifd,ifd,ifd,ifd,ifd,ifd,if_pos ar] at t;clear ar;subst c1;have aq:Hid (∀ u:World,Src u g v l (K+1)->Calls Tryz.prog 96 #[Ae (some ⟨g,0,none⟩),Aa O 1,Aa O 1] u λr w'=>∃ ev,r=.returned ev/\Zh w' u.heap.size ev (Y0 l (K+1) 1 1).1/\Src w' g v l (Y0 l (K+1) 1 1).2.1/\u.grownBy w' (some g)):=λu hu=>Xw g u v l (K+1) 1 1 hL (by omega) (by omega) ⟨by omega,by omega⟩ hu
    generalize Y0 l (K+1) 1 1=ED at *;obtain ⟨E1,E2,E3⟩:=ED;dsimp only at aq t;obtain ⟨nE,an⟩:=exq (E1.length);have ax:=Z0 an;clear an
    go_wp2_with (go_at_call 96;refine (aq _ f.src).mono ?_;rintro e w6 ⟨ev,rfl,ah,au,ao⟩;obtain ⟨za,zc,av⟩:=ah.shape;rw [<-ax.out] at av;subst av;have ae:=Z0 (f.call au ao);have bb:=Z0 (ah.le (Nat.le_trans HW.size f.size));have bx:=(ae.blk 0).cell;have cf:=(ae.blk 0).free;have s:=Z0 (ae.set 0 rfl 9 (by simp) (I za nE zc));clear ah au ao)
    have o1:=Z0u bb (ae.blk 0 rfl) (by decide) (set_keepM _ _ 9 (I za nE zc));go_meet;rw [ab.out,t.out];dsimp only;rw [<-ax.out];exact ⟨za,zc,HW.rebase s,o1,(Z8x HW HO s).2.2⟩
   ·subst c0
    have ar:0<m.es.length:=Hn.out▸c1
    rw [ifd,ifd,ifd,ifd,ifd,ifd,ifd,ifd,ifd,ifd,ifo] at t;have bi:=Z6 l (K+1) m.es.length ar;obtain ⟨i,hi⟩:=exq (Z4 l (K+1) m.es.length);have Hi:=Z0 hi;rw [<-hi] at bi t;rw [entAtD_get bi] at t;clear hi ar;have bq:=Z6 l (K+1+1) 2;obtain ⟨q,hq⟩:=exq (Z4 l (K+1+1) 2);have Hq:=Z0 hq;rw [<-hq] at bq t;clear hq
    have bg:Hid (∀ u:World,Dr w u g v l (K+1) [(w.heap.size,(m.arrC (I a n cap)),43),(w.heap.size+1,zMsg,43)]->Calls Tryz.prog 53 #[Ae (some ⟨g,0,none⟩),Aa O n] u λe w'=>e=.returned (Aa O (i:Nat))/\Dr w w' g v l (K+1+1) [(w.heap.size,(m.arrC (I a n cap)),43),(w.heap.size+1,zMsg,43)]/\u.grownBy w' (some g)):=λu hu=>by
     rw [Hi.out,<-Hn.out];exact hu.pickG n hL (by omega) c1
    have c4:i<n:=Hn.out▸bi
    have c5:(i:Int)<(n:Int):=by omega
    obtain ⟨qb,ha,_,_⟩:=Z1t HO Hn (k:=i) bi (by unfold maxLen;omega)
    have db:w0.heap.size<=qb/\qb<w.heap.size:=by
     have:=HO.2.lt qb (by rw [ha];rfl);exact this
    subst ha;have aw:=Z0 (HO.grown f.grown HW.gl);have A3:True:=trivial;have a6:∀ x,(m.es.set i x).length=n:=λx=>by rw [List.length_set,<-Hn.out]
    have a2:=Z0 a6;clear a6;by_cases cq:q=0
    ·subst cq
     rw [if_pos rfl] at t;have hw:IntKind.i64.wrap (m.lt+V)=m.lt+V:=(wry)
     go_upto_region 28 with (first
      |(go_at_call 53;clear A3;refine (bg _ f).mono ?_;rintro e w5 ⟨rfl,d,aa⟩;have z:=Z0 d;have a0:=Z0 (aw.grown aa HW.gl);have b6:=(d.blk 0).cell;clear d aa)
      |(go_at_call 53;refine (z.pickG 2).mono ?_;rintro e w6 ⟨rfl,d,aa⟩;rw [<-Hq.out];have ad:=Z0 d;have af:=Z0 (a0.grown aa HW.gl);have a1:=(d.blk 0).cell;have a4:=(d.blk 0).free;clear d aa))
     obtain ⟨qc,ac,⟨d0,_⟩,b0⟩:=Z1t af Hn (k:=i) bi (by unfold maxLen;omega);injection ac with ac;injection ac with ac;subst ac;have s:Hid (Dr w0 (w6.setCell ⟨qb,i*7,none⟩ (Aa O (m.lt+V))) g v l (K+1+1+1) [(w.heap.size,(m.arrC (I (some ⟨qb,0,none⟩) n cap)),43),(w.heap.size+1,zMsg,43)]):=(HW.rebase ad).grew (grewCell (n:=n) (c:=cap) (Aa O (m.lt+V))) (λq' hq'=>by injection hq' with hq';have:qb=q':=hq';omega) (λx hx=>by obtain ⟨j,hj⟩:=List.getElem?_of_mem hx;have cc:=(ad.blks j x hj).1;intro e;injection e with e;have:qb=x.1:=e;omega)
     go_wp2_with fail
     have o1:=af.setT Hn i bi (m.lt+V);go_meet;rw [ab.out,t.out];dsimp only;rw [a2.out];exact ⟨some ⟨qb,0,none⟩,cap,s.out,o1,λb hb hne hq=>(Below.heap_setCell _ _ _ b (λe=>hq (by rw [e];rfl))).trans (ad.grown.block b hb (λe=>hne (by injection e)))⟩
    ·rw [if_neg cq] at t
     have cw:((q:Int) == 0)=false:=by rw [beq_eq_false_iff_ne];omega
     obtain ⟨y,hy⟩:=exq (m.es[i]);have Hy:=Z0 hy;rw [<-hy] at t;have bh:y.fits:=hy▸aw.1 _ (List.getElem_mem bi)
     clear hy;have am:=badC_fits l (K+1+1+1) y.cmd bh;have be:Hid (∀ u:World,Src u g v l (K+1+1+1)->Calls Tryz.prog 106 #[Ae (some ⟨g,0,none⟩),.agg (cqN y.cl y.sq y.op y.k y.v y.o)] u λr w'=>r=.returned (.agg (cqN ((Js l (K+1+1+1) y.cmd).1.cl) ((Js l (K+1+1+1) y.cmd).1.sq) ((Js l (K+1+1+1) y.cmd).1.op) ((Js l (K+1+1+1) y.cmd).1.ky) ((Js l (K+1+1+1) y.cmd).1.vl) ((Js l (K+1+1+1) y.cmd).1.ol)))/\Src w' g v l (Js l (K+1+1+1) y.cmd).2/\u.grownBy w' (some g)):=λu hu=>Z5z g u v l (K+1+1+1) y.cmd hL (by omega) hu
     generalize Js l (K+1+1+1) y.cmd=CB at *;obtain ⟨cb,KB⟩:=CB;dsimp only at am be t;have bj:=Z0 am;clear am bh
     go_upto_region 29 with (first
      |(go_at_call 53;clear A3;refine (bg _ f).mono ?_;rintro e w5 ⟨rfl,d,aa⟩;have z:=Z0 d;have a0:=Z0 (aw.grown aa HW.gl);have b6:=(d.blk 0).cell;clear d aa)
      |(go_at_call 53;refine (z.pickG 2).mono ?_;rintro e w6 ⟨rfl,d,aa⟩;rw [<-Hq.out];have ad:=Z0 d;have af:=Z0 (a0.grown aa HW.gl);have a1:=(d.blk 0).cell;have a4:=(d.blk 0).free;clear d aa))
     obtain ⟨qc,ac,⟨e0,e1,e2,e3,e4,e5,e6⟩,b0⟩:=Z1t af Hn (k:=i) bi (by unfold maxLen;omega);injection ac with ac;injection ac with ac;subst ac;rw [<-Hy.out] at e0 e1 e2 e3 e4 e5 e6
     go_cut [109] (λ_ wx=>Zh wx w0.heap.size (I (some ⟨qb,0,none⟩) n cap) (m.es.set i (setCE cb y))/\Dr w0 wx g v l KB [(w.heap.size,(m.arrC (I (some ⟨qb,0,none⟩) n cap)),43),(w.heap.size+1,zMsg,43)]/\∀ b,b<w.heap.size->b≠g->qb≠b->wx.heap[b]? = w.heap[b]?)
     case first=>
      have bo:=Z0 ad.drew;have cn:=Z0 (af.below (Below.refl _ _).drew)
      go_region_with (go_at_call 106;refine (be _ bo.src).mono ?_;rintro e w7 ⟨rfl,bu,aa⟩;have ai:=Z0 (bo.call bu aa);have cz:=(ai.blk 0).cell;have a5:=Z0 (cn.grown aa HW.gl);obtain ⟨qd,az,⟨d0,d1,d2,d3,d4,d5,d6⟩,c6⟩:=Z1t a5 Hn (k:=i) bi (by unfold maxLen;omega);injection az with az;injection az with az;subst az;clear bu aa)
      all_goals
       go_wp2_with fail
       go_meet;rw [six_cells];exact ⟨(Hy.out▸a5.setC Hn i bi cb bj),(HW.rebase ai).grew (grewCells (n:=n) (c:=cap) cb.cells _ _) (λq' hq'=>by injection hq' with hq';have:qb=q':=hq';omega) (λx hx=>by obtain ⟨j,hj⟩:=List.getElem?_of_mem hx;have cc:=(ai.blks j x hj).1;intro e;injection e with e;have:qb=x.1:=e;omega),λb hb hne hq=>(Z4t (λe=>hq e.symm) _ _ _).trans (ai.grown.block b hb (λe=>hne (by injection e)))⟩
     case rest=>
      obtain ⟨ho,hd,ag⟩:=hcut;have b2:=Z0 ho;have ca:=Z0 hd;have bm:=Z0 ag;clear ho hd ag
      go_wp2_with fail
      go_meet;rw [ab.out,t.out];dsimp only;rw [a2.out];exact ⟨some ⟨qb,0,none⟩,cap,ca.out,b2.out,λb hb hne hq=>bm b hb hne (λe=>hq (by rw [e];rfl))⟩
  case rest=>
   obtain ⟨ea,ec,hd,ho,ag⟩:=hcut;have al:=Z0 hd;have ce:=Z0 ho;have b8:=Z0 ag;clear hd ho ag bv f bk bp cd t
   go_wp2_with (first
    |(have ba:=al;refine Zd 43 (.tmp 3) rfl ?_;clear ba;refine Z7 rfl 43 (.tmp 3) rfl (w.heap.size) rfl (al.blk 0 rfl) Tryz.underlying43 rfl Zz rfl ?_)
    |(have ba:=al;refine Zn 43 (.tmp 4) _ rfl ?_;clear ba;refine Zg rfl 43 (.tmp 4) _ rfl (w.heap.size+1) rfl rfl (al.blk 1 rfl) Zz rfl rfl (by simp [Value.oneCell']) ?_))
   have hR:=al.row 1 rfl (R.1.arrC (I ea nR ec)) (Zr);exact bodyPost_ret (Zl Tryz.results107 rfl (hR.blk 1 rfl) Tryz.underlying43 rfl Zz rfl) rfl ⟨ea,ec,rfl,Z0u ce (al.blk 1 rfl) (by decide) (Z24 _ _ _),hR.nilF,λb hb hne hq=>(setRow_other _ _ _ _ (by omega)).trans (b8 b hb hne hq)⟩
end Go.Proofs.YtmmpoppgabadmaaGreat
