import Derived.Test.YtmmpoppgabadmaaGreatG02
import Derived.Deep.DeepCutAuto
import Derived.Deep.Light
import Derived.Deep.RegionLaw
import Derived.BigQuiet
set_option linter.unusedVariables false
set_option linter.unusedSimpArgs false
set_option maxRecDepth 100000
set_option maxHeartbeats 16000000
namespace Go.Proofs.YtmmpoppgabadmaaGreat
open Go.RowKit
def Xm (T:Int)(e:Ent):Ent:=⟨T,e.cl,e.sq,e.op,e.k,e.v,e.o⟩
def Ja (T:Int)(e:Ent):Ent:=if T<e.t then Xm T e else e
theorem Dr.pick1 {w0 w:World}{g k:Nat}{v:Value}{l:List Int}{F:List (Nat×Array Value×TypeId)}(h:Dr w0 w g v l k F)(n:Nat)(hL:l.length<=1048576)(hk:k<=900000000)(hn:0<n)(hN:n<=256) :
  Calls Tryz.prog 53 #[.pointer (some ⟨g,0,none⟩),.int .i64 n] w fun e w'=>e=.returned (.int .i64 (Z5 l k n:Nat))/\Dr w0 w' g v l (k+1) F:=by
 have:=h.pick n hL hk hn (by omega)
 rwa [show Zm n=1 by unfold Zm;rw [if_pos hN]] at this
theorem Dr.pickG {w0 w:World}{g k:Nat}{v:Value}{l:List Int}{F:List (Nat×Array Value×TypeId)}(h:Dr w0 w g v l k F)(n:Nat)(hL:l.length<=1048576)(hk:k<=900000000)(hn:0<n)(hN:n<=256) :
  Calls Tryz.prog 53 #[.pointer (some ⟨g,0,none⟩),.int .i64 n] w fun e w'=>e=.returned (.int .i64 (Z5 l k n:Nat))/\Dr w0 w' g v l (k+1) F/\w.grownBy w' (some g):=by
 have:=Zq g w v l k n hL hk hn (by omega) h.src;rw [show Zm n=1 by unfold Zm;rw [if_pos hN]] at this;exact this.mono fun e w' ⟨h1,h2,h3⟩=>⟨h1,h.call h2 h3,h3⟩
theorem esAt {w:World}{a:Option Addr}{cap:Nat}{l:List Ent}(h:Es w (.slice a l.length cap) l){k:Nat}(hk:k<l.length):∃ b off,a=some ⟨b,off,none⟩/\Xv w b (off+k*7) l[k]:=by
 obtain ⟨_,_,a',cap',e,hc⟩:=h;injection e with e1 _ _;subst e1;obtain ⟨b,off,rfl,hj⟩:=hc k hk;exact ⟨b,off,rfl,hj k hk⟩
theorem Z0u {w:World}{B n cap:Nat}{a:Option Addr}{l:List Ent}(h:Zv w B (.slice a n cap) l)(hn:n=l.length){k:Nat}(hk:k<l.length)(hm:n<=maxLen):∃ q,a=some ⟨q,0,none⟩/\Xv w q (k*7) l[k]/\∀ j,w.frozen? ⟨q,j,none⟩=false:=by
 subst hn;obtain ⟨q,cap',e⟩:=h.shape' (by omega);injection e with e1 e2 e3;subst e1 e3;obtain ⟨b,off,e,hE⟩:=esAt (h.es hm) hk;injection e with e;injection e with f1 f2;subst f1 f2;rw [Nat.zero_add] at hE;exact ⟨_,rfl,hE,fun j=>h.2.frozenAt j⟩
theorem entCells_setT (l:List Ent):∀(i:Nat) (hi:i<l.length) (T:Int),Yc (l.set i (Xm T l[i]))=(Yc l).set (i*7) (.int .i64 T):=by
 induction l with
 | nil=>intro i hi;simp at hi
 | cons e l ih=>
  intro i hi T
  cases i with
  | zero=>simp [Yc,Ent.cells,Xm]
  | succ i=>
   have hi':i<l.length:=by simpa using hi
   simp only [List.set_cons_succ,List.getElem_cons_succ,Yc];rw [ih i hi' T,List.set_append,if_neg (by simp [Ent.cells];omega)];congr 2;simp [Ent.cells];omega
theorem Zv.setT {w:World}{B q c n:Nat}{l:List Ent}(h:Zv w B (.slice (some ⟨q,0,none⟩) n c) l)(hn:n=l.length)(i:Nat)(hi:i<l.length)(T:Int):Zv (w.setCell ⟨q,i*7,none⟩ (.int .i64 T)) B (.slice (some ⟨q,0,none⟩) n c) (l.set i (Xm T l[i])):=by
 subst hn;refine ⟨fun e he=>?_,?_⟩
 ·rcases List.mem_or_eq_of_mem_set he with he | he
  ·exact h.1 e he
  ·subst he;have hf:=h.1 _ (List.getElem_mem hi);exact hf
 ·rw [List.length_set,entCells_setT l i hi T]
  exact (h.2.stored (i*7) _).1
def lowV (L:List Ent)(j:Nat):Int:=if j=0 then 1 else (L[j-1]?.map (·.t)).getD 1
theorem lowV_succ (L:List Ent)(j:Nat)(h:j<L.length):lowV L (j+1)=L[j].t:=by
 unfold lowV;rw [if_neg (by omega)];simp [List.getElem?_eq_getElem h]
theorem infoStb:(Tryz.prog.info? 104).map (·.size)=some 3:=by kernel_rfl
def stE (l:List Int)(k n:Nat):List Ent×Nat×Int:=Y5 l (k+1+1+1) (1+((Z5 l (k+1+1) 3:Nat):Int)) (Z5 l (k+1) (n+1))
def stT (l:List Int)(k n:Nat):Int:=if Z5 l ((stE l k n).2.1+1) 14=0 then 1073741824 else lowV (stE l k n).1 (stE l k n).1.length+((Z5 l (stE l k n).2.1 3:Nat):Int)
def stD (l:List Int)(k n:Nat):Int×Int×List Ent×Nat:=
 if Z5 l k 12=0 then (0,0,[],k+1) else (stT l k n,((Z5 l ((stE l k n).2.1+1+1) 8:Nat):Int),(stE l k n).1,(stE l k n).2.1+1+1+1)
theorem entsD_memS (l:List Int)(k:Nat)(t:Int)(n:Nat)(h0:0<=t)(h1:t<=1073741824):∀ e∈(Y5 l k t n).1,0<=e.t/\e.t<=1073741824:=by
 induction n with
 | zero=>intro e he;simp [Y5] at he
 | succ n ih=>
  intro e he;rw [Y5] at he;rcases List.mem_append.1 he with he | he
  ·exact ih e he
  ·simp only [List.mem_singleton] at he
   have h2:=entsD_t l k t n h0 h1;have h3:=entT_le l (Y5 l k t n).2.1 (Y5 l k t n).2.2 (by omega) h2.2;subst he;unfold entE;split <;> (dsimp only;omega)
theorem Jv {w w':World}{B b:Nat}{v:Value}{l:List Ent}{C:Array Value}{t:TypeId}(h:Zv w B v l)(hb:Blk w b C t)(hne:118≠t)(hk:∀ q,q≠b->w'.heap[q]? = w.heap[q]?):Zv w' B v l:=
 h.block fun q hq=>hk q (fun e=>ownsRow.neBlk h.2 hb hne (by rw [hq,e]))
theorem Jx (w:World)(b j:Nat)(x:Value):∀ q,q≠b->(w.setCell ⟨b,j,none⟩ x).heap[q]? = w.heap[q]?:=fun q hq=>Below.heap_setCell _ _ _ _ hq
theorem Z2x (g:Nat)(w:World)(v:Value)(l:List Int)(k n:Nat)(hL:l.length<=1048576)(hk:k<=400000000)(hn:n<=200)(h:Src w g v l k) :
  Calls Tryz.prog 92 #[.pointer (some ⟨g,0,none⟩),.int .i64 n] w fun r w'=>∃ ea ec,r=.returned (.agg #[.int .i64 (stD l k n).1,.int .i64 (stD l k n).2.1,.slice ea (stD l k n).2.2.1.length ec])/\Zv w' w.heap.size (.slice ea (stD l k n).2.2.1.length ec) (stD l k n).2.2.1/\Src w' g v l (stD l k n).2.2.2/\w.grownBy w' (some g):=by
 have hg0:g<w.heap.size:=h.lt
 have HD0:Hid (Dr w ((w.alloc (.cells #[.int .i64 0,.int .i64 0,.slice none 0 0] 104)).alloc (.cells #[.int .i64 0,.int .i64 0,.slice none 0 0] 104)) g v l k [(w.heap.size,#[.int .i64 0,.int .i64 0,.slice none 0 0],104),(w.heap.size+1,#[.int .i64 0,.int .i64 0,.slice none 0 0],104)]):=by
  have hX:=((Dr.start h).new #[.int .i64 0,.int .i64 0,.slice none 0 0] 104 (Yd rfl)).new #[.int .i64 0,.int .i64 0,.slice none 0 0] 104 (Yd rfl);have hY:Dr w ((w.alloc (.cells #[.int .i64 0,.int .i64 0,.slice none 0 0] 104)).alloc (.cells #[.int .i64 0,.int .i64 0,.slice none 0 0] 104)) g v l k [(w.heap.size,#[.int .i64 0,.int .i64 0,.slice none 0 0],104),(w.heap.size+1,#[.int .i64 0,.int .i64 0,.slice none 0 0],104)]:=by simpa using hX
  exact hY
 clear h;unfold stD;have bp:=Zf l k 12 (by omega);obtain ⟨p,hp⟩:∃ p,p=Z5 l k 12:=⟨_,rfl⟩;have Hp:Hid (p=Z5 l k 12):=hp;rw [<-hp] at bp ⊢;clear hp;by_cases c0:p=0
 ·subst c0
  rw [if_pos rfl];dsimp only;go_enter Tryz.func92,Tryz.ntmps92
  go_wp2_with (go_at_call 53;refine (HD0.out.pickG 12 hL (by omega) (by omega) (by omega)).mono ?_;rintro e w1 ⟨rfl,hd_,hg_⟩;rw [<-Hp.out];have HDw1:Hid (Dr w w1 g v l (k+1) [(w.heap.size,#[.int .i64 0,.int .i64 0,.slice none 0 0],104),(w.heap.size+1,#[.int .i64 0,.int .i64 0,.slice none 0 0],104)]):=hd_;have ce1:=(hd_.blk 1 rfl).cell;have ce0:=(hd_.blk 0 rfl).cell;have fe0:=(hd_.blk 0 rfl).free;clear hd_ hg_)
  have d2:=HDw1.out.set 0 rfl 0 (by simp) (.int .i64 0) rfl;have d3:=d2.set 0 rfl 1 (by simp) (.int .i64 0) rfl;have d4:=d3.set 0 rfl 2 (by simp) (.slice none 0 0) rfl;exact bodyPost_ret (Y9 Tryz.results92 rfl (d4.blk 0 rfl) Tryz.underlying104 rfl infoStb rfl) rfl ⟨none,0,rfl,Zv.nil _ _,d4.src,d4.grown⟩
 ·rw [if_neg c0]
  have c1:((p:Int) == 0)=false:=by rw [beq_eq_false_iff_ne];omega
  dsimp only;have HsT:Hid (stT l k n=if Z5 l ((stE l k n).2.1+1) 14=0 then 1073741824 else lowV (stE l k n).1 (stE l k n).1.length+((Z5 l (stE l k n).2.1 3:Nat):Int)):=(rfl:stT l k n=_);generalize stT l k n=TT at *;have HsE:Hid (stE l k n=Y5 l (k+1+1+1) (1+((Z5 l (k+1+1) 3:Nat):Int)) (Z5 l (k+1) (n+1))):=(rfl:stE l k n=_);have bn1:=Zf l (k+1) (n+1) (by omega);obtain ⟨n1,hn1⟩:∃ n1,n1=Z5 l (k+1) (n+1):=⟨_,rfl⟩;have Hn1:Hid (n1=Z5 l (k+1) (n+1)):=hn1;have bt3:=Zf l (k+1+1) 3 (by omega);obtain ⟨t3,ht3⟩:∃ t3,t3=Z5 l (k+1+1) 3:=⟨_,rfl⟩;have Ht3:Hid (t3=Z5 l (k+1+1) 3):=ht3;rw [<-hn1] at bn1 HsE;rw [<-ht3] at bt3 HsE;clear hn1 ht3;obtain ⟨D,KD,TD,hDe⟩:∃ D KD TD,stE l k n=(D,KD,TD):=⟨_,_,_,rfl⟩;rw [hDe] at HsT HsE ⊢;clear hDe;dsimp only at HsT ⊢;have hDl:=Jb l (k+1+1+1) (1+(t3:Int)) n1;have hDk:=Z1g l (k+1+1+1) (1+(t3:Int)) n1;rw [<-HsE.out] at hDl hDk;dsimp only at hDl hDk
  have hlow:0<=lowV D D.length/\lowV D D.length<=1073741824:=by
   have hme:=entsD_memS l (k+1+1+1) (1+(t3:Int)) n1 (by omega) (by omega);rw [<-HsE.out] at hme;rcases Nat.eq_zero_or_pos D.length with h0 | h0
   ·rw [h0];exact ⟨(by show (0:Int)<=1;omega),(by show (1:Int)<=1073741824;omega)⟩
   ·have h1:=lowV_succ D (D.length-1) (by omega)
    rw [show D.length-1+1=D.length by omega] at h1;rw [h1];exact hme _ (List.getElem_mem _)
  obtain ⟨lw,hlw⟩:∃ lw,lw=lowV D D.length:=⟨_,rfl⟩;rw [<-hlw] at hlow HsT;have Hlw:Hid (lw=lowV D D.length):=hlw;obtain ⟨hlw0,hlwM⟩:=hlow;clear hlw;have bq3:=Zf l KD 3 (by omega);obtain ⟨q3,hq3⟩:∃ q3,q3=Z5 l KD 3:=⟨_,rfl⟩;have Hq3:Hid (q3=Z5 l KD 3):=hq3;have bq14:=Zf l (KD+1) 14 (by omega);obtain ⟨q14,hq14⟩:∃ q14,q14=Z5 l (KD+1) 14:=⟨_,rfl⟩;have Hq14:Hid (q14=Z5 l (KD+1) 14):=hq14;have bq8:=Zf l (KD+1+1) 8 (by omega);obtain ⟨q8,hq8⟩:∃ q8,q8=Z5 l (KD+1+1) 8:=⟨_,rfl⟩;have Hq8:Hid (q8=Z5 l (KD+1+1) 8):=hq8;rw [<-hq3] at bq3 HsT;rw [<-hq14] at bq14 HsT;rw [<-hq8] at bq8 ⊢;clear hq3 hq14 hq8
  have HEs:Hid (∀(u:World),Src u g v l (k+1+1+1)->Calls Tryz.prog 96 #[.pointer (some ⟨g,0,none⟩),.int .i64 n1,.int .i64 (1+(t3:Int))] u fun r w'=>∃ ev,r=.returned ev/\Zv w' u.heap.size ev D/\Src w' g v l KD/\u.grownBy w' (some g)):=fun u hu=>by
   have:=Jo g u v l (k+1+1+1) n1 (1+(t3:Int)) hL (by omega) (by omega) ⟨by omega,by omega⟩ hu;rw [<-HsE.out] at this;exact this
  have HPN:Hid (∀ u:World,Dr w u g v l (k+1) [(w.heap.size,#[.int .i64 0,.int .i64 0,.slice none 0 0],104),(w.heap.size+1,#[.int .i64 0,.int .i64 0,.slice none 0 0],104)]->Calls Tryz.prog 53 #[.pointer (some ⟨g,0,none⟩),.int .i64 ((n:Int)+1)] u fun e w'=>e=.returned (.int .i64 (n1:Nat))/\Dr w w' g v l (k+1+1) [(w.heap.size,#[.int .i64 0,.int .i64 0,.slice none 0 0],104),(w.heap.size+1,#[.int .i64 0,.int .i64 0,.slice none 0 0],104)]):=fun u hu=>by
   rw [Hn1.out];exact hu.pick1 (n+1) hL (by omega) (by omega) (by omega)
  clear HsE;have HDl:Hid (D.length=n1):=hDl;clear hDl;have A1:True:=trivial;have A2:True:=trivial;go_enter Tryz.func92,Tryz.ntmps92
  go_upto_if 24 with (first
   |(go_at_call 53;clear A1;refine (HD0.out.pickG 12 hL (by omega) (by omega) (by omega)).mono ?_;rintro e w1 ⟨rfl,hd_,hg_⟩;rw [<-Hp.out];have HDw1:Hid (Dr w w1 g v l (k+1) [(w.heap.size,#[.int .i64 0,.int .i64 0,.slice none 0 0],104),(w.heap.size+1,#[.int .i64 0,.int .i64 0,.slice none 0 0],104)]):=hd_;have cew1:=(hd_.blk 1 rfl).cell;have few1:=(hd_.blk 1 rfl).free;clear hd_ hg_)
   |(go_at_call 53;clear A2;refine (HPN.out _ HDw1.out).mono ?_;rintro e w2 ⟨rfl,hd_⟩;have HDw2:Hid (Dr w w2 g v l (k+1+1) [(w.heap.size,#[.int .i64 0,.int .i64 0,.slice none 0 0],104),(w.heap.size+1,#[.int .i64 0,.int .i64 0,.slice none 0 0],104)]):=hd_;clear hd_)
   |(go_at_call 53;refine (HDw2.out.pickG 3 hL (by omega) (by omega) (by omega)).mono ?_;rintro e w3 ⟨rfl,hd_,hg_⟩;rw [<-Ht3.out];have HDw3:Hid (Dr w w3 g v l (k+1+1+1) [(w.heap.size,#[.int .i64 0,.int .i64 0,.slice none 0 0],104),(w.heap.size+1,#[.int .i64 0,.int .i64 0,.slice none 0 0],104)]):=hd_;have cew3:=(hd_.blk 1 rfl).cell;have few3:=(hd_.blk 1 rfl).free;clear hd_ hg_)
   |(go_at_call 96;refine (HEs.out _ HDw3.out.src).mono ?_;rintro e w4 ⟨mv,rfl,ho4,hs4,hg4⟩;have HDw4:Hid (Dr w w4 g v l KD [(w.heap.size,#[.int .i64 0,.int .i64 0,.slice none 0 0],104),(w.heap.size+1,#[.int .i64 0,.int .i64 0,.slice none 0 0],104)]):=HDw3.out.call hs4 hg4;obtain ⟨ea,ec,hmv⟩:=ho4.shape;rw [HDl.out] at hmv;subst hmv;have HO4:Hid (Zv w4 w.heap.size (.slice ea n1 ec) D):=ho4.le HDw3.out.size;clear ho4 hs4 hg4))
  clear HEs HPN HDw1 HDw2 HDw3
  go_cut [7] (fun s7 wx=>s7=.int .i64 lw/\wx=w4)
  case first=>
   cases n1 with
   | zero=>
    have hl1:lw=1:=by rw [Hlw.out,HDl.out];rfl
    have Hl1:Hid (lw=1):=hl1;clear hl1
    go_wp2_with fail
    go_meet;exact ⟨by rw [Hl1.out],rfl⟩
   | succ m=>
    have hmD:m<D.length:=by rw [HDl.out];omega
    have hl1:lw=D[m].t:=by rw [Hlw.out,HDl.out];exact lowV_succ D m hmD
    obtain ⟨q,ha,⟨d0,_⟩,_⟩:=Z0u HO4.out HDl.out.symm (k:=m) hmD (by unfold maxLen;omega);rw [<-hl1] at d0;subst ha;have hx1:(m:Int)<(m:Int)+1:=by omega
    have hx2:(0:Int)<(m:Int)+1:=by omega
    clear hl1
    go_wp2_with fail
    go_meet;exact ⟨rfl,rfl⟩
  case rest=>
   obtain ⟨rfl,rfl⟩:=hcut;have ceL:=(HDw4.out.blk 1 rfl).cell;have feL:=(HDw4.out.blk 1 rfl).free;obtain ⟨W4,hW4⟩:∃ W4,W4=wc:=⟨_,rfl⟩;subst hW4;have HDs4:Hid (Dr w (W4.setCell ⟨w.heap.size+1,2,none⟩ (.slice ea n1 ec)) g v l KD [(w.heap.size,#[.int .i64 0,.int .i64 0,.slice none 0 0],104),(w.heap.size+1,#[.int .i64 0,.int .i64 0,.slice ea n1 ec],104)]):=HDw4.out.set 1 rfl 2 (by simp) (.slice ea n1 ec) rfl;have HOs4:Hid (Zv (W4.setCell ⟨w.heap.size+1,2,none⟩ (.slice ea n1 ec)) w.heap.size (.slice ea n1 ec) D):=Jv HO4.out (HDw4.out.blk 1 rfl) (by decide) (Jx _ _ _ _);have A3:True:=trivial
   go_upto_if 41 with (first
    |(go_at_call 53;clear A3;refine (HDs4.out.pickG 3 hL (by omega) (by omega) (by omega)).mono ?_;rintro e w5 ⟨rfl,hd_,hg_⟩;rw [<-Hq3.out];have HDw5:Hid (Dr w w5 g v l (KD+1) [(w.heap.size,#[.int .i64 0,.int .i64 0,.slice none 0 0],104),(w.heap.size+1,#[.int .i64 0,.int .i64 0,.slice ea n1 ec],104)]):=hd_;have cew5:=(hd_.blk 1 rfl).cell;have few5:=(hd_.blk 1 rfl).free;have HOw5:Hid (Zv w5 w.heap.size (.slice ea n1 ec) D):=HOs4.out.grown hg_ hg0;have HDs5:Hid (Dr w (w5.setCell ⟨w.heap.size+1,0,none⟩ (.int .i64 (lw+(q3:Int)))) g v l (KD+1) [(w.heap.size,#[.int .i64 0,.int .i64 0,.slice none 0 0],104),(w.heap.size+1,#[.int .i64 (lw+(q3:Int)),.int .i64 0,.slice ea n1 ec],104)]):=hd_.set 1 rfl 0 (by simp) (.int .i64 (lw+(q3:Int))) rfl;have HOs5:Hid (Zv (w5.setCell ⟨w.heap.size+1,0,none⟩ (.int .i64 (lw+(q3:Int)))) w.heap.size (.slice ea n1 ec) D):=Jv HOw5.out (hd_.blk 1 rfl) (by decide) (Jx _ _ _ _);clear hd_ hg_)
    |(go_at_call 53;refine (HDs5.out.pickG 14 hL (by omega) (by omega) (by omega)).mono ?_;rintro e w6 ⟨rfl,hd_,hg_⟩;rw [<-Hq14.out];have HDw6:Hid (Dr w w6 g v l (KD+1+1) [(w.heap.size,#[.int .i64 0,.int .i64 0,.slice none 0 0],104),(w.heap.size+1,#[.int .i64 (lw+(q3:Int)),.int .i64 0,.slice ea n1 ec],104)]):=hd_;have cew6:=(hd_.blk 1 rfl).cell;have few6:=(hd_.blk 1 rfl).free;have HOw6:Hid (Zv w6 w.heap.size (.slice ea n1 ec) D):=HOs5.out.grown hg_ hg0;clear hd_ hg_))
   go_cut [41] (fun _ wx=>Zv wx w.heap.size (.slice ea n1 ec) D/\Dr w wx g v l (KD+1+1) [(w.heap.size,#[.int .i64 0,.int .i64 0,.slice none 0 0],104),(w.heap.size+1,#[.int .i64 TT,.int .i64 0,.slice ea n1 ec],104)])
   case first=>
    by_cases c14:q14=0
    ·subst c14
     rw [if_pos rfl] at HsT;have hT:=HsT.out;subst hT
     go_wp2_with fail
     go_meet;exact ⟨Jv HOw6.out (HDw6.out.blk 1 rfl) (by decide) (Jx _ _ _ _),HDw6.out.set 1 rfl 0 (by simp) (.int .i64 1073741824) rfl⟩
    ·rw [if_neg c14] at HsT
     have hT:=HsT.out;subst hT;have c15:((q14:Int) == 0)=false:=by rw [beq_eq_false_iff_ne];omega
     go_wp2_with fail
     go_meet;exact ⟨HOw6.out,HDw6.out⟩
   case rest=>
    obtain ⟨ho,hd⟩:=hcut;have HO7:Hid (Zv wc w.heap.size (.slice ea n1 ec) D):=ho;have HD7:Hid (Dr w wc g v l (KD+1+1) [(w.heap.size,#[.int .i64 0,.int .i64 0,.slice none 0 0],104),(w.heap.size+1,#[.int .i64 TT,.int .i64 0,.slice ea n1 ec],104)]):=hd;clear ho hd
    go_wp2_with (go_at_call 53;refine (HD7.out.pickG 8 hL (by omega) (by omega) (by omega)).mono ?_;rintro e w8 ⟨rfl,hd_,hg_⟩;rw [<-Hq8.out];have HDw8:Hid (Dr w w8 g v l (KD+1+1+1) [(w.heap.size,#[.int .i64 0,.int .i64 0,.slice none 0 0],104),(w.heap.size+1,#[.int .i64 TT,.int .i64 0,.slice ea n1 ec],104)]):=hd_;have cew8:=(hd_.blk 1 rfl).cell;have few8:=(hd_.blk 1 rfl).free;have HOw8:Hid (Zv w8 w.heap.size (.slice ea n1 ec) D):=HO7.out.grown hg_ hg0;have cz8:=(hd_.blk 0 rfl).cell;have fz8:=(hd_.blk 0 rfl).free;clear hd_ hg_)
    have d1:=HDw8.out.set 1 rfl 1 (by simp) (.int .i64 (q8:Int)) rfl;have o1:=Jv HOw8.out (HDw8.out.blk 1 rfl) (by decide) (Jx _ _ 1 (.int .i64 (q8:Int)));have d2:=d1.set 0 rfl 0 (by simp) (.int .i64 TT) rfl;have d3:=d2.set 0 rfl 1 (by simp) (.int .i64 (q8:Int)) rfl;have d4:=d3.set 0 rfl 2 (by simp) (.slice ea n1 ec) rfl;have o2:=Jv o1 (d1.blk 0 rfl) (by decide) (Jx _ _ 0 (.int .i64 TT));have o3:=Jv o2 (d2.blk 0 rfl) (by decide) (Jx _ _ 1 (.int .i64 (q8:Int)));have o4:=Jv o3 (d3.blk 0 rfl) (by decide) (Jx _ _ 2 (.slice ea n1 ec));exact bodyPost_ret (Y9 Tryz.results92 rfl (d4.blk 0 rfl) Tryz.underlying104 rfl infoStb rfl) rfl ⟨ea,ec,by rw [HDl.out];rfl,by rw [HDl.out];exact o4,d4.src,d4.grown⟩
end Go.Proofs.YtmmpoppgabadmaaGreat
