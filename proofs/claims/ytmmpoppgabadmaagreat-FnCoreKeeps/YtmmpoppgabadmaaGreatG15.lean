import Derived.Test.YtmmpoppgabadmaaGreatG14
import Derived.Deep.DeepCutAuto
import Derived.Test.YtmmpoppgabadmaaGreatG11
set_option linter.unusedVariables false
set_option linter.unusedSimpArgs false
set_option maxRecDepth 100000
set_option maxHeartbeats 16000000
open Go.Value renaming slice → I,int → Aa,pointer → Ae
open Go.IntKind renaming i64 → O
open _root_.Option renaming none → Ab,some → Ac
open Go.Proofs.Tryz renaming prog → Ad
open Go renaming World → Ag,Calls → Ar,results_none → Au
open Go.RowKit renaming Hid → Ah,Below → Ai
open Go.Ending renaming returned → Aj
open Go.Calls renaming mono → Am
open Go.RowKit.Below renaming refl → An
open _root_.Nat renaming le_refl → Ao,lt_of_lt_of_le → Bk
open Go.World.ownsRow renaming lt → Aq
open _root_.List renaming getElem?_eq_getElem → As,getD_eq_getElem?_getD → Ba,length_append → Bc,mem_singleton → Bd,getElem_mem → Bp,mem_append → Cc
open Go.Exit renaming inBlock → Av
namespace Go.Proofs.YtmmpoppgabadmaaGreat
open Go.Proofs.Tryz
open Go.RowKit
section
theorem zeroPt (w:Ag):(zeroValue 126).run Ad w=.ok (.pointer Ab) w:=by kernel_rfl
variable {w:Ag}{a:Option Addr}{n c:Nat}{l:List Ent}
theorem Zh.capI {B:Nat}(h:Zh w B (I a n c) l):n<=c:=by
 rcases h.2.2 with ⟨e,h0⟩ | ⟨g,cap,cur,e,_,_,h1,_⟩
 ·injection e with _ e2 e3;omega
 ·injection e with _ e2 e3;omega
theorem Es.takeI (h:Es w (I a n c) l)(k:Nat)(q:k<=l.length):Es w (I a k c) (l.take k):=by
 obtain ⟨r,o,p,s,e,g⟩:=h;simp only [Value.slice.injEq] at e;obtain ⟨rfl,-,rfl⟩:=e;have d:(l.take k).length=k:=by rw [List.length_take];omega
 refine ⟨by omega,λe he=>o e (List.mem_of_mem_take he),a,c,by rw [d],λi hi=>?_⟩;obtain ⟨b,f,rfl,m⟩:=g i (by omega);refine ⟨b,f,rfl,λj h=>?_⟩;rw [List.getElem_take];exact m j (by omega)
theorem Es.part {g:Nat}(h:Es w (I (Ac ⟨g,0,Ab⟩) n c) l)(p k:Nat)(v:p+k<=l.length)(f:Option Addr)(m:Nat)(o:0<k->f=Ac ⟨g,p*7,Ab⟩):Es w (I f k m) ((l.drop p).take k):=by
 obtain ⟨x,t,y,u,e,r⟩:=h;simp only [Value.slice.injEq] at e;obtain ⟨rfl,-,rfl⟩:=e;have d:((l.drop p).take k).length=k:=by rw [List.length_take,List.length_drop];omega
 refine ⟨by omega,λe he=>t e (List.mem_of_mem_drop (List.mem_of_mem_take he)),f,m,by rw [d],λi hi=>?_⟩;obtain ⟨b,s,e,q⟩:=r p (by omega);simp only [Option.some.injEq,Addr.mk.injEq,and_true] at e;obtain ⟨rfl,rfl⟩:=e;refine ⟨g,p*7,o (by omega),λj h=>?_⟩;have:=q (p+j) (by omega);rw [List.getElem_take,List.getElem_drop];rw [show p*7+j*7=0+(p+j)*7 by omega];exact this
theorem Z7v (u:Ag)(f:Option Addr)(LN d P K:Nat)(hi:Int)(e:hi=(P:Int)+(K:Int))(h:P+K<=d) :
  (Instr.slice 34 (I f LN d) (Ac (Aa O (P:Int))) (Ac (Aa O hi)) Ab).run Ad u=.ok (I (if d=P then f else f.map (·.add (P*7))) K (d-P)) u:=by
 have g:(sizeOf 118).run Ad u=.ok 7 u:=by kernel_rfl
 have b:Tryz.prog.elem 34=118:=by kernel_rfl
 rw [run_slice_lh u 34 f LN d (b▸underlying34) O O (P:Int) hi (by omega) (by omega) (by omega)];rw [b,g];simp only [Result.andThen,sliced];rw [show hi.toNat=P+K by omega,show ((P:Int)).toNat=P by omega,show P+K-P=K by omega]
theorem Z0p (b:Nat)(r:Rn)(x:CV)(y:Int)(P:Nat)(w:Ag)(B:Nat)(h:Z9 w B b r x)(bb:r.n.ro=3)(ba:1<=y)(bj:y<=r.n.sz)(be:y≠r.n.id)(hP:r.n.nx.getD (y-1).toNat 0=(P:Int)+1)(az:P<=r.n.log.length)(bq:r.n.log.length<=4096)(hl:x.L.length<=90000:=by omega) :
  Ar Ad 157 #[Ae (Ac ⟨b,0,Ab⟩),Aa O y] w λe w'=>e=Aj (.tuple #[])/\∃ v m',Z9 w' B b (r.sendE (y-1).toNat) (x.sent v m')/\Tch b w x w' (x.sent v m'):=by
 have HR:=Z0 h;have z1:=h.ci.sz1;obtain ⟨q,hq⟩:=Option.isSome_iff_exists.1 ((h.pk y).2 ⟨bb,ba,bj,be⟩);have HQ:=Z0 hq;have a6:=Z0 h.pm;have ar:=(h.pf y q hq).1;obtain ⟨t,m,o⟩:=h.log.shape;have bv:r.n.log.length<=m:=by have h9:=h.log;rw [o] at h9;exact h9.capI
 have bd:m<=9223372036854775807:=by
  have h9:=h.log;rw [o] at h9;rcases h9.2.2 with ⟨e,h0⟩ | ⟨g,cap,cur,e,_,_,h1,h2,_⟩
  ·injection e with _ e2 e3;omega
  ·injection e with _ e2 e3;unfold maxLen at h2;omega
 have ay:Ah (∀ z,Ai w.heap.size w z->Es z (I t r.n.log.length m) r.n.log):=λz hz=>o▸(h.below hz).es bq
 have HC:Ah (∀ z,Ai w.heap.size w z->z.cell? ⟨b,12,Ab⟩=Ac (I t r.n.log.length m)/\z.cell? ⟨b,4,Ab⟩=Ac (Aa O r.n.tm)/\z.cell? ⟨b,8,Ab⟩=Ac (Aa O r.n.cm)):=λz hz=>⟨o▸(h.below hz).blk.cell 12,(h.below hz).blk.cell 4,(h.below hz).blk.cell 8⟩
 have b7:=h.lt
 have a3:P<r.n.log.length->∃ g,t=Ac ⟨g,0,Ab⟩:=λhp=>by
  obtain ⟨g,cap,e⟩:=h.log.shape';rw [o] at e;injection e with e1;exact ⟨g,e1⟩
 have bm:=Z0 a3;have a7:=h.c19;have dq:w.cell? ⟨q,0,Ab⟩=Ac (Aa O ((P:Int)+1)):=hP▸ar.cell 0
 have hv:(x.f y).elim (Value.pointer Ab) ptV=Ae (Ac ⟨q,0,Ab⟩):=by rw [hq];rfl
 have bi:=wf3 (x:=y) (by omega) (by omega);obtain ⟨c12,c4,c8⟩:=HC.out w (An _ _)
 have HT:Ah (∀ z,Ai w.heap.size w z->Ar Ad 180 #[I t P m] z λe w'=>e=Aj (Aa O (Zy r.n.log P))/\w'=z):=λz hz=>by
  rw [<-Z7b _ _ az];exact Z1r _ _ _ ((ay z hz).takeI P az)
 have aw:Z0k r.n (y-1).toNat=⟨5,0,y,r.n.tm,(P:Int),Zy r.n.log P,r.n.cm,0,0,(r.n.log.drop P).take 32⟩:=by
  unfold Z0k;rw [hP];simp only [Mg.mk.injEq,true_and,and_true];refine ⟨by omega,by omega,?_,?_⟩
  ·rw [show ((P:Int)+1-1).toNat=P by omega]
  ·rw [show ((P:Int)+1-1).toNat=P by omega]
 have a9:Ah _:=aw;obtain ⟨K,hK⟩:=exq (min 32 (r.n.log.length-P));have HK:=Z0 hK;have bw:min ((P:Int)+32) (r.n.log.length:Int)=(P:Int)+(K:Int):=by omega
 have cc:P+K<=r.n.log.length:=by omega
 have br:Ah ((r.n.log.drop P).take 32=(r.n.log.drop P).take K):=by
  unfold Ah;by_cases h9:K=32
  ·rw [h9]
  ·rw [List.take_of_length_le (by rw [List.length_drop];omega),List.take_of_length_le (by rw [List.length_drop];omega)]
 clear h o ar hP aw hK hq a3;generalize hLT:Zy r.n.log P=LT at *;generalize hLL:r.n.log.length=LN at *;go_enter func157,ntmps157
 go_upto_region 2 with (at_lookup;refine wpl_imlook _ rfl _ _ 78 rfl 126 underlying78 (zeroPt _) _ rfl a6 y bi rfl _ hv ?_)
 have b8:(P:Int)<=(m:Int):=by omega
 have b0:(0:Int)<=(P:Int):=by omega
 have b3:((P:Int)).toNat=P:=by omega
 go_cut [6] (λs6 W=>s6=Ae (Ac ⟨w.heap.size,0,Ab⟩)/\Blk W w.heap.size (mqN 5 0 0 r.n.tm (P:Int) LT r.n.cm 0 0 (I Ab 0 0)) 43/\Ai w.heap.size w W)
 case first=>
  go_region_held3 (λw'=>w'.cell? ⟨b,12,Ab⟩=Ac (I t LN m)/\w'.cell? ⟨b,4,Ab⟩=Ac (Aa O r.n.tm)/\w'.cell? ⟨b,8,Ab⟩=Ac (Aa O r.n.cm)) (simp [*,go_sem])
   (first
    |(go_at_call 180;refine Am (HT _ (by first | exact An _ _ | exact (An _ _).drew | exact (Below.alloc0 _).drew | exact Below.alloc0 _ | exact ((An _ _).drew).alloc (Ao _) _)) ?_;rintro e w1 ⟨rfl,hw⟩;have bc:=hw.symm;subst bc))
  all_goals (
   go_wp2_with fail
   go_meet
   first
    | exact ⟨rfl,(Blk.new _ _ _).drew,(Below.alloc0 _).drew⟩
    | exact ⟨rfl,Blk.new _ _ _,((An _ _).drew).alloc (Ao _) _⟩)
 case rest=>
  obtain ⟨rfl,hM,ag⟩:=hcut;obtain ⟨W,hW⟩:=exq (wc);rw [<-hW] at hM ag;subst hW;have HM:=Z0 hM;have ab:=Z0 ag;have a1:=hM.lt;obtain ⟨bp,p4,p8⟩:=HC.out W ag;clear hM ag c12 c4 c8 dq a7;have ca:(P:Int)<=(P:Int)+(K:Int):=by omega
  have b2:(P:Int)+(K:Int)<=(m:Int):=by omega
  go_upto_region 3 with fail
  go_cut [] (λU=>∃ ea ec,Blk U w.heap.size (mqN 5 0 0 r.n.tm (P:Int) LT r.n.cm 0 0 (I ea K ec)) 43/\Zh U W.heap.size (I ea K ec) ((r.n.log.drop P).take K)/\Ai w.heap.size w U)
  case first=>
   obtain ⟨SA,ah⟩:=exq ((if m=P then t else t.map (·.add (P*7))))
   have a5:Ah (0<K->∃ g,t=Ac ⟨g,0,Ab⟩/\SA=Ac ⟨g,P*7,Ab⟩):=λhk=>by
    obtain ⟨g,hg⟩:=bm.out (by omega);refine ⟨g,hg,?_⟩;rw [ah,ifo,hg];simp [Z2g]
   have ao:Ah (∀ z,Ai w.heap.size w z->Ar Ad 80 #[I SA K (m-P)] z λe w'=>∃ v',e=.returned v'/\Zh w' z.heap.size v' ((r.n.log.drop P).take K)/\Ai z.heap.size z w'):=λz hz=>by
    have av:=ay.out z hz;refine Z7y _ _ z ?_ (by rw [List.length_take];omega);rcases Nat.eq_zero_or_pos K with h0 | h0
    ·subst h0
     refine ⟨by simp,by simp,SA,m-P,by simp,λi hi=>by simp at hi⟩
    ·obtain ⟨g,h1,h2⟩:=a5.out h0
     rw [h1] at av;exact av.part P K (by omega) _ _ (λ_=>h2)
   have ad:LN=P+K->∀ u,(Instr.slice 34 (I t LN m) (Ac (Aa O (P:Int))) (Ac (Aa O (LN:Int))) Ab).run Ad u=.ok (I SA K (m-P)) u:=λe u=>ah▸Z7v u t LN m P K _ (by omega) (by omega)
   have ac:K=32->∀ u,(Instr.slice 34 (I t LN m) (Ac (Aa O (P:Int))) (Ac (Aa O ((P:Int)+32))) Ab).run Ad u=.ok (I SA K (m-P)) u:=λe u=>ah▸Z7v u t LN m P K _ (by omega) (by omega)
   have bu:Ah ((LN:Int)<(P:Int)+32->LN=P+K):=λh=>by have:=HK.out;omega
   have bn:Ah (¬(LN:Int)<(P:Int)+32->K=32):=λh=>by have:=HK.out;omega
   clear ah a5;have b6:IntKind.i64.wrap ((P:Int)+32)=(P:Int)+32:=wry
   have ax:Ah (((r.n.log.drop P).take K).length=K):=by unfold Ah;rw [List.length_take,List.length_drop];omega
   by_cases hA:(LN:Int)<(P:Int)+32
   ·have bg:=ad (bu hA)
    clear ad ac
    go_region_held3 (λw'=>w'.cell? ⟨b,12,Ab⟩=Ac (I t LN m)) (simp [*,go_sem])
     (first
      |(go_at_call 80;refine Am (ao _ ab.drew) ?_;rintro e w1 ⟨v1,rfl,s,af⟩;obtain ⟨ea,ec,e1⟩:=s.shape;rw [ax.out] at e1;subst e1;have aa:Ah (Zh w1 W.heap.size (I ea K ec) ((r.n.log.drop P).take K)):=s;have d:Ah (Ai W.heap.size W w1):=(An _ _).drew.trans af;have j:=Z0 (HM.below d a1);have a0:=(HC w1 (ab.trans (d.mono (by omega)))).1;have bk:w1.cell? ⟨w.heap.size,9,Ab⟩=Ac (I Ab 0 0):=j.cell 9;have a8:=j.free 9;clear s af))
    all_goals (
     go_wp2_with fail
     go_meet;exact ⟨ea,ec,j.set 9 _,aa.block λk e=>Below.heap_setCell _ _ _ _ (by have h9:=(Aq aa.2 k e).1;simp only;omega),(ab.trans (d.mono (by omega))).setCell (p:=⟨w.heap.size,9,Ab⟩) (Ao _) _⟩)
   ·have bg:=ac (bn hA)
    clear ad ac
    go_region_held3 (λw'=>w'.cell? ⟨b,12,Ab⟩=Ac (I t LN m)) (simp [*,go_sem])
     (first
      |(go_at_call 80;refine Am (ao _ ab.drew) ?_;rintro e w1 ⟨v1,rfl,s,af⟩;obtain ⟨ea,ec,e1⟩:=s.shape;rw [ax.out] at e1;subst e1;have aa:Ah (Zh w1 W.heap.size (I ea K ec) ((r.n.log.drop P).take K)):=s;have d:Ah (Ai W.heap.size W w1):=(An _ _).drew.trans af;have j:=Z0 (HM.below d a1);have a0:=(HC w1 (ab.trans (d.mono (by omega)))).1;have bk:w1.cell? ⟨w.heap.size,9,Ab⟩=Ac (I Ab 0 0):=j.cell 9;have a8:=j.free 9;clear s af))
    all_goals (
     go_wp2_with fail
     go_meet;exact ⟨ea,ec,j.set 9 _,aa.block λk e=>Below.heap_setCell _ _ _ _ (by have h9:=(Aq aa.2 k e).1;simp only;omega),(ab.trans (d.mono (by omega))).setCell (p:=⟨w.heap.size,9,Ab⟩) (Ao _) _⟩)
  case rest=>
   obtain ⟨ea,ec,al,ae,aj⟩:=hcut;obtain ⟨U,hU⟩:=exq (wc);rw [<-hU] at al ae aj;subst hU;have j:=Z0 al;have aa:=Z0 ae;have d:=Z0 aj;have a4:=HR.below aj;have ai:((r.n.log.drop P).take K).length=K:=by rw [List.length_take,List.length_drop];omega
   have HS:=Z2x b r x ⟨5,0,0,r.n.tm,(P:Int),LT,r.n.cm,0,0,(r.n.log.drop P).take K⟩ y ea ec U B a4 (by show Zh U B (I ea ((r.n.log.drop P).take K).length ec) _;rw [ai];exact ae.le (by have:=HR.lo;omega)) (by
    show ∀ k,(Value.slice ea ((r.n.log.drop P).take K).length ec).ownBlock=Ac k->_;rw [ai];intro k e;have h9:=(Aq ae.2 k e).1;refine ⟨λe2=>?_,λp hp e2=>?_⟩
    ·have:=(Aq HR.log.2 k e2).2;omega
    ·have:=(Aq (HR.ents p hp).2 k e2).2;omega)
   rw [show ((⟨5,0,0,r.n.tm,(P:Int),LT,r.n.cm,0,0,(r.n.log.drop P).take K⟩:Mg).es.length)=K from ai] at HS
   have bo:Ah (Ar Ad 165 #[Ae (Ac ⟨b,0,Ab⟩),Aa O y,.agg (mqN 5 0 0 r.n.tm (P:Int) LT r.n.cm 0 0 (I ea K ec))] U λe w'=>e=Aj (.tuple #[])/\∃ v y1,Z9 w' B b (r.send (Z0k r.n (y-1).toNat)) (x.sent v y1)/\Tch b U x w' (x.sent v y1)):=by
    unfold Ah;rw [a9.out,br.out];exact HS
   have an:Ah (∀ z v y1,Z9 z B b (r.send (Z0k r.n (y-1).toNat)) (x.sent v y1)->z.cell? ⟨b,9,Ab⟩=Ac (Aa O r.n.nw)/\(∃ u,z.cell? ⟨q,3,Ab⟩=Ac u)/\z.frozen? ⟨q,3,Ab⟩=false/\Z9 (z.setCell ⟨q,3,Ab⟩ (Aa O r.n.nw)) B b (r.sendE (y-1).toNat) (x.sent v y1)/\Tch b z (x.sent v y1) (z.setCell ⟨q,3,Ab⟩ (Aa O r.n.nw)) (x.sent v y1)):=λz v y1 hz=>by
    have ak:(x.sent v y1).f y=Ac q:=HQ.out;have h9:=hz.stP ak r.n.nw;exact ⟨hz.blk.cell 9,⟨_,(hz.pf y q ak).1.cell 3⟩,(hz.pf y q ak).1.free 3,h9.1,h9.2⟩
   clear HS al ae a4 ai bp p4 p8;have G1:=Z0 trivial
   go_wp2_with (first
    |(have bh:=G1;refine Zd 43 _ rfl ?_;clear bh;refine Z7 rfl 43 _ rfl _ rfl j underlying43 rfl Yc rfl ?_;clear G1)
    |(go_at_call 165;refine Am bo ?_;rintro e w5 ⟨rfl,v5,y5,au,a2⟩;obtain ⟨d9,⟨du,dJ⟩,fJ,am,aq⟩:=an.out w5 v5 y5 au;have HF:Ah (Z9 (w5.setCell ⟨q,3,Ab⟩ (Aa O r.n.nw)) B b (r.sendE (y-1).toNat) (x.sent v5 y5)/\Tch b w x (w5.setCell ⟨q,3,Ab⟩ (Aa O r.n.nw)) (x.sent v5 y5)):=⟨am,(Tch.head d a2).trans aq⟩;clear au a2 am aq))
   (try simp only [Av,Exit.then])
   exact bodyPost_end (Au rfl _ _ _) rfl ⟨rfl,_,_,HF.out⟩
end
section
variable {w:Ag}{B b:Nat}{r:Rn}{x:CV}
theorem Z9.hasntC (h:Z9 w B b r x){q:Nat}{C:Array Value}{t:TypeId}{s:Nat×Nat}(a:w.heap[q]? = Ac (.cells C t s))(j:t≠80)(g:t≠124)(k:t≠118)(i:t≠43):¬ x.has b q:=by
 obtain ⟨ge,m,d⟩:=h.gm.obj;obtain ⟨n,l,f⟩:=h.pm.obj;rintro (rfl | rfl | rfl | ⟨y,e⟩ | e | e)
 ·exact j (Xc a h.blk)
 ·exact hmap a d
 ·exact hmap a f
 ·exact g (Xc a (h.pf y _ e).1)
 ·obtain ⟨c,s,e2⟩:=Z0o h.log e
  exact k (Xc a e2)
 ·obtain ⟨c,s,e2⟩:=Z3g h.out e
  exact i (Xc a e2)
theorem Zc.tch {α:Type}{cs:α->List Value}{m:Nat}{T:TypeId}{w':Ag}{c:Nat}{o:CV}{v:Value}{l:List α}(a:Zc cs m T w c v l)(h:Z9 w B b r x)(d:Tch b w x w' o)(j:T≠80:=by decide)(g:T≠124:=by decide)(n:T≠118:=by decide)(f:T≠43:=by decide):Zc cs m T w' c v l:=
 a.block λk e=>by
  obtain ⟨p,s,i⟩:=Z3g a e;exact d.block k (a.lts k e).2 (h.hasntC i j g n f)
theorem kI_full (id sz:Int)(h:1<=id)(a:id<=sz):kI id (sz.toNat-1)=sz.toNat:=by
 unfold kI;rw [ifo];omega
theorem in_at {a:Option Addr}{n c:Nat}{l:List Int}(h:Zc inC 1 3 w B (I a n c) l)(m:l.length<=1000000)(i:Nat)(hi:i<l.length):∃ g d,a=Ac ⟨g,d,Ab⟩/\w.cell? ⟨g,d+i,Ab⟩=Ac (Aa O l[i]):=by
 obtain ⟨-,k,o,e,f⟩:=ix_sl (Zc.sl Z16 h (by unfold maxLen;omega));simp only [Value.slice.injEq] at e;obtain ⟨rfl,-,rfl⟩:=e;obtain ⟨b,d,rfl,j⟩:=f i hi;exact ⟨b,d,rfl,j i hi⟩
theorem Z77 (b:Nat)(r:Rn)(x:CV)(w:Ag)(B:Nat)(h:Z9 w B b r x)(aj:r.n.ro=3)(p:LdB r.n r.n.sz.toNat)(ag:r.n.log.length<=4096)(hl:x.L.length<=900) :
  Ar Ad 137 #[Ae (Ac ⟨b,0,Ab⟩)] w λe w'=>e=Aj (.tuple #[])/\∃ x',Z9 w' B b r.sendAll x'/\Tch b w x w' x':=by
 have t:=Z56 b r x w B h;have q:=h.ci.id0;have i1:=h.ci.id1;have z0:=h.ci.sz0;have z1:=h.ci.sz1;obtain ⟨N,hN⟩:∃ N:Nat,r.n.sz=(N:Int):=⟨r.n.sz.toNat,by omega⟩;have j:r.n.sz.toNat=N:=by omega
 have c:=Z2y r.n.id r.n.sz q i1;have m:=kI_full r.n.id r.n.sz q i1;have l:=λi=>kI_lt r.n.id r.n.sz i q i1
 have u:Ah (r.sendAll=r.sendK N):=by unfold Ah Rn.sendAll;rw [j]
 rw [j] at t c p m l;have HG:=Z0 (Z3c r.n.id q N);have HF:=Z0 (oth_fold r.n.id (λk=>Rn.sendK k r) (λk a=>a.sendE k) (λk=>rfl));have HZ:=Z0 (oth_zero r.n.id q (λk=>Rn.sendK k r) (λk a=>a.sendE k) (λk=>rfl));have al:=Z0 (sendK_n r);have o:=Z0 p;have aq:=Z0 l;have af:=Z0 m;have z:=Z0 c;have ar:Ah _:=t;have HR:=Z0 h;have HN:=Z0 hN;have aw:3<=N:=by omega
 have ay:N<=7:=by omega
 clear t p l m c h hN j q i1 z0 z1;rw [u.out];go_enter func137,ntmps137
 go_wp2_with (first
  |(go_at_call 81;refine Am ar ?_;rintro e w1 ⟨oa,oc,rfl,ae,aa⟩;have av:=Z0 ae;have ab:=Z0 aa;clear ae aa))
 go_loopw [3,7] (λsj iv wr=>∃(i:Nat) (f:CV),i<=N-1/\iv=Aa O (i:Int)/\f.L.length<=x.L.length+i/\Z9 wr B b (r.sendK (kI r.n.id i)) f/\Tch b w x wr f/\Zc inC 1 3 wr w.heap.size (I oa (N-1) oc) (oth r.n.id N)) (λ_ iv _=>N-(RowKit.intOf iv).toNat)
 case atStart=>exact ⟨0,x,by omega,rfl,by omega,HZ.out▸HR.below ab,Tch.below0 _ _ ab,av.out⟩
 case round=>
  obtain ⟨i,f,hi,rfl,ax,hC,hT,hO⟩:=hrel;have HC:=Z0 hC;have HT:=Z0 hT;have t:=Z0 hO;clear hC hT hO;by_cases am:i<N-1
  ·obtain ⟨g,az,rfl,hc⟩:=in_at t.out (by rw [z.out];omega) i (by rw [z.out];omega)
   rw [HG.out] at hc;obtain ⟨an,v⟩:=aq.out i am;obtain ⟨s,d,ao⟩:=al.out (kI r.n.id i);have hP:=o.nx (kI r.n.id i) (by rw [o.out.nxl];have:=HN.out;omega) v;obtain ⟨P,ac,ad⟩:=hP
   have HS:=Z0p b (r.sendK (kI r.n.id i)) f ((kI r.n.id i:Int)+1) P wr B HC (d▸aj) (by omega) (d▸an) (d▸v) (by
    rw [d];show r.n.nx.getD ((kI r.n.id i:Int)+1-1).toNat 0=_;rw [show ((kI r.n.id i:Int)+1-1).toNat=kI r.n.id i by omega,Ba,As (by rw [o.out.nxl];have:=HN.out;omega),ad];rfl) (d▸ac) (d▸ag)
   rw [show ((kI r.n.id i:Int)+1-1).toNat=kI r.n.id i by omega,<-HF.out i] at HS;have ak:=Z0 HS;have au:decide ((i:Int)<((N-1:Nat):Int))=true:=decide_eq_true (by omega);have h1:(i:Int)<((N-1:Nat):Int):=by omega
   clear HS d ao ad ac;generalize (kI r.n.id i:Int)+1=y at *
   go_wp2_with (first
    |(go_at_call 157;refine Am ak ?_;rintro e w2 ⟨rfl,v2,m2,h2,t2⟩;have H2:Ah _:=h2;have ah:=Z0 (t.tch HC t2);have T2:Ah _:=HT.trans t2;clear h2 t2))
   go_roundw
   case rel=>exact ⟨i+1,f.sent v2 m2,by omega,by go_num,by show (f.L ++ [m2]).length<=_;rw [Bc,List.length_singleton];omega,H2.out,T2.out,ah.out⟩
   case measure=>simp [RowKit.intOf];omega
  ·obtain rfl:i=N-1:=by omega
   have au:decide (((N-1:Nat):Int)<((N-1:Nat):Int))=false:=decide_eq_false (by omega);have ai:Ah (Z9 wr B b (r.sendK N) f):=by have h9:=HC.out;rw [af.out] at h9;exact h9
   go_wp2
   (try simp only [Av,Exit.then])
   exact bodyPost_end (Au rfl _ _ _) rfl ⟨rfl,_,ai.out,HT.out⟩
end
end Go.Proofs.YtmmpoppgabadmaaGreat
namespace Go.Proofs.YtmmpoppgabadmaaGreat
open Go.Proofs.Tryz
open Go.RowKit Go.Maps
theorem allK_nC (m:Mg)(r:Rn):∀ k,(Rn.allK m k r).n=r.n
 | 0=>rfl
 | k+1=>by
  rw [Rn.allK];split
  ·exact allK_nC m r k
  ·exact allK_nC m r k
variable {b:Nat}{w:Ag}{x:CV}
theorem Tch.kept {w':Ag}{a:CV}(h:Tch b w x w' a)(c:∀ k,a.has b k->x.has b k):True:=trivial
theorem Z9.gm_len {B:Nat}{r:Rn}(h:Z9 w B b r x):r.n.gr.length<1000000:=by
 have j:=h.ci.gr2;have f:=h.ci.gr1
 have i:∀(l:List Int) (lo:Int),l.Pairwise (· < ·)->(∀ y∈l,lo<y/\y<=7)->lo<=7->(l.length:Int)<=7-lo:=by
  intro l
  induction l with
  | nil=>intro lo _ _ h;simp;omega
  | cons a l ih=>
   intro lo d c e;have g:=c a (by simp);have:=ih a (List.Pairwise.of_cons d) (λy hy'=>⟨List.rel_of_pairwise_cons d hy',(c y (by simp [hy'])).2⟩) g.2;rw [List.length_cons]
   push_cast
   omega
 have:=i r.n.gr 0 f (λy c=>by have:=j y c;have:=h.ci.sz1;omega) (by omega);omega
theorem Z7w (b:Nat)(r:Rn)(x:CV)(ro s tm:Int)(w:Ag)(B:Nat)(h:Z9 w B b r x)(au:r.n.ro≠3)(ad:ro≠3)(bc:r.n.log.length<=4096)(hl:x.L.length<=900) :
  Ar Ad 158 #[Ae (Ac ⟨b,0,Ab⟩),Aa O ro,Aa O s,Aa O tm] w λe w'=>e=Aj (.tuple #[])/\∃ x',Z9 w' B b (Rn.allK ⟨s,0,0,tm,r.n.log.length,Y9 r.n.log,0,0,0,[]⟩ r.n.sz.toNat { r with n:={ r.n with ro:=ro,gr:=[r.n.id] } }) x'/\Tch b w x w' x':=by
 have i0:=h.ci.id0;have i1:=h.ci.id1;have z0:=h.ci.sz0;have z1:=h.ci.sz1;obtain ⟨N,hN⟩:∃ N:Nat,r.n.sz=(N:Int):=⟨r.n.sz.toNat,by omega⟩;have ax:r.n.sz.toNat=N:=by omega
 have m:=Z2y r.n.id r.n.sz i0 i1;have ai:=kI_full r.n.id r.n.sz i0 i1;have a1:=λi=>kI_lt r.n.id r.n.sz i i0 i1
 rw [ax] at m ai a1 ⊢;have HG:=Z0 (Z3c r.n.id i0 N);have bn:=Z0 ai;have am:=Z0 m;have c6:=h.c6;have f6:=h.blk.free 6;have ah:Ah (Z9 (w.setCell ⟨b,6,Ab⟩ (Aa O ro)) B b { r with n:={ r.n with ro:=ro } } x):=h.set 6 _ rfl rfl rfl rfl rfl rfl rfl rfl rfl rfl ⟨λe=>absurd e ad,λe=>absurd e au⟩;have bd:Ah (Tch b w x (w.setCell ⟨b,6,Ab⟩ (Aa O ro)) x):=Tch.set _ _ _ _ _;have HF:=Z0 (oth_fold r.n.id (λk=>Rn.allK ⟨s,0,0,tm,r.n.log.length,Y9 r.n.log,0,0,0,[]⟩ k { r with n:={ r.n with ro:=ro,gr:=[r.n.id] } }) (λk a=>a.send { (⟨s,0,0,tm,r.n.log.length,Y9 r.n.log,0,0,0,[]⟩:Mg) with td:=(k:Int)+1 }) (λk=>rfl));have HZ:Ah (Rn.allK ⟨s,0,0,tm,r.n.log.length,Y9 r.n.log,0,0,0,[]⟩ (kI r.n.id 0) { r with n:={ r.n with ro:=ro,gr:=[r.n.id] } }={ r with n:={ r.n with ro:=ro,gr:=[r.n.id] } }):=oth_zero r.n.id i0 (λk=>Rn.allK ⟨s,0,0,tm,r.n.log.length,Y9 r.n.log,0,0,0,[]⟩ k { r with n:={ r.n with ro:=ro,gr:=[r.n.id] } }) (λk a=>a.send { (⟨s,0,0,tm,r.n.log.length,Y9 r.n.log,0,0,0,[]⟩:Mg) with td:=(k:Int)+1 }) (λk=>rfl);have ay:Ah (∀ k,(Rn.allK ⟨s,0,0,tm,r.n.log.length,Y9 r.n.log,0,0,0,[]⟩ k { r with n:={ r.n with ro:=ro,gr:=[r.n.id] } }).n={ r.n with ro:=ro,gr:=[r.n.id] }):=λk=>allK_nC _ _ k
 obtain ⟨q,ae⟩:∃ q:Rn,q={ r with n:={ r.n with ro:=ro,gr:=[r.n.id] } }:=⟨_,rfl⟩;obtain ⟨MM,ak⟩:∃ MM:Mg,MM=⟨s,0,0,tm,r.n.log.length,Y9 r.n.log,0,0,0,[]⟩:=⟨_,rfl⟩;rw [<-ae,<-ak] at HF HZ ay ⊢;have al:=Z0 ae;have a0:=Z0 ak;have HI:Ah (1<=r.n.id/\r.n.id<=r.n.sz):=⟨i0,i1⟩;have bx:3<=N:=by omega
 have bu:N<=7:=by omega
 have be:=wf3 (x:=r.n.id) (by omega) (by omega);have HN:=Z0 hN;clear h ae ak m ai a1 hN ax i0 i1 z0 z1 au ad;go_enter func158,ntmps158
 go_upto_region 1 with fail
 generalize w.setCell ⟨b,6,Ab⟩ (Aa O ro)=w1 at *;have a4:=ah.c18;clear c6 f6
 go_upto_region 2 with (refine Z5l _ _ rfl ?_;refine Z4m _ rfl _ 77 rfl 121 underlying77 x.gm rfl ah.gm ?_;intro w2 an t bo;have o:=Z0 (ah.gmAt (gr':=[]) (by have e9:grF []=λ_=>(Ab:Option Unit):=rfl;rw [e9];exact an) (λk hk hl=>t.block k hl (λe=>hk (by injection e with e))) .nil (λy hy=>by cases hy));have bm:=Z0 (bd.trans (Tch.of x t (.inr (.inl rfl))));clear an t bo)
 have bb:=λu:BW w2=>(o.below u.h).c18
 have q0:=λu:BW w2=>(o.below u.h).c0
 have a7:Nonempty (BW w2):=⟨⟨w2,An _ _⟩⟩;clear a4;go_frame
 go_cut [] (λW=>Z9 W B b q x/\Tch b w x W x)
 case first=>
  refine rlx ?_;simp only [List.dropLast_cons_cons,List.dropLast_singleton]
  repeat go_big_quiet_step (fail)
  refine wpQuiet_nil ?_;intro w3 l;refine wp_imput (γ:=Unit) (vl:=unV) (f:=grF []) w3 (.tmp 22) (.tmp 27) (.tmp 28) 77 rfl 121 underlying77 x.gm rfl (o.below l).gm [] .nil (Z30 _) (by simp) r.n.id be () rfl rfl ?_;intro w4 az aj
  have a8:Ah (Z9 w4 B b q x):=by
   have p:=(o.below l).gmAt (w':=w4) (gr':=[r.n.id]) (by
    have e9:grF [r.n.id]=λd=>if d=r.n.id then Ac () else grF [] d:=by
     funext d
     unfold grF;by_cases hd:d=r.n.id <;> simp [hd]
    rw [e9];exact az) (λk hk hl=>aj.block k hl (λe=>hk (by injection e with e))) (List.pairwise_singleton _ _) (λy hy=>by rw [Bd] at hy;rw [hy];exact HI)
   unfold Ah;rw [al.out];exact p
  have bg:=Z0 ((bm.tail l).trans (Tch.of x aj (.inr (.inl rfl))));clear az aj
  go_wp2_with fail
  go_meet;exact ⟨a8,bg.out⟩
 case rest=>
  obtain ⟨hC,hT⟩:=hcut;obtain ⟨w5,av⟩:=exq (wc);rw [<-av] at hC hT;subst av;have a6:=Z0 hC;have bk:=Z0 hT
  have a3:Ah (Ar Ad 81 #[Ae (Ac ⟨b,0,Ab⟩)] w5 λe w'=>∃ a c,e=Aj (I a (N-1) c)/\Zc inC 1 3 w' w5.heap.size (I a (N-1) c) (oth r.n.id N)/\Ai w5.heap.size w5 w'):=by
   have p:=Z56 b q x w5 B hC;have e1:q.n.sz.toNat=N:=by rw [al.out];show r.n.sz.toNat=N;have:=HN.out;omega
   have e2:q.n.id=r.n.id:=by rw [al.out]
   rw [e1,e2] at p;exact p
  clear hC hT bb q0 a7
  go_wp2_with (first
   |(go_at_call 81;refine Am a3 ?_;rintro e w6 ⟨oa,oc,rfl,a2,aq⟩;have bh:=Z0 a2;have aw:=Z0 aq;clear a2 aq))
  go_loopw [9,32] (λsj iv wr=>∃(i:Nat) (xi:CV),i<=N-1/\iv=Aa O (i:Int)/\xi.L.length<=x.L.length+i/\Z9 wr B b (Rn.allK MM (kI r.n.id i) q) xi/\Tch b w x wr xi/\Zc inC 1 3 wr w5.heap.size (I oa (N-1) oc) (oth r.n.id N)) (λ_ iv _=>N-(RowKit.intOf iv).toNat)
  case atStart=>exact ⟨0,x,by omega,rfl,by omega,by rw [HZ.out];exact a6.below aw,bk.tail aw,bh.out⟩
  case round=>
   obtain ⟨i,xi,hi,rfl,bq,hC,hT,hO⟩:=hrel;obtain ⟨wq,ao⟩:=exq (wr);rw [<-ao] at hC hT hO;subst ao;have HC:=Z0 hC;have HT:=Z0 hT;have HO:=Z0 hO;have af:Ah ((Rn.allK MM (kI r.n.id i) q).n.log=r.n.log):=by unfold Ah;rw [ay.out]
   have ag:=af.out;clear hT hO;by_cases bv:i<N-1
   ·obtain ⟨g,bw,rfl,hc⟩:=in_at HO.out (by rw [am.out];omega) i (by rw [am.out];omega)
    rw [HG.out] at hc;have a9:decide ((i:Int)<((N-1:Nat):Int))=true:=decide_eq_true (by omega);have h1:(i:Int)<((N-1:Nat):Int):=by omega
    obtain ⟨la,lc,aa⟩:=hC.log.shape;rw [ag] at aa;have bp:∀ u:BW wq,u.w.cell? ⟨b,12,Ab⟩=Ac (I la r.n.log.length lc):=λu=>by rw [<-aa];exact (hC.below u.h).blk.cell 12
    have a5:Ah (∀ z,Ai wq.heap.size wq z->Ar Ad 180 #[I la r.n.log.length lc] z λe w'=>e=Aj (Aa O (Y9 r.n.log))/\w'=z):=λz hz=>Z1r _ _ _ (by rw [<-aa];have p:=(HC.below hz).es (by rw [af.out];exact bc);rw [af.out] at p;exact p)
    have br:Nonempty (BW wq):=⟨⟨wq,An _ _⟩⟩
    have bi:Ah (∀ z,Ai wq.heap.size wq z->Ar Ad 165 #[Ae (Ac ⟨b,0,Ab⟩),Aa O ((kI r.n.id i:Int)+1),.agg (mqN s 0 0 tm (r.n.log.length:Int) (Y9 r.n.log) 0 0 0 (I Ab 0 0))] z λe w'=>e=Aj (.tuple #[])/\∃ v m',Z9 w' B b (Rn.allK MM (kI r.n.id (i+1)) q) (xi.sent v m')/\Tch b z xi w' (xi.sent v m')):=λz hz=>by
     have p:=Z2x b (Rn.allK MM (kI r.n.id i) q) xi ⟨s,0,0,tm,r.n.log.length,Y9 r.n.log,0,0,0,[]⟩ ((kI r.n.id i:Int)+1) Ab 0 z B (HC.below hz) (Zh.nil _ _) (λk e=>by cases e);rw [HF.out i,a0.out];rw [a0.out] at p;exact p
    clear hC aa ag;generalize (kI r.n.id i:Int)+1=y at *;generalize Y9 r.n.log=LT at *;generalize r.n.log.length=LN at *
    go_upto_region 6 with fail
    clear hc;refine rlx ?_;simp only [List.dropLast_cons_cons,List.dropLast_singleton]
    repeat go_big_quiet_step ((go_at_call 180;refine Am (a5 _ (BW.h _)) ?_;rintro e w9 ⟨rfl,bj⟩;have ar:=bj.symm;subst ar;exact ⟨rfl,⟨_,rfl⟩⟩))
    refine wpQuiet_nil ?_;intro w7 j;refine Yg (N:=165) rfl (λ_ _=>by go_simp) #[Ae (Ac ⟨b,0,Ab⟩),Aa O y,.agg (mqN s 0 0 tm (LN:Int) LT 0 0 0 (I Ab 0 0))] (by simp only [List.map_toArray,List.map_cons,List.map_nil];rfl) ?_;refine Am (bi w7 j) ?_;rintro e w8 ⟨rfl,v8,m8,h8,t8⟩;refine ⟨_,rfl,?_⟩;have H8:Ah _:=h8;have ba:=Z0 ((HO.below j).tch (HC.below j) t8);have T8:Ah _:=(HT.tail j).trans t8;clear h8 t8
    go_wp2_with fail
    go_roundw
    case rel=>exact ⟨i+1,xi.sent v8 m8,by omega,by go_num,by show (xi.L ++ [m8]).length<=_;rw [Bc,List.length_singleton];omega,H8.out,T8.out,ba.out⟩
    case measure=>simp [RowKit.intOf];omega
   ·obtain rfl:i=N-1:=by omega
    have a9:decide (((N-1:Nat):Int)<((N-1:Nat):Int))=false:=decide_eq_false (by omega);have o:Ah (Z9 wq B b (Rn.allK MM N q) xi):=by have p:=HC.out;rw [bn.out] at p;exact p
    clear hC ag;go_wp2
    (try simp only [Av,Exit.then])
    exact bodyPost_end (Au rfl _ _ _) rfl ⟨rfl,_,o.out,HT.out⟩
end Go.Proofs.YtmmpoppgabadmaaGreat
namespace Go.Proofs.YtmmpoppgabadmaaGreat
open Go.Proofs.Tryz
open Go.RowKit Go.Maps
def Rn.stand (r:Rn):Rn:=Rn.allK ⟨3,0,0,r.n.tm+1,r.n.log.length,Y9 r.n.log,0,0,0,[]⟩ r.n.sz.toNat (Rn.timer { r with n:={ r.n with tm:=r.n.tm+1,vo:=r.n.id,ro:=2,gr:=[r.n.id] } })
theorem stand_any (b:Nat)(r:Rn)(x:CV)(w:Ag)(B:Nat)(h:Z9 w B b r x)(f:r.n.ro≠3)(y:0<=r.n.tm)(aa:r.n.tm<=1073741824)(hd : -(2^63)<=r.draw)(hD:r.draw<2^63)(k:0<=r.n.nw)(j:r.n.nw<=1099511627776)(m:r.n.log.length<=4096)(u:x.L.length<=900) :
  Ar Ad 169 #[Ae (Ac ⟨b,0,Ab⟩)] w λe w'=>e=Aj (.tuple #[])/\∃ x',Z9 w' B b r.stand x'/\Tch b w x w' x':=by
 have c4:=h.c4;have f4:=h.blk.free 4;have c5:=h.c5;have f5:=h.blk.free 5;have c0:=h.c0;have ab:=wrx (r.n.tm+1)
 obtain ⟨c,a⟩:∃ c:Rn,c={ r with n:={ r.n with tm:=r.n.tm+1,vo:=r.n.id } }:=⟨_,rfl⟩
 have g:Ah (Z9 ((w.setCell ⟨b,4,Ab⟩ (Aa O (r.n.tm+1))).setCell ⟨b,5,Ab⟩ (Aa O r.n.id)) B b c x):=by
  unfold Ah;rw [a];exact (h.set (r':={ r with n:={ r.n with tm:=r.n.tm+1 } }) 4 _ rfl rfl rfl rfl rfl rfl rfl rfl rfl rfl Iff.rfl).set 5 _ rfl rfl rfl rfl rfl rfl rfl rfl rfl rfl Iff.rfl
 have l:Ah (Tch b w x ((w.setCell ⟨b,4,Ab⟩ (Aa O (r.n.tm+1))).setCell ⟨b,5,Ab⟩ (Aa O r.n.id)) x):=(Tch.set b w x 4 _).trans (Tch.set b _ x 5 _);have i:=Z0 λz hz=>Z09 b c x z B hz (a▸hd) (a▸hD) (a▸k) (a▸j)
 have p:Ah (∀ z,Z9 z B b c.timer x->Ar Ad 158 #[Ae (Ac ⟨b,0,Ab⟩),Aa O 2,Aa O 3,Aa O (r.n.tm+1)] z λe w'=>e=Aj (.tuple #[])/\∃ x',Z9 w' B b r.stand x'/\Tch b z x w' x'):=λz hz=>by
  have d:=Z7w b c.timer x 2 3 (r.n.tm+1) z B hz (a▸f) (by decide) (a▸m) u;rw [a] at d;exact d
 have HE:Ah (∀ z,Z9 z B b c.timer x->z.cell? ⟨b,4,Ab⟩=Ac (Aa O (r.n.tm+1))):=λz hz=>by have d:=hz.blk.cell 4;rw [a] at d;exact d
 clear h a;generalize r.stand=RS at *;go_enter func169,ntmps169
 go_wp2_with (first
  |(go_at_call 156;refine Am (i _ g) ?_;rintro e w1 ⟨rfl,o,q⟩;have v:=Z0 o;have T1:=Z0 (l.trans q);have e4:=HE.out w1 o;clear o q)
  |(go_at_call 158;refine Am (p _ v) ?_;rintro e w2 ⟨rfl,x2,s,t⟩;have H2:Ah _:=s;have T2:=Z0 (T1.out.trans t);clear s t))
 (try simp only [Av,Exit.then])
 exact bodyPost_end (Au rfl _ _ _) rfl ⟨rfl,_,H2.out,T2.out⟩
def Rn.askFirst (r:Rn):Rn:=
 if r.n.tm=1073741824 then r.lone.timer
 else Rn.allK ⟨1,0,0,r.n.tm+1,r.n.log.length,Y9 r.n.log,0,0,0,[]⟩ r.n.sz.toNat { r.lone.timer with n:={ r.lone.timer.n with ro:=1,gr:=[r.n.id] } }
theorem askFirst_any (b:Nat)(r:Rn)(x:CV)(w:Ag)(B:Nat)(h:Z9 w B b r x)(ac:0<=r.n.tm)(ab:r.n.tm<=1073741824)(hd : -(2^63)<=r.draw)(hD:r.draw<2^63)(o:0<=r.n.nw)(v:r.n.nw<=1099511627776)(u:r.n.log.length<=4096)(hl:x.L.length<=900) :
  Ar Ad 128 #[Ae (Ac ⟨b,0,Ab⟩)] w λe w'=>e=Aj (.tuple #[])/\∃ x',Z9 w' B b r.askFirst x'/\Tch b w x w' x':=by
 have ad:=wrx (r.n.tm+1)
 have d:=Z0 (Z2c b r x 0 w B h);have i:=Z0 λz hz=>Z09 b r.lone x.lone z B hz hd hD o v
 have HE:Ah (∀ z,Z9 z B b r.lone.timer x.lone->z.cell? ⟨b,4,Ab⟩=Ac (Aa O r.n.tm)):=λz hz=>hz.blk.cell 4
 by_cases k:r.n.tm=1073741824
 ·have f:Ah (r.askFirst=r.lone.timer):=by unfold Ah Rn.askFirst;rw [if_pos k]
  have s:decide (r.n.tm<1073741824)=false:=decide_eq_false (by omega);have aa:¬ r.n.tm<1073741824:=by omega
  rw [f.out];clear h f k;generalize r.lone.timer=RT at *;go_enter func128,ntmps128
  go_wp2_with (first
   |(go_at_call 155;refine Am d ?_;rintro e w1 ⟨rfl,g,j⟩;have y:Ah _:=g;have q:=Z0 j;clear g j)
   |(go_at_call 156;refine Am (i _ y) ?_;rintro e p ⟨rfl,a,c⟩;have t:=Z0 a;have l:=Z0 (q.out.trans c);have e4:=HE.out p a;clear a c))
  (try simp only [Av,Exit.then])
  exact bodyPost_end (Au rfl _ _ _) rfl ⟨rfl,_,t.out,l.out⟩
 ·have f:Ah (r.askFirst=Rn.allK ⟨1,0,0,r.n.tm+1,r.n.log.length,Y9 r.n.log,0,0,0,[]⟩ r.n.sz.toNat { r.lone.timer with n:={ r.lone.timer.n with ro:=1,gr:=[r.n.id] } }):=by unfold Ah Rn.askFirst;rw [if_neg k]
  have m:Ah (∀ z,Z9 z B b r.lone.timer x.lone->Ar Ad 158 #[Ae (Ac ⟨b,0,Ab⟩),Aa O 1,Aa O 1,Aa O (r.n.tm+1)] z λe w'=>e=Aj (.tuple #[])/\∃ x',Z9 w' B b r.askFirst x'/\Tch b z x.lone w' x'):=λz hz=>by
   rw [f.out];exact Z7w b _ x.lone 1 1 _ z B hz (show (0:Int)≠3 by decide) (by decide) u hl
  have s:decide (r.n.tm<1073741824)=true:=decide_eq_true (by omega);have aa:r.n.tm<1073741824:=by omega
  clear h f k;generalize r.askFirst=RF at *;generalize r.lone.timer=RT at *;go_enter func128,ntmps128
  go_wp2_with (first
   |(go_at_call 155;refine Am d ?_;rintro e w1 ⟨rfl,g,j⟩;have y:Ah _:=g;have q:=Z0 j;clear g j)
   |(go_at_call 156;refine Am (i _ y) ?_;rintro e p ⟨rfl,a,c⟩;have t:=Z0 a;have l:=Z0 (q.out.trans c);have e4:=HE.out p a;clear a c)
   |(go_at_call 158;refine Am (m _ t) ?_;rintro e w3 ⟨rfl,x3,h3,t3⟩;have H3:Ah _:=h3;have T3:=Z0 (l.out.trans t3);clear h3 t3))
  (try simp only [Av,Exit.then])
  exact bodyPost_end (Au rfl _ _ _) rfl ⟨rfl,_,H3.out,T3.out⟩
end Go.Proofs.YtmmpoppgabadmaaGreat
namespace Go.Proofs.YtmmpoppgabadmaaGreat
open Go.Proofs.Tryz
open Go.RowKit Go.Maps
def Z15 (p:Int->Bool)(lf:Int->Bool)(id:Int):Nat->Nat
 | 0=>0
 | k+1=>Z15 p lf id k+if (k:Int)+1≠id/\p ((k:Int)+1)=true/\lf ((k:Int)+1)=false then 1 else 0
theorem cntL_le (p a:Int->Bool)(id:Int):∀ k,Z15 p a id k<=k
 | 0=>Ao _
 | k+1=>by
  have:=cntL_le p a id k;rw [Z15];split <;> omega
theorem Z6u (p b:Int->Bool)(id:Int):∀ k:Nat,(∀ y:Int,1<=y->y<=k->y≠id->b y=true)->Z15 p b id k=0
 | 0,_=>rfl
 | k+1,h=>by
  rw [Z15,Z6u p b id k (λy c h2 a=>h y c (by omega) a),if_neg];rintro ⟨c,-,a⟩;rw [h _ (by omega) (by omega) c] at a;cases a
theorem Z8g (p a:Int->Bool)(id y:Int):∀ k:Nat,(k:Int)<y->Z15 p (λz=>a z && !(z == y)) id k=Z15 p a id k
 | 0,_=>rfl
 | k+1,h=>by
  rw [Z15,Z15,Z8g p a id y k (by omega)];have:(((k:Int)+1) == y)=false:=by rw [beq_eq_false_iff_ne];omega
  simp only [this,Bool.not_false,Bool.and_true]
theorem Z6k (p a:Int->Bool)(id y:Int)(d:1<=y)(b:y≠id)(c:a y=true):∀ k:Nat,y<=k->Z15 p (λz=>a z && !(z == y)) id k=Z15 p a id k+if p y=true then 1 else 0
 | 0,h=>by omega
 | k+1,h=>by
  rw [Z15,Z15];by_cases e:(k:Int)+1=y
  ·rw [Z8g p a id y k (by omega)]
   rw [e];simp [c,b]
  ·rw [Z6k p a id y d b c k (by omega)]
   have:(((k:Int)+1) == y)=false:=by rw [beq_eq_false_iff_ne];exact e
   simp only [this,Bool.not_false,Bool.and_true];omega
theorem Z7g (b:Nat)(r:Rn)(x:CV)(eb:Nat)(p:Int->Bool)(w:Ag)(B:Nat)(h:Z9 w B b r x)(al:r.n.ro=3)
  (HP:∀ z y q,Ai w.heap.size w z->x.f y=Ac q->Ar Ad 153 #[Ae (Ac ⟨q,0,Ab⟩),Ae (Ac ⟨eb,0,Ab⟩)] z λe w'=>e=Aj (.bool (p y))/\Ai z.heap.size z w') :
  Ar Ad 154 #[Ae (Ac ⟨b,0,Ab⟩),.func (.func 153) #[] #[Ae (Ac ⟨eb,0,Ab⟩)]] w λe w'=>e=Aj (.bool (Xx (1+(Z15 p (λ_=>false) r.n.id r.n.sz.toNat:Int)) r.n.sz))/\Ai w.heap.size w w':=by
 have z0:=h.ci.sz0;have z1:=h.ci.sz1;obtain ⟨N,hN⟩:∃ N:Nat,r.n.sz=(N:Int):=⟨r.n.sz.toNat,by omega⟩;have ac:r.n.sz.toNat=N:=by omega
 have av:Ah (∀ y q,x.f y=Ac q->1<=y/\y<=N/\y≠r.n.id):=λy q e=>by have:=(h.pk y).1 (by rw [e];rfl);omega
 have ak:=Z0 λ(y:Int) (h1:1<=y) (h2:y<=N) (h3:y≠r.n.id)=>(h.pk y).2 ⟨al,h1,by omega,h3⟩
 have ah:=Z0 h.pm;have a0:=h.c19;have an:=Z0 HP;have ai:Ah (∀ z,Ai w.heap.size w z->z.cell? ⟨b,1,Ab⟩=Ac (Aa O (N:Int))):=λz hz=>hN▸(h.below hz).blk.cell 1
 rw [ac];have HM:Ah (∀ k:Nat,majB (1+(k:Int)) (N:Int)=Xx (1+(k:Int)) r.n.sz):=λk=>by have h9:=majB_P (k+1) (N:Int);push_cast at h9;rw [hN,show (1+(k:Int))=(k:Int)+1 by omega];exact h9
 have a3:3<=N:=by omega
 have az:N<=7:=by omega
 obtain ⟨MQ,o⟩:=exq (Xx (1+(Z15 p (λ_=>false) r.n.id N:Int)) r.n.sz);rw [<-o];have aw:=Z0 o;clear h HP hN ac o;go_enter func154,ntmps154
 go_wp2_with (first
  |(at_range;refine Z44 _ rfl _ 78 rfl 126 underlying78 x.pm rfl ah ?_;intro w1 ay ag c au;have aq:=Z0 ag;have ar:Ah (Ai w.heap.size w w1):=⟨c.os,c.tape,c.output,c.size,λk hk=>c.block k hk (by simp)⟩;clear ag c au))
 go_frame
 go_loopw [5,7] (λcv sv wr=>∃(j:Int->Bool) (u:Nat),cv=Aa O (1+(Z15 p j r.n.id N:Int))/\IR ptV wr x.pm w.heap.size x.f j u/\Ai w.heap.size w wr/\(∀ y,j y=true->∃ q,x.f y=Ac q)) (λ_ _ wr=>wr.rangeLeft x.pm w.heap.size)
 case atStart=>exact ⟨_,_,by rw [Z6u p _ r.n.id N (λy h1 h2 h3=>ak.out y h1 h2 h3)];rfl,aq.out,ar.out,λy t=>Option.isSome_iff_exists.1 t⟩
 case round=>
  obtain ⟨j,u,rfl,aa,hB,ad⟩:=hrel;have ae:=Z0 aa;have HB:=Z0 hB;have am:=cntL_le p j r.n.id N;have ax:=Z0 ad;clear aa hB ad;obtain ⟨C,hC⟩:=exq (Z15 p j r.n.id N);rw [<-hC] at am ⊢;have HC:=Z0 hC;clear hC;have m:=Z0 ae.left_eq;rcases ae.next 0 with ⟨h0,hl,hrun⟩ | ⟨y,q,w2,cnt2,hly,hfy,hIR2,hlt2,hg2,hs2,hrun,hen2⟩
  ·have ao:Ah (C=Z15 p (λ_=>false) r.n.id N):=by
    unfold Ah;rw [HC.out];congr 1
    funext y
    exact hl y
   have d1:=ai.out wr HB;have aj:Ah (∀ z,Ar Ad 112 #[Aa O (1+(C:Int)),Aa O (N:Int)] z λe w'=>e=Aj (.bool MQ)/\w'=z):=λz=>by rw [aw.out,<-ao.out,<-HM.out C];exact Z18 _ _ (by omega) (by omega) z
   clear hl h0
   go_wp2_with (first
    |(go_at_call 112;refine Am (aj _) ?_;rintro e w5 ⟨rfl,hw⟩;obtain rfl:=hw.symm;clear hw))
   go_ret;exact ⟨rfl,HB.out⟩
  ·have g:=Z0 hIR2
   have d:=Z0 (HB.grown hg2 HB.size (λk e=>by injection e with e;omega));have t:=av.out y q hfy;have v:Ah (Z15 p (λz=>j z && !(z == y)) r.n.id N=C+if p y=true then 1 else 0):=HC.out▸Z6k p j r.n.id y t.1 t.2.2 hly N t.2.1
   have ab:=Z0 hlt2;have af:=Z0 λz hz=>an z y q hz hfy
   have l:=Z0 λz (hz:(j z && !(z == y))=true)=>ax z (by rw [Bool.and_eq_true] at hz;exact hz.1)
   unfold ptV at hrun hen2;clear hIR2 hlt2 hg2 hs2 hly hfy t;generalize p y=py at *;cases py
   ·go_wp2_with (first
     |(go_at_call 153;refine Am (af _ d) ?_;rintro e w3 ⟨rfl,a⟩;have s:=Z0 (d.trans (a.mono d.size));have i:=Z0 (g.keep (a.block _ g.im.lt) (a.block _ g.lt));clear a))
    go_roundw
    case rel=>exact ⟨_,cnt2,by rw [v.out];simp,i.out,s.out,l.out⟩
    case measure=>rw [i.out.left_eq,m.out];exact ab
   ·have a1:IntKind.i64.wrap (1+(C:Int)+1)=1+(C:Int)+1:=wry
    go_wp2_with (first
     |(go_at_call 153;refine Am (af _ d) ?_;rintro e w3 ⟨rfl,a⟩;have s:=Z0 (d.trans (a.mono d.size));have i:=Z0 (g.keep (a.block _ g.im.lt) (a.block _ g.lt));clear a))
    go_roundw
    case rel=>exact ⟨_,cnt2,by rw [v.out];simp;omega,i.out,s.out,l.out⟩
    case measure=>rw [i.out.left_eq,m.out];exact ab
theorem Z7m (b:Nat)(r:Rn)(x:CV)(eb:Nat)(p:Int->Bool)(w:Ag)(B:Nat)(h:Z9 w B b r x)(al:r.n.ro=3)
  (HP:∀ z y q,Ai w.heap.size w z->x.f y=Ac q->Ar Ad 183 #[Ae (Ac ⟨q,0,Ab⟩),Ae (Ac ⟨eb,0,Ab⟩)] z λe w'=>e=Aj (.bool (p y))/\Ai z.heap.size z w') :
  Ar Ad 154 #[Ae (Ac ⟨b,0,Ab⟩),.func (.func 183) #[] #[Ae (Ac ⟨eb,0,Ab⟩)]] w λe w'=>e=Aj (.bool (Xx (1+(Z15 p (λ_=>false) r.n.id r.n.sz.toNat:Int)) r.n.sz))/\Ai w.heap.size w w':=by
 have z0:=h.ci.sz0;have z1:=h.ci.sz1;obtain ⟨N,hN⟩:∃ N:Nat,r.n.sz=(N:Int):=⟨r.n.sz.toNat,by omega⟩;have ac:r.n.sz.toNat=N:=by omega
 have av:Ah (∀ y q,x.f y=Ac q->1<=y/\y<=N/\y≠r.n.id):=λy q e=>by have:=(h.pk y).1 (by rw [e];rfl);omega
 have ak:=Z0 λ(y:Int) (h1:1<=y) (h2:y<=N) (h3:y≠r.n.id)=>(h.pk y).2 ⟨al,h1,by omega,h3⟩
 have ah:=Z0 h.pm;have a0:=h.c19;have an:=Z0 HP;have ai:Ah (∀ z,Ai w.heap.size w z->z.cell? ⟨b,1,Ab⟩=Ac (Aa O (N:Int))):=λz hz=>hN▸(h.below hz).blk.cell 1
 rw [ac];have HM:Ah (∀ k:Nat,majB (1+(k:Int)) (N:Int)=Xx (1+(k:Int)) r.n.sz):=λk=>by have h9:=majB_P (k+1) (N:Int);push_cast at h9;rw [hN,show (1+(k:Int))=(k:Int)+1 by omega];exact h9
 have a3:3<=N:=by omega
 have az:N<=7:=by omega
 obtain ⟨MQ,o⟩:=exq (Xx (1+(Z15 p (λ_=>false) r.n.id N:Int)) r.n.sz);rw [<-o];have aw:=Z0 o;clear h HP hN ac o;go_enter func154,ntmps154
 go_wp2_with (first
  |(at_range;refine Z44 _ rfl _ 78 rfl 126 underlying78 x.pm rfl ah ?_;intro w1 ay ag c au;have aq:=Z0 ag;have ar:Ah (Ai w.heap.size w w1):=⟨c.os,c.tape,c.output,c.size,λk hk=>c.block k hk (by simp)⟩;clear ag c au))
 go_frame
 go_loopw [5,7] (λcv sv wr=>∃(j:Int->Bool) (u:Nat),cv=Aa O (1+(Z15 p j r.n.id N:Int))/\IR ptV wr x.pm w.heap.size x.f j u/\Ai w.heap.size w wr/\(∀ y,j y=true->∃ q,x.f y=Ac q)) (λ_ _ wr=>wr.rangeLeft x.pm w.heap.size)
 case atStart=>exact ⟨_,_,by rw [Z6u p _ r.n.id N (λy h1 h2 h3=>ak.out y h1 h2 h3)];rfl,aq.out,ar.out,λy t=>Option.isSome_iff_exists.1 t⟩
 case round=>
  obtain ⟨j,u,rfl,aa,hB,ad⟩:=hrel;have ae:=Z0 aa;have HB:=Z0 hB;have am:=cntL_le p j r.n.id N;have ax:=Z0 ad;clear aa hB ad;obtain ⟨C,hC⟩:=exq (Z15 p j r.n.id N);rw [<-hC] at am ⊢;have HC:=Z0 hC;clear hC;have m:=Z0 ae.left_eq;rcases ae.next 0 with ⟨h0,hl,hrun⟩ | ⟨y,q,w2,cnt2,hly,hfy,hIR2,hlt2,hg2,hs2,hrun,hen2⟩
  ·have ao:Ah (C=Z15 p (λ_=>false) r.n.id N):=by
    unfold Ah;rw [HC.out];congr 1
    funext y
    exact hl y
   have d1:=ai.out wr HB;have aj:Ah (∀ z,Ar Ad 112 #[Aa O (1+(C:Int)),Aa O (N:Int)] z λe w'=>e=Aj (.bool MQ)/\w'=z):=λz=>by rw [aw.out,<-ao.out,<-HM.out C];exact Z18 _ _ (by omega) (by omega) z
   clear hl h0
   go_wp2_with (first
    |(go_at_call 112;refine Am (aj _) ?_;rintro e w5 ⟨rfl,hw⟩;obtain rfl:=hw.symm;clear hw))
   go_ret;exact ⟨rfl,HB.out⟩
  ·have g:=Z0 hIR2
   have d:=Z0 (HB.grown hg2 HB.size (λk e=>by injection e with e;omega));have t:=av.out y q hfy;have v:Ah (Z15 p (λz=>j z && !(z == y)) r.n.id N=C+if p y=true then 1 else 0):=HC.out▸Z6k p j r.n.id y t.1 t.2.2 hly N t.2.1
   have ab:=Z0 hlt2;have af:=Z0 λz hz=>an z y q hz hfy
   have l:=Z0 λz (hz:(j z && !(z == y))=true)=>ax z (by rw [Bool.and_eq_true] at hz;exact hz.1)
   unfold ptV at hrun hen2;clear hIR2 hlt2 hg2 hs2 hly hfy t;generalize p y=py at *;cases py
   ·go_wp2_with (first
     |(go_at_call 183;refine Am (af _ d) ?_;rintro e w3 ⟨rfl,a⟩;have s:=Z0 (d.trans (a.mono d.size));have i:=Z0 (g.keep (a.block _ g.im.lt) (a.block _ g.lt));clear a))
    go_roundw
    case rel=>exact ⟨_,cnt2,by rw [v.out];simp,i.out,s.out,l.out⟩
    case measure=>rw [i.out.left_eq,m.out];exact ab
   ·have a1:IntKind.i64.wrap (1+(C:Int)+1)=1+(C:Int)+1:=wry
    go_wp2_with (first
     |(go_at_call 183;refine Am (af _ d) ?_;rintro e w3 ⟨rfl,a⟩;have s:=Z0 (d.trans (a.mono d.size));have i:=Z0 (g.keep (a.block _ g.im.lt) (a.block _ g.lt));clear a))
    go_roundw
    case rel=>exact ⟨_,cnt2,by rw [v.out];simp;omega,i.out,s.out,l.out⟩
    case measure=>rw [i.out.left_eq,m.out];exact ab
end Go.Proofs.YtmmpoppgabadmaaGreat
namespace Go.Proofs.YtmmpoppgabadmaaGreat
open Go.Proofs.Tryz
open Go.RowKit Go.Maps
def Z6n (n:Nd)(y:Int):Bool:=decide (n.nw-n.se.getD (y-1).toNat 0<n.el)
theorem heard_cnt (n:Nd):∀ k,Z15 (Z6n n) (λ_=>false) n.id k=Yu n k
 | 0=>rfl
 | k+1=>by
  rw [Z15,Yu,heard_cnt n k];congr 1;unfold Z6n;rw [show ((k:Int)+1-1).toNat=k by omega];by_cases a:(k:Int)+1=n.id <;> by_cases b:n.nw-n.se.getD k 0<n.el <;> simp [a,b]
theorem heard1_any (b:Nat)(r:Rn)(x:CV)(a:Nat)(w:Ag)(B:Nat)(h:Z9 w B b r x)(g:Blk w a #[Ae (Ac ⟨b,0,Ab⟩)] 74)(y:Int)(q:Nat)(d:x.f y=Ac q)(k:0<=r.n.nw)(j:r.n.nw<=1099511627776)(i:0<=r.n.se.getD (y-1).toNat 0)(l:r.n.se.getD (y-1).toNat 0<=r.n.nw) :
  Ar Ad 153 #[Ae (Ac ⟨q,0,Ab⟩),Ae (Ac ⟨a,0,Ab⟩)] w λe w'=>e=Aj (.bool (Z6n r.n y))/\Ai w.heap.size w w':=by
 have c9:=h.c9;have o:=h.c2;have m:w.cell? ⟨a,0,Ab⟩=Ac (Ae (Ac ⟨b,0,Ab⟩)):=g.cell 0;have p:w.cell? ⟨q,2,Ab⟩=Ac (Aa O (r.n.se.getD (y-1).toNat 0)):=(h.pf y q d).1.cell 2;have c:Ah (Z6n r.n y=decide (r.n.nw-r.n.se.getD (y-1).toNat 0<r.n.el)):=rfl;clear h g d;generalize Z6n r.n y=hp at *;generalize r.n.se.getD (y-1).toNat 0=S at *;have s:=wrx (r.n.nw-S)
 rw [c.out];clear c;go_enter func153,ntmps153;go_wp2;go_quiet (fail)
 go_wp2;go_ret;exact ⟨rfl,Y4 _ _ _⟩
def Rn.tickL (r:Rn):Rn:=if Xx (1+(Yu r.n r.n.sz.toNat:Int)) r.n.sz=true then r.beatK r.n.sz.toNat else r.lone.timer
def Rn.beat1 (r:Rn)(k:Nat)(a:Rn):Rn:=if r.n.bt<=r.n.nw-a.n.st.getD k 0 then a.sendE k else a
theorem Z8o (r:Rn)(k:Nat):Rn.beatK (k+1) r=if (k:Int)+1=r.n.id then Rn.beatK k r else r.beat1 k (Rn.beatK k r):=by
 rw [Rn.beatK];unfold Rn.beat1;by_cases a:(k:Int)+1=r.n.id
 ·rw [if_pos a,if_neg (λh=>h.1 a)]
 ·rw [if_neg a]
  by_cases b:r.n.bt<=r.n.nw-(Rn.beatK k r).n.st.getD k 0
  ·rw [if_pos ⟨a,b⟩,if_pos b]
  ·rw [if_neg (λh=>b h.2),if_neg b]
theorem Z8p (b:Nat)(r:Rn)(x:CV)(w:Ag)(B:Nat)(h:Z9 w B b r x)(ai:r.n.ro=3)(hd : -(2^63)<=r.draw)(hD:r.draw<2^63)(ae:0<=r.n.nw)(a0:r.n.nw<=1099511627776)(m:LdT r.n r.n.sz.toNat)(a9:r.n.log.length<=4096)(hl:x.L.length<=900) :
  Ar Ad 127 #[Ae (Ac ⟨b,0,Ab⟩)] w λe w'=>e=Aj (.tuple #[])/\∃ x',Z9 w' B b r.tickL x'/\Tch b w x w' x':=by
 obtain ⟨W,hW⟩:=exq (w.alloc (.cells #[Ae (Ac ⟨b,0,Ab⟩)] 74));have HB:Ah (Ai w.heap.size w W):=by unfold Ah;rw [hW];exact Below.alloc0 _
 have HE:Ah (Blk W w.heap.size #[Ae (Ac ⟨b,0,Ab⟩)] 74):=by unfold Ah;rw [hW];exact Blk.new _ _ _
 have l:=Z0 (h.below HB);have i0:=h.ci.id0;have i1:=h.ci.id1;have z0:=h.ci.sz0;have z1:=h.ci.sz1
 have ad:Ah (Ar Ad 154 #[Ae (Ac ⟨b,0,Ab⟩),.func (.func 153) #[] #[Ae (Ac ⟨w.heap.size,0,Ab⟩)]] W λe w'=>e=Aj (.bool (Xx (1+(Yu r.n r.n.sz.toNat:Int)) r.n.sz))/\Ai W.heap.size W w'):=by
  unfold Ah;rw [<-heard_cnt];refine Z7g b r x w.heap.size (Z6n r.n) W B l ai λz y q hz hq=>?_
  have hp:=(l.pk y).1 (by rw [hq];rfl)
  have bj:r.n.se.getD (y-1).toNat 0∈r.n.se:=by
   rw [Ba,As (by rw [m.sel];omega)];exact Bp _
  have:=m.se _ bj;exact heard1_any b r x w.heap.size z B (l.below hz) (HE.below hz HE.lt) y q hq ae a0 this.1 this.2
 have c1:∀ z,Ai W.heap.size W z->z.cell? ⟨w.heap.size,0,Ab⟩=Ac (Ae (Ac ⟨b,0,Ab⟩)):=λz hz=>(HE.below hz HE.lt).cell 0
 have ay:=Z0 c1;have cW:=c1 W (An _ _);have ag:∀ z x',Tch b W x z x'->z.cell? ⟨w.heap.size,0,Ab⟩=Ac (Ae (Ac ⟨b,0,Ab⟩)):=λz x' ht=>(ht.blk HE (l.hasnt HE (by decide) (by decide) (by decide) (by decide))).cell 0
 have aw:=Z0 ag;cases hm:Xx (1+(Yu r.n r.n.sz.toNat:Int)) r.n.sz
 ·have HQ:Ah (r.tickL=r.lone.timer):=by unfold Ah Rn.tickL;rw [hm];rfl
  rw [HQ.out];rw [hm] at ad;have a8:Ah (∀ z,Ai W.heap.size W z->Ar Ad 155 #[Ae (Ac ⟨b,0,Ab⟩),Aa O 0] z λe w'=>e=Aj (.tuple #[])/\Z9 w' B b r.lone x.lone/\Tch b z x w' x.lone):=λz hz=>Z2c b r x 0 z B (l.below hz)
  have bc:=Z0 λz hz=>Z09 b r.lone x.lone z B hz hd hD ae a0
  clear h c1 ag hm HQ m;generalize r.lone.timer=RT at *;generalize r.lone=RL at *;go_enter func127,ntmps127
  go_upto_region 1 with fail
  rw [<-hW];clear hW
  go_wp2_with (first
   |(go_at_call 154;refine Am ad ?_;rintro e w1 ⟨rfl,j⟩;have u:=Z0 j;have c2:=ay.out w1 j;clear j)
   |(go_at_call 155;refine Am (a8 _ u) ?_;rintro e w2 ⟨rfl,h2,t2⟩;have H2:Ah _:=h2;have T2:=Z0 (Tch.head u t2);have c3:=aw.out w2 _ T2.out;clear h2 t2)
   |(go_at_call 156;refine Am (bc _ H2) ?_;rintro e w3 ⟨rfl,h3,t3⟩;have H3:=Z0 h3;have T3:=Z0 (T2.out.trans t3);clear h3 t3))
  (try simp only [Av,Exit.then])
  first
   | exact bodyPost_end (Au rfl _ _ _) rfl ⟨rfl,_,H3.out,Tch.head HB T3.out⟩
   | exact bodyPost_ret (Au rfl _ _ _) rfl ⟨rfl,_,H3.out,Tch.head HB T3.out⟩
 ·have HQ:Ah (r.tickL=r.beatK r.n.sz.toNat):=by unfold Ah Rn.tickL;rw [hm];rfl
  rw [HQ.out];rw [hm] at ad;obtain ⟨N,hN⟩:∃ N:Nat,r.n.sz=(N:Int):=⟨r.n.sz.toNat,by omega⟩;have al:r.n.sz.toNat=N:=by omega
  have o:=Z2y r.n.id r.n.sz i0 i1;have am:=kI_full r.n.id r.n.sz i0 i1;have an:=λi=>kI_lt r.n.id r.n.sz i i0 i1
  rw [al] at o am an m ⊢;have HG:=Z0 (Z3c r.n.id i0 N);have bi:=Z0 am;have ar:=Z0 o;have a7:=Z0 an;have HF:=Z0 (oth_fold r.n.id (λk=>Rn.beatK k r) (λk a=>r.beat1 k a) (Z8o r));have HZ:Ah (Rn.beatK (kI r.n.id 0) r=r):=oth_zero r.n.id i0 (λk=>Rn.beatK k r) (λk a=>r.beat1 k a) (Z8o r);have bd:=Z0 (beatK_n r ae m.st);have ao:=Z0 m.ldb;have HN:=Z0 hN;have bv:3<=N:=by omega
  have bq:N<=7:=by omega
  have a4:=Z0 λz hz=>by
   have d:=Z56 b r x z B (l.below hz);rw [al] at d;exact d
  clear h c1 ag hm HQ m o am an hN al i0 i1 z0 z1;go_enter func127,ntmps127
  go_upto_region 1 with fail
  rw [<-hW];clear hW
  go_wp2_with (first
   |(go_at_call 154;refine Am ad ?_;rintro e w1 ⟨rfl,j⟩;have u:=Z0 j;have c2:=ay.out w1 j;clear j)
   |(go_at_call 81;refine Am (a4 _ u) ?_;rintro e w2 ⟨oa,oc,rfl,az,ax⟩;have bb:=Z0 az;have a1:=Z0 (u.trans (ax.mono u.size));clear az ax))
  go_loopw [4,17] (λsj iv wr=>∃(i:Nat) (t:CV),i<=N-1/\iv=Aa O (i:Int)/\t.L.length<=x.L.length+i/\Z9 wr B b (Rn.beatK (kI r.n.id i) r) t/\Tch b W x wr t/\Zc inC 1 3 wr w1.heap.size (I oa (N-1) oc) (oth r.n.id N)) (λ_ iv _=>N-(RowKit.intOf iv).toNat)
  case atStart=>exact ⟨0,x,by omega,rfl,by omega,by rw [HZ.out];exact l.below a1,Tch.below0 _ _ a1,bb.out⟩
  case round=>
   obtain ⟨i,t,hi,rfl,bn,p,hT,hO⟩:=hrel;obtain ⟨wq,au⟩:=exq (wr);rw [<-au] at p hT hO;subst au;have HC:=Z0 p;have HT:=Z0 hT;have HO:=Z0 hO;by_cases bh:i<N-1
   ·obtain ⟨g,br,rfl,hc⟩:=in_at HO.out (by rw [ar.out];omega) i (by rw [ar.out];omega)
    rw [HG.out] at hc;have a5:decide ((i:Int)<((N-1:Nat):Int))=true:=decide_eq_true (by omega);have h1:(i:Int)<((N-1:Nat):Int):=by omega
    obtain ⟨aa,v⟩:=a7.out i bh;obtain ⟨s,c,a2,ak⟩:=bd.out (kI r.n.id i);obtain ⟨P,aj,av⟩:=ao.nx (kI r.n.id i) (by rw [ao.out.nxl];have:=HN.out;omega) v;have af:r.n.nx.getD (kI r.n.id i) 0=(P:Int)+1:=by rw [Ba,As (by rw [ao.out.nxl];have:=HN.out;omega),av];rfl
    clear av;obtain ⟨J,hJ⟩:=exq (kI r.n.id i);have f:=HF.out i;rw [<-hJ] at p hc aa v c af f;obtain ⟨q,hq⟩:=Option.isSome_iff_exists.1 ((p.pk ((J:Int)+1)).2 ⟨by rw [c];exact ai,by omega,by rw [c];exact aa,by rw [c];exact v⟩);have ab:=p.blk.cell 19;have e19:wq.cell? ⟨b,19,Ab⟩=Ac (.map (Ac t.pm)):=ab;have e9:=by have d:=p.c9;unfold crC at d;rw [c] at d;exact d
    have e3:=by have d:=p.c3;unfold crC at d;rw [c] at d;exact d
    have e0:=aw.out wq t hT;obtain ⟨S,hS⟩:=exq ((Rn.beatK J r).n.st.getD J 0)
    have bu:0<=S/\S<=r.n.nw:=by
     rw [hS,c];show 0<=s.getD J 0/\s.getD J 0<=r.n.nw;by_cases a6:J<s.length
     ·rw [Ba,As a6]
      exact ak _ (Bp _)
     ·rw [Ba,List.getElem?_eq_none (by omega)]
      exact ⟨Int.le_refl _,ae⟩
    have bo:wq.cell? ⟨q,3,Ab⟩=Ac (Aa O S):=by
     have d:=(p.pf _ q hq).1.cell 3;unfold pgC at d;rw [show ((J:Int)+1-1).toNat=J by omega,<-hS] at d;exact d
    have be:∀ n,(Instr.lookup 78 (.map (Ac t.pm)) (Aa O ((J:Int)+1)) false).run Ad (wq.drewN n)=.ok (Ae (Ac ⟨q,0,Ab⟩)) (wq.drewN n):=λn=>Z58 _ underlying78 (zeroPt _) (p.pm.below (Y4 _ _ n)) (wf3 (by omega) (by have:=HN.out;omega)) _ (by rw [hq];rfl)
    have bp:=wrx (r.n.nw-S)
    have bg:=Z0 λz hz=>by
     have d:=Z0p b (Rn.beatK J r) t ((J:Int)+1) P z B (p.below hz) (by rw [c];exact ai) (by omega) (by rw [c];exact aa) (by rw [c];exact v) (by
      rw [c];show r.n.nx.getD ((J:Int)+1-1).toNat 0=_;rw [show ((J:Int)+1-1).toNat=J by omega];exact af) (by rw [c];exact aj) (by rw [c];exact a9)
     rw [show ((J:Int)+1-1).toNat=J by omega] at d;exact d
    have aq:=Z0 p;unfold Rn.beat1 at f;rw [<-hS] at f;by_cases ac:r.n.bt<=r.n.nw-S
    ·rw [if_pos ac] at f
     have ah:Ah _:=f;have ba:=decide_eq_true ac;clear p hT hO f hS c a2 ak aj af aa v hJ hq ab HC;generalize (J:Int)+1=y at *
     go_upto_region 8 with fail
     go_quiet (fail)
     have bm:∀ nq,(wq.drewN nq).cell? ⟨w.heap.size,0,Ab⟩=Ac (Ae (Ac ⟨b,0,Ab⟩)):=λnq=>e0
     go_wp2_with (first
      |(go_at_call 157;refine Am (bg _ (Y4 _ _ _)) ?_;rintro e w5 ⟨rfl,v5,m5,h5,t5⟩;have H5:Ah (Z9 w5 B b (Rn.beatK (kI r.n.id (i+1)) r) (t.sent v5 m5)):=(by unfold Ah;rw [ah.out];exact h5);have T5:=Z0 (HT.trans (Tch.head (Y4 _ _ _) t5));have O5:=Z0 (HO.tch aq (Tch.head (Y4 _ _ _) t5));clear h5 t5))
     go_roundw
     case rel=>exact ⟨i+1,t.sent v5 m5,by omega,by go_num,by show (t.L ++ [m5]).length<=_;rw [Bc,List.length_singleton];omega,H5.out,T5.out,O5.out⟩
     case measure=>simp [RowKit.intOf];omega
    ·rw [if_neg ac] at f
     have ah:Ah _:=f;have ba:=decide_eq_false ac;clear p hT hO f hS c a2 ak aj af aa v hJ hq ab HC;generalize (J:Int)+1=y at *
     go_upto_region 8 with fail
     go_quiet (fail)
     go_wp2_with fail
     go_roundw
     case rel=>exact ⟨i+1,t,by omega,by go_num,by omega,by rw [ah.out];exact aq.below (Y4 _ _ _),HT.tail (Y4 _ _ _),HO.below (Y4 _ _ _)⟩
     case measure=>simp [RowKit.intOf];omega
   ·obtain rfl:i=N-1:=by omega
    have a5:decide (((N-1:Nat):Int)<((N-1:Nat):Int))=false:=decide_eq_false (by omega);have a3:Ah (Z9 wq B b (Rn.beatK N r) t):=by have d:=HC.out;rw [bi.out] at d;exact d
    clear p hT hO;go_wp2
    (try simp only [Av,Exit.then])
    exact bodyPost_end (Au rfl _ _ _) rfl ⟨rfl,_,a3.out,Tch.head HB HT⟩
end Go.Proofs.YtmmpoppgabadmaaGreat
namespace Go.Proofs.YtmmpoppgabadmaaGreat
open Go.Proofs.Tryz
open Go.RowKit Go.Maps
theorem Z4l (m:Mg)(r:Rn):∀ k,(Rn.allK m k r).code=r.code
 | 0=>rfl
 | k+1=>by
  rw [Rn.allK];split
  ·exact Z4l m r k
  ·exact Z4l m r k
theorem Z59 (r:Rn):∀ k,(Rn.beatK k r).code=r.code
 | 0=>rfl
 | k+1=>by
  rw [Rn.beatK];split
  ·exact Z59 r k
  ·exact Z59 r k
theorem Z3f (r:Rn):∀ k,(Rn.sendK k r).code=r.code
 | 0=>rfl
 | k+1=>by
  rw [Rn.sendK];split
  ·exact Z3f r k
  ·exact Z3f r k
theorem askFirst_code (r:Rn):r.askFirst.code=r.code:=by
 unfold Rn.askFirst;split
 ·rfl
 ·exact Z4l _ _ _
theorem tickL_code (r:Rn):r.tickL.code=r.code:=by
 unfold Rn.tickL;split
 ·exact Z59 _ _
 ·rfl
theorem Z5i (r:Rn):r.tick=if r.n.nw=1099511627776 then { r with code:=7 } else if r.n.ro=3 then Rn.tickL { r with n:={ r.n with nw:=r.n.nw+1 } } else if r.n.nw+1<r.n.dl then { r with n:={ r.n with nw:=r.n.nw+1 } } else Rn.askFirst { r with n:={ r.n with nw:=r.n.nw+1 } }:=rfl
theorem tick_any (b:Nat)(r:Rn)(x:CV)(w:Ag)(B:Nat)(h:Z9 w B b r x)(hc:r.code=0)(u:0<=r.n.tm)(v:r.n.tm<=1073741824)(hd : -(2^63)<=r.draw)(hD:r.draw<2^63)(ah:0<=r.n.nw)(ag:r.n.nw<=1099511627776)(k:r.n.ro=3->LdT r.n r.n.sz.toNat)(q:r.n.log.length<=4096)(hl:x.L.length<=900) :
  Ar Ad 83 #[Ae (Ac ⟨b,0,Ab⟩)] w λe w'=>e=Aj (Aa O r.tick.code)/\∃ x',Z9 w' B b r.tick x'/\Tch b w x w' x':=by
 have o:=Z0 h;have c9:=h.c9;have f9:=h.blk.free 9;by_cases d:r.n.nw=1099511627776
 ·have j:Ah (r.tick={ r with code:=7 }):=by unfold Ah;rw [Z5i,if_pos d]
  rw [j.out];have hb:(r.n.nw == 1099511627776)=true:=by simpa using d
  clear h j d;go_enter func83,ntmps83;go_wp2;go_ret;exact ⟨rfl,x,o.re (r':={ r with code:=7 }) (kp':=x.kp) o.blk (λ_ _ _=>rfl) rfl rfl rfl rfl rfl rfl rfl rfl rfl Iff.rfl,Tch.refl _ _ _⟩
 have af:(r.n.nw == 1099511627776)=false:=by simpa using d
 have ai:=wrx (r.n.nw+1)
 obtain ⟨g,a⟩:∃ g:Rn,g={ r with n:={ r.n with nw:=r.n.nw+1 } }:=⟨_,rfl⟩;have f:Ah (Z9 (w.setCell ⟨b,9,Ab⟩ (Aa O (r.n.nw+1))) B b g x):=a▸h.set 9 _ rfl rfl rfl rfl rfl rfl rfl rfl rfl rfl Iff.rfl
 have m:Ah (Tch b w x (w.setCell ⟨b,9,Ab⟩ (Aa O (r.n.nw+1))) x):=Tch.set _ _ _ _ _;have e6:(w.setCell ⟨b,9,Ab⟩ (Aa O (r.n.nw+1))).cell? ⟨b,6,Ab⟩=Ac (Aa O r.n.ro):=by have l:=f.blk.cell 6;rw [a] at l;exact l
 have e9:(w.setCell ⟨b,9,Ab⟩ (Aa O (r.n.nw+1))).cell? ⟨b,9,Ab⟩=Ac (Aa O (r.n.nw+1)):=by have l:=f.blk.cell 9;rw [a] at l;exact l
 have e10:(w.setCell ⟨b,9,Ab⟩ (Aa O (r.n.nw+1))).cell? ⟨b,10,Ab⟩=Ac (Aa O r.n.dl):=by have l:=f.blk.cell 10;rw [a] at l;exact l
 have i:g.code=0:=a▸hc
 by_cases c:r.n.ro=3
 ·have j:Ah (r.tick=g.tickL):=by unfold Ah;rw [Z5i,if_neg d,if_pos c,a]
  have HK:=Z0 ((tickL_code _).trans i);have ac:(r.n.ro == 3)=true:=by simpa using c
  have hL:=k c
  have ab:Ah (Ar Ad 127 #[Ae (Ac ⟨b,0,Ab⟩)] (w.setCell ⟨b,9,Ab⟩ (Aa O (r.n.nw+1))) λe w'=>e=Aj (.tuple #[])/\∃ x',Z9 w' B b g.tickL x'/\Tch b (w.setCell ⟨b,9,Ab⟩ (Aa O (r.n.nw+1))) x w' x'):=by
   refine Z8p b g x _ B f (a▸c) (a▸hd) (a▸hD) (by rw [a];show 0<=r.n.nw+1;omega) (by rw [a];show r.n.nw+1<=_;omega) ?_ (a▸q) hl;rw [a];exact ⟨⟨hL.ldb.nxl,hL.ldb.stl,hL.ldb.nx⟩,hL.sel,λy hy=>⟨(hL.se y hy).1,by have:=(hL.se y hy).2;show y<=r.n.nw+1;omega⟩,λy hy=>⟨(hL.st y hy).1,by have:=(hL.st y hy).2;show y<=r.n.nw+1;omega⟩⟩
  rw [j.out];rw [HK.out];clear h j d c a hL k f o;generalize g.tickL=RT at *;go_enter func83,ntmps83
  go_wp2_with (first
   |(go_at_call 127;refine Am ab ?_;rintro e w2 ⟨rfl,x2,p,s⟩;have H2:Ah _:=p;have T2:=Z0 (m.trans s);clear p s))
  go_ret;exact ⟨rfl,_,H2.out,T2.out⟩
 have ac:(r.n.ro == 3)=false:=by simpa using c
 by_cases t:r.n.nw+1<r.n.dl
 ·have j:Ah (r.tick=g):=by unfold Ah;rw [Z5i,if_neg d,if_neg c,if_pos t,a]
  rw [j.out,i];have aa:decide (r.n.dl<=r.n.nw+1)=false:=decide_eq_false (by omega);have ae:¬ r.n.dl<=r.n.nw+1:=by omega
  clear h j d c a k o i;go_enter func83,ntmps83
  go_upto_region 6 with fail
  generalize w.setCell ⟨b,9,Ab⟩ (Aa O (r.n.nw+1))=w1 at *;go_quiet (fail)
  go_wp2;go_ret;exact ⟨rfl,x,f.below (Y4 _ _ _),m.tail (Y4 _ _ _)⟩
 ·have j:Ah (r.tick=g.askFirst):=by unfold Ah;rw [Z5i,if_neg d,if_neg c,if_neg t,a]
  have HK:=Z0 ((askFirst_code _).trans i);have ad:=Z0 λz hz=>askFirst_any b g x z B hz (a▸u) (a▸v) (a▸hd) (a▸hD) (by rw [a];show 0<=r.n.nw+1;omega) (by rw [a];show r.n.nw+1<=_;omega) (a▸q) hl
  rw [j.out,HK.out];have aa:decide (r.n.dl<=r.n.nw+1)=true:=decide_eq_true (by omega);have ae:r.n.dl<=r.n.nw+1:=by omega
  clear h j d c a k o i;generalize g.askFirst=RT at *;go_enter func83,ntmps83
  go_upto_region 6 with fail
  generalize w.setCell ⟨b,9,Ab⟩ (Aa O (r.n.nw+1))=w1 at *;go_quiet (fail)
  go_wp2_with (first
   |(go_at_call 128;refine Am (ad _ (f.below (Y4 _ _ _))) ?_;rintro e w2 ⟨rfl,x2,p,s⟩;have H2:Ah _:=p;have T2:=Z0 ((m.tail (Y4 _ _ _)).trans s);clear p s))
  go_ret;exact ⟨rfl,_,H2.out,T2.out⟩
end Go.Proofs.YtmmpoppgabadmaaGreat
namespace Go.Proofs.YtmmpoppgabadmaaGreat
open Go.Proofs.Tryz
open Go.RowKit Go.Maps
theorem Z9.logAt {w w2 i:Ag}{B b:Nat}{r:Rn}{x:CV}{v:Value}{l:List Ent}(h:Z9 w B b r x)(j:Ai w.heap.size w w2)(ho:Zh i B v l)(m:Ye w2 x.vl i v) :
  Z9 (i.setCell ⟨b,12,Ab⟩ v) B b { r with n:={ r.n with log:=l } } { x with vl:=v }/\Tch b w x (i.setCell ⟨b,12,Ab⟩ v) { x with vl:=v }:=by
 obtain ⟨f1,f2,f3,t,f5⟩:=h.bf;have f6:=h.entB;have ae:=j.size;have ad:=m.g.size;have ac:=h.lt;have s:∀ k,k<w.heap.size->x.vl.ownBlock≠Ac k->i.heap[k]? = w.heap[k]?:=λk hk hne=>(m.g.block k (by omega) (λe=>hne e.symm)).trans (j.block k hk)
 have aa:=h.blk.keep (s b h.lt λe=>(t b e).1 rfl);have d:∀ k,k≠b->(i.setCell ⟨b,12,Ab⟩ v).heap[k]? = i.heap[k]?:=λk hk=>Below.heap_setCell _ _ _ _ hk
 have a:=λk h1 j h3=>(d k h1).trans (s k j h3)
 have f:∀ k,v.ownBlock=Ac k->x.vl.ownBlock=Ac k∨w.heap.size<=k:=λk e=>by
  rcases m.at' with e' | ⟨g,e',hk⟩
  ·rw [e] at e';exact .inl e'.symm
  ·rw [e] at e';cases e';exact .inr (by omega)
 obtain ⟨z,ab⟩:=List.pairwise_cons.1 h.apE;have o:=λp c k e e2=>z p.v (List.mem_map.2 ⟨p,c,rfl⟩) k e2 e
 refine ⟨⟨aa.set 12 v,h.lo,ho.block λk e=>d k ?_,h.gm.keep (a _ f1 h.gm.lt (λe=>(t _ e).2.1 rfl)),h.gml,h.pm.keep (a _ f2 h.pm.lt (λe=>(t _ e).2.2.1 rfl)),h.pml,h.gp,λy q e=>⟨(h.pf y q e).1.keep (a q (f3 y q e).1 (h.pf y q e).1.lt (λe2=>(t _ e2).2.2.2 y q e rfl)),(h.pf y q e).2⟩,h.pi,h.pk,h.out.block λk e=>a k (f5 k e).1 (h.out.lts k e).2 (f5 k e).2.2.2.2,h.outC,?_,?_,?_⟩,?_⟩
 ·rcases f k e with e' | e'
  ·exact (t k e').1
  ·omega
 ·intro p c
  exact (h.ents p c).block λk e=>a k (f6 p c k e).1 (Aq (h.ents p c).2 k e).2 (o p c k e)
 ·refine List.pairwise_cons.2 ⟨λu hu k e1 e2=>?_,ab⟩
  obtain ⟨p,c,rfl⟩:=List.mem_map.1 hu;rcases f k e1 with e' | e'
  ·exact o p c k e2 e'
  ·have:=(Aq (h.ents p c).2 k e2).2;omega
 ·obtain ⟨c1,c2,c3,c4,c5,c6,c7,c8,c9⟩:=h.ci
  exact ⟨c1,c2,c3,c4,c5,c6,c7,c8,c9⟩
 ·refine ⟨m.g.os.trans j.os,m.g.tape.trans j.tape,m.g.output.trans j.output,by simp [World.setCell];omega,λk hk hn=>a k (λe=>hn (.inl e)) hk (λe=>hn (.inr (.inr (.inr (.inr (.inl e)))))),λk hk=>?_⟩
  rcases hk with e | e | e | e | e | e
  ·exact .inl (.inl e)
  ·exact .inl (.inr (.inl e))
  ·exact .inl (.inr (.inr (.inl e)))
  ·exact .inl (.inr (.inr (.inr (.inl e))))
  ·rcases f k e with e' | e'
   ·exact .inl (.inr (.inr (.inr (.inr (.inl e')))))
   ·exact .inr e'
  ·exact .inl (.inr (.inr (.inr (.inr (.inr e)))))
structure Z1y (w:Ag) (B b:Nat) (r:Rn) (x:CV) (ks:List Int):Prop where
 blk:Blk w b (crC r x) 80
 lo:B<=b
 log:Zh w B x.vl r.n.log
 gm:IM unV w x.gm (grF r.n.gr)
 gml:B<=x.gm
 pm:IM ptV w x.pm x.f
 pml:B<=x.pm
 gp:x.gm≠x.pm
 pf:∀ y q,x.f y=Ac q->Blk w q (pgC r.n y) 124/\B<=q
 pi:∀ y z q,x.f y=Ac q->x.f z=Ac q->y=z
 pk:∀ y,y∈ks↔(x.f y).isSome=true
 out:Zc omC 10 43 w B x.vo x.L
 outC:x.L.map (·.m)=r.out
 ents:∀ p∈x.L,Zh w B p.v p.m.es
 apE:(x.vl :: x.L.map Om.v).Pairwise Yd
 ci:CI r.n
section
variable {w w':Ag} {B b:Nat} {r:Rn} {x:CV} {ks:List Int}
theorem Z1y.at' (h:Z1y w B b r x ks)(a:∀ y,y∈ks↔(r.n.ro=3/\1<=y/\y<=r.n.sz/\y≠r.n.id)):Z9 w B b r x:=
 ⟨h.blk,h.lo,h.log,h.gm,h.gml,h.pm,h.pml,h.gp,h.pf,h.pi,λy=>(h.pk y).symm.trans (a y),h.out,h.outC,h.ents,h.apE,h.ci⟩
theorem Z1y.keep (h:Z1y w B b r x ks)(a:∀ k,x.has b k->w'.heap[k]? = w.heap[k]?)(c:∀ p∈x.L,∀ k,p.v.ownBlock=Ac k->w'.heap[k]? = w.heap[k]?):Z1y w' B b r x ks:=
 ⟨h.blk.keep (a _ (.inl rfl)),h.lo,h.log.block λk e=>a k (.inr (.inr (.inr (.inr (.inl e))))),h.gm.keep (a _ (.inr (.inl rfl))),h.gml,h.pm.keep (a _ (.inr (.inr (.inl rfl)))),h.pml,h.gp,λy q e=>⟨(h.pf y q e).1.keep (a q (.inr (.inr (.inr (.inl ⟨y,e⟩))))),(h.pf y q e).2⟩,h.pi,h.pk,h.out.block λk e=>a k (.inr (.inr (.inr (.inr (.inr e))))),h.outC,λp hp=>(h.ents p hp).block λk e=>c p hp k e,h.apE,h.ci⟩
theorem Z1y.has_lt (h:Z1y w B b r x ks){k:Nat}(a:x.has b k):k<w.heap.size:=by
 rcases a with rfl | rfl | rfl | ⟨y,e⟩ | e | e
 ·exact h.blk.lt
 ·exact h.gm.lt
 ·exact h.pm.lt
 ·exact (h.pf y _ e).1.lt
 ·exact (Aq h.log.2 k e).2
 ·exact (h.out.lts k e).2
theorem Z1y.below (h:Z1y w B b r x ks)(a:Ai w.heap.size w w'):Z1y w' B b r x ks:=
 h.keep (λk hk=>a.block k (h.has_lt hk)) (λp hp k e=>a.block k (Aq (h.ents p hp).2 k e).2)
theorem Z1y.put {w2 o:Ag}{y:Int}{q:Nat}(h:Z1y w B b r x ks)(l:Ai w.heap.size w w2)(hq:Blk w2 q (pgC r.n y) 124)(ad:w.heap.size<=q)(ab:B<=w.heap.size)(t:w2.grownBy o (Ac x.pm))(u:IM ptV o x.pm (λd=>if d=y then Ac q else x.f d))(hy:y ∉ ks) :
  Z1y o B b r { x with f:=λd=>if d=y then Ac q else x.f d } (ks ++ [y])/\Tch b w x o { x with f:=λd=>if d=y then Ac q else x.f d }:=by
 have a:∀ k,k<w.heap.size->k≠x.pm->o.heap[k]? = w.heap[k]?:=λk c hn=>(t.block k (Bk c l.size) (λe=>hn (by injection e with e))).trans (l.block k c)
 have ac:=h.pm.lt;obtain ⟨pe,pc,m⟩:=h.pm.obj;have nb:=h.pm.ne_blk h.blk
 have aa:x.f y=Ab:=by
  cases e:x.f y with
  | none=>rfl
  | some g=>exact absurd ((h.pk y).2 (by rw [e];rfl)) hy
 refine ⟨⟨h.blk.keep (a b h.blk.lt nb),h.lo,h.log.block λk e=>a k (Aq h.log.2 k e).2 ?_,h.gm.keep (a _ h.gm.lt h.gp),h.gml,u,h.pml,h.gp,?_,?_,?_,h.out.block λk e=>a k (h.out.lts k e).2 ?_,h.outC,λp u=>(h.ents p u).block λk e=>a k (Aq (h.ents p u).2 k e).2 ?_,h.apE,h.ci⟩,?_⟩
 ·rintro rfl
  obtain ⟨v,s,c⟩:=Z0o h.log e;exact hmap c m
 ·intro z g e
  show Blk o g (pgC r.n z) _/\B<=g;simp only at e;by_cases i:z=y
  ·subst i
   rw [if_pos rfl] at e;injection e with e;subst e;exact ⟨hq.keep (t.block q hq.lt (λe=>by injection e with e;omega)),by omega⟩
  ·rw [if_neg i] at e
   have h9:=h.pf z g e;exact ⟨h9.1.keep (a g h9.1.lt (h.pm.ne_blk h9.1)),h9.2⟩
 ·intro z1 z2 g j e2
  simp only at j e2;by_cases h1:z1=y
  ·by_cases h3:z2=y
   ·omega
   ·rw [if_pos h1] at j
    rw [if_neg h3] at e2;injection j with j;have:=(h.pf z2 g e2).1.lt;omega
  ·by_cases h3:z2=y
   ·rw [if_neg h1] at j
    rw [if_pos h3] at e2;injection e2 with e2;have:=(h.pf z1 g j).1.lt;omega
   ·rw [if_neg h1] at j
    rw [if_neg h3] at e2;exact h.pi z1 z2 g j e2
 ·intro z
  simp only [Cc,Bd];by_cases i:z=y
  ·simp [i]
  ·simp only [i,or_false,if_false]
   exact h.pk z
 ·rintro rfl
  obtain ⟨v,s,c⟩:=Z3g h.out e;exact hmap c m
 ·rintro rfl
  obtain ⟨v,s,c⟩:=Z0o (h.ents p u) e;exact hmap c m
 ·skip
  refine ⟨t.os.trans l.os,t.tape.trans l.tape,t.output.trans l.output,Nat.le_trans l.size t.size,λk c hn=>a k c (λe=>hn (.inr (.inr (.inl e)))),λk c=>?_⟩;rcases c with e | e | e | ⟨z,e⟩ | e | e
  ·exact .inl (.inl e)
  ·exact .inl (.inr (.inl e))
  ·exact .inl (.inr (.inr (.inl e)))
  ·simp only at e
   by_cases i:z=y
   ·rw [if_pos i] at e
    injection e with e;exact .inr (by omega)
   ·rw [if_neg i] at e
    exact .inl (.inr (.inr (.inr (.inl ⟨z,e⟩))))
  ·exact .inl (.inr (.inr (.inr (.inr (.inl e)))))
  ·exact .inl (.inr (.inr (.inr (.inr (.inr e)))))
end
end Go.Proofs.YtmmpoppgabadmaaGreat
namespace Go.Proofs.YtmmpoppgabadmaaGreat
open Go.Proofs.Tryz
open Go.RowKit Go.Maps
structure PreK (w:Ag) (B b:Nat) (C:Array Value) (n:Nd) (vl:Value) (g p:Nat) (gl:List Int) (f:Int->Option Nat) (ks:List Int):Prop where
 blk:Blk w b C 80
 lo:B<=b
 log:Zh w B vl n.log
 gm:IM unV w g (grF gl)
 gml:B<=g
 pm:IM ptV w p f
 pml:B<=p
 gp:g≠p
 pf:∀ y q,f y=Ac q->Blk w q (pgC n y) 124/\B<=q
 pi:∀ y z q,f y=Ac q->f z=Ac q->y=z
 pk:∀ y,y∈ks↔(f y).isSome=true
section
variable {w w':Ag} {B b:Nat} {C:Array Value} {n:Nd} {vl:Value} {g p:Nat} {gl:List Int} {f:Int->Option Nat} {ks:List Int}
theorem PreK.below (h:PreK w B b C n vl g p gl f ks)(a:Ai w.heap.size w w'):PreK w' B b C n vl g p gl f ks:=
 ⟨h.blk.keep (a.block _ h.blk.lt),h.lo,h.log.block λk e=>a.block k (Aq h.log.2 k e).2,h.gm.keep (a.block _ h.gm.lt),h.gml,h.pm.keep (a.block _ h.pm.lt),h.pml,h.gp,λy q e=>⟨(h.pf y q e).1.keep (a.block _ (h.pf y q e).1.lt),(h.pf y q e).2⟩,h.pi,h.pk⟩
theorem PreK.row {c:Array Value}(h:PreK w B b C n vl g p gl f ks)(d:Blk w' b c 80)(a:∀ k,k≠b->w'.heap[k]? = w.heap[k]?):PreK w' B b c n vl g p gl f ks:=by
 refine ⟨d,h.lo,h.log.block λk e=>a k ?_,h.gm.keep (a _ (h.gm.ne_blk h.blk).symm),h.gml,h.pm.keep (a _ (h.pm.ne_blk h.blk).symm),h.pml,h.gp,λy q e=>⟨(h.pf y q e).1.keep (a _ ?_),(h.pf y q e).2⟩,h.pi,h.pk⟩
 ·rintro rfl
  obtain ⟨j,s,i⟩:=Z0o h.log e;have:=Xc i h.blk;cases this
 ·rintro rfl
  have:=Xc (h.pf y _ e).1 h.blk;cases this
theorem grF_app (gl:List Int)(y:Int):(λd=>if d=y then Ac () else grF gl d)=grF (gl ++ [y]):=by
 funext d
 unfold grF;by_cases h:d=y
 ·simp [h]
 ·simp [h]
variable {y:Int}
theorem PreK.gput (h:PreK w B b C n vl g p gl f ks)(l:w.grownBy w' (Ac g))(j:IM unV w' g (λd=>if d=y then Ac () else grF gl d)):PreK w' B b C n vl g p (gl ++ [y]) f ks:=by
 rw [grF_app] at j;have a:∀ k,k<w.heap.size->k≠g->w'.heap[k]? = w.heap[k]?:=λk c hn=>l.block k c (λe=>hn (by injection e with e))
 obtain ⟨r,o,i⟩:=h.gm.obj;refine ⟨h.blk.keep (a b h.blk.lt (h.gm.ne_blk h.blk)),h.lo,h.log.block λk e=>a k (Aq h.log.2 k e).2 ?_,j,h.gml,h.pm.keep (a _ h.pm.lt h.gp.symm),h.pml,h.gp,λy q e=>⟨(h.pf y q e).1.keep (a _ (h.pf y q e).1.lt (h.gm.ne_blk (h.pf y q e).1)),(h.pf y q e).2⟩,h.pi,h.pk⟩;rintro rfl;obtain ⟨m,s,c⟩:=Z0o h.log e;exact hmap c i
theorem PreK.put {x l:Ag}{q:Nat}(h:PreK w B b C n vl g p gl f ks)(h2:Ai w.heap.size w x)(hq:Blk x q (pgC n y) 124)(ac:w.heap.size<=q)(aa:B<=w.heap.size)(hg:x.grownBy l (Ac p))(hp:IM ptV l p (λd=>if d=y then Ac q else f d))(hy:y ∉ ks) :
  PreK l B b C n vl g p gl (λd=>if d=y then Ac q else f d) (ks ++ [y]):=by
 have a:∀ k,k<w.heap.size->k≠p->l.heap[k]? = w.heap[k]?:=λk m hn=>(hg.block k (Bk m h2.size) (λe=>hn (by injection e with e))).trans (h2.block k m)
 have ab:=h.pm.lt;obtain ⟨pe,pc,v⟩:=h.pm.obj;have nb:=h.pm.ne_blk h.blk;refine ⟨h.blk.keep (a b h.blk.lt nb),h.lo,h.log.block λk e=>a k (Aq h.log.2 k e).2 ?_,h.gm.keep (a _ h.gm.lt h.gp),h.gml,hp,h.pml,h.gp,?_,?_,?_⟩
 ·rintro rfl
  obtain ⟨ad,s,m⟩:=Z0o h.log e;exact hmap m v
 ·intro z i e
  by_cases j:z=y
  ·subst j
   rw [if_pos rfl] at e;injection e with e;subst e;exact ⟨hq.keep (hg.block q hq.lt (λe=>by injection e with e;omega)),by omega⟩
  ·rw [if_neg j] at e
   have r:=h.pf z i e;exact ⟨r.1.keep (a i r.1.lt (h.pm.ne_blk r.1)),r.2⟩
 ·intro z1 o i c e2
  by_cases u:z1=y
  ·by_cases t:o=y
   ·omega
   ·rw [if_pos u] at c
    rw [if_neg t] at e2;injection c with c;have:=(h.pf o i e2).1.lt;omega
  ·by_cases t:o=y
   ·rw [if_neg u] at c
    rw [if_pos t] at e2;injection e2 with e2;have:=(h.pf z1 i c).1.lt;omega
   ·rw [if_neg u] at c
    rw [if_neg t] at e2;exact h.pi z1 o i c e2
 ·intro z
  simp only [Cc,Bd];by_cases j:z=y
  ·simp [j]
  ·simp only [j,or_false,if_false]
   exact h.pk z
def rn0 (n:Nd):Rn:=⟨n,[],0,0,0⟩
theorem PreK.fin (h:PreK w B b (crC (rn0 n) ⟨vl,I Ab 0 0,[],g,p,f,0⟩) n vl g p n.gr f ks)(c:∀ y,y∈ks↔(n.ro=3/\1<=y/\y<=n.sz/\y≠n.id))(a:CI n):Z9 w B b (rn0 n) ⟨vl,I Ab 0 0,[],g,p,f,0⟩:=
 ⟨h.blk,h.lo,h.log,h.gm,h.gml,h.pm,h.pml,h.gp,h.pf,h.pi,λy=>(h.pk y).symm.trans (c y),Zc.nil _ _ _ _ _,rfl,(λp hp=>by cases hp),(by simp),a⟩
end
end Go.Proofs.YtmmpoppgabadmaaGreat
