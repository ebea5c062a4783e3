import Derived.Test.YtmmpoppgabadmaaGreatG15
import Derived.Test.YtmmpoppgabadmaaGreatG12
import Derived.ArgAppend
set_option linter.unusedVariables false
set_option linter.unusedSimpArgs false
set_option maxRecDepth 100000
set_option maxHeartbeats 16000000
open Go.Value renaming slice → I,int → Aa,pointer → Ae,agg → Aw
open Go.IntKind renaming i64 → O
open _root_.Option renaming none → Ab,some → Ac
open Go.Proofs.Tryz renaming prog → Ad
open Go renaming World → Ag,Calls → Ar,results_none → Au,Addr → B4
open Go.RowKit renaming Hid → Ah,Below → Ai
open Go.Ending renaming returned → Aj
open Go.RowKit.Below renaming heap_setCell → Ak,refl → An
open _root_.Bool renaming and_eq_true → Al
open Go.Calls renaming mono → Am
open _root_.Nat renaming le_refl → Ao,le_trans → Ap,zero_le → Bb,le_of_lt → Be
open Go.World.ownsRow renaming lt → Aq
open _root_.List renaming getElem?_eq_getElem → As,getD_eq_getElem?_getD → Ba,length_append → Bc,mem_singleton → Bd,setIfInBounds_toArray → Bj,getElem_mem → Bp,set_cons_succ → Bt,getElem?_eq_none → Bv,set_cons_zero → By,mem_append → Cc
open Go.Obj renaming cells → At
open Go.Exit renaming inBlock → Av
namespace Go.Proofs.YtmmpoppgabadmaaGreat
open Go.Proofs.Tryz
open Go.RowKit Go.Maps
theorem run_imput {γ:Type}{vl:γ->Value}{f:Int->Option γ}(w:Ag)(t e:TypeId)(r:Tryz.prog.underlying t=Ac (.map 3 e))(b:Nat)(h:IM vl w b f)(l:List Int)(q:l.Nodup)(k:∀ y,y∈l↔(f y).isSome=true)(v:l.length<1000000)(c:Int)(o:(Lit.int O c).wf=true)(y:γ) :
  ∃ w',(Instr.mapUpdate t (.map (Ac b)) (.int O c) (vl y)).run Ad w=.ok () w'/\IM vl w' b (λd=>if d=c then Ac y else f d)/\w.grownBy w' (Ac b):=by
 obtain ⟨n,D,g,m⟩:=h;have s:=IM.size g m q k;replace g:=tight3 g;obtain ⟨w',j,u,p⟩:=g.update law3 r (by rw [s];unfold maxLen;omega) (key3 o) (show Z2m (vl y)=Ac (.held (vl y),[]) from rfl);refine ⟨w',j,⟨_,_,u,λd=>?_⟩,p⟩;by_cases a:d=c
 ·subst a
  simp only [if_true];exact ⟨has_put_same g.isMap (law3.key (key3 o)) _,λz=>atKey_put_same g.isMap (law3.key (key3 o)) _ _⟩
 ·have i:Lit.int O d≠Lit.int O c:=λe=>a (by injection e)
  simp only [if_neg a];exact ⟨(has_put_other i _).trans (m d).1,λz=>(atKey_put_other i _ _).trans ((m d).2 z)⟩
def Z2l (r:Rn):Rn:={ r with n:={ r.lone.n with ro:=3,ld:=r.n.id,nx:=Zw r.n.id r.n.sz.toNat ((r.n.log.length:Int)+1),mt:=Zw r.n.id r.n.sz.toNat 0,se:=Zw r.n.id r.n.sz.toNat r.n.nw,st:=Zw r.n.id r.n.sz.toNat r.n.nw } }
def Z3r (r:Rn):Rn:={ Z2l r with n:={ (Z2l r).n with log:=if r.n.log.length<4096 then r.n.log ++ [e0 r.n.tm] else r.n.log } }
theorem leadG_eq (r:Rn):r.lead=(Z3r r).sendAll:=rfl
theorem leadL_D (id:Int)(k:Nat)(y:Int)(J:Nat)(h:J<k):(Zw id k y).getD J 0=lv id J y:=by
 rw [Ba,leadL_get _ _ _ _ h];rfl
theorem leadM_ci {r:Rn}(h:CI r.n):CI (Z2l r).n:=by
 obtain ⟨e,f,b,d,c,j,g,i,c9⟩:=h;refine ⟨e,f,b,d,c,.nil,(λy hy=>by cases hy),λ_=>⟨⟨Xk _ _ _,Xk _ _ _,Xk _ _ _,Xk _ _ _⟩,?_⟩,λhn=>absurd rfl hn⟩
 have a:∀ y,(Zw r.n.id r.n.sz.toNat y).getD (r.n.id-1).toNat 0=0:=λy=>by
  rw [leadL_D _ _ _ _ (by omega)];unfold lv;rw [if_pos (by omega)]
 exact ⟨a _,a _,a _,a _⟩
theorem leadM_pg (r:Rn)(y:Int)(c:1<=y)(b:y<=r.n.sz)(d:y≠r.n.id):pgC (Z2l r).n y=#[Aa O ((r.n.log.length:Int)+1),Aa O 0,Aa O r.n.nw,Aa O r.n.nw]:=by
 have a:∀ z,(Zw r.n.id r.n.sz.toNat z).getD (y-1).toNat 0=z:=λz=>by
  rw [leadL_D _ _ _ _ (by omega)];unfold lv;rw [ifo]
 unfold pgC Z2l;simp only [a]
theorem Z5y (id:Int)(y:Int):∀ k:Nat,y∈oth id k↔(1<=y/\y<=k/\y≠id)
 | 0=>by
  simp only [oth,List.not_mem_nil,false_iff];omega
 | k+1=>by
  rw [oth];split
  ·rename_i h
   rw [Z5y id y k]
   push_cast
   omega
  ·rename_i h
   rw [Cc,Z5y id y k,Bd]
   push_cast
   omega
theorem Z49 (id:Int):∀ k:Nat,(oth id k).Nodup
 | 0=>.nil
 | k+1=>by
  rw [oth];split
  ·exact Z49 id k
  ·refine List.nodup_append.2 ⟨Z49 id k,by simp,λa ha c hc=>?_⟩
   rw [Bd] at hc;have:=(Z5y id a k).1 ha;omega
theorem infoPg:(Tryz.prog.info? 124).map (·.size)=Ac 4:=by kernel_rfl
theorem lead_any (b:Nat)(r:Rn)(x:CV)(w:Ag)(B:Nat)(h:Z9 w B b r x)(am:r.n.ro≠3)(hb:NdB r.n)(hl:x.L.length<=900) :
  Ar Ad 171 #[Ae (Ac ⟨b,0,Ab⟩)] w λe w'=>e=Aj (.tuple #[])/\∃ x',Z9 w' B b r.lead x'/\Tch b w x w' x':=by
 have i0:=h.ci.id0;have i1:=h.ci.id1;have z0:=h.ci.sz0;have z1:=h.ci.sz1;have b2:=hb.ln;obtain ⟨N,hN⟩:∃ N:Nat,r.n.sz=(N:Int):=⟨r.n.sz.toNat,by omega⟩;have a7:r.n.sz.toNat=N:=by omega
 have t:Ah ((oth r.n.id N).length=N-1):=by have h9:=Z2y r.n.id r.n.sz i0 i1;rw [a7] at h9;exact h9
 have ae:=Z0 λy=>Z5y r.n.id y N
 have aw:=Z0 (Z49 r.n.id N);have a1:=Z0 λy hy=>by have:=(ae y).1 hy;exact leadM_pg r y (by omega) (by omega) (by omega)
 obtain ⟨f1,f2,f3,f4,f5⟩:=h.bf;have f6:=h.entB;have c6:w.cell? ⟨b,6,Ab⟩=Ac (Aa O r.n.ro):=h.blk.cell 6;have g6:=h.blk.free 6;have c7:w.cell? ⟨b,7,Ab⟩=Ac (Aa O r.n.ld):=h.blk.cell 7;have g7:=h.blk.free 7;have c0:w.cell? ⟨b,0,Ab⟩=Ac (Aa O r.n.id):=h.blk.cell 0;have ao:Ah (Blk ((w.setCell ⟨b,6,Ab⟩ (Aa O 3)).setCell ⟨b,7,Ab⟩ (Aa O r.n.id)) b (crC (Z2l r) x) 80):=(h.blk.set 6 _).set 7 _;have bi:Ah (∀ k,k≠b->k<w.heap.size->((w.setCell ⟨b,6,Ab⟩ (Aa O 3)).setCell ⟨b,7,Ab⟩ (Aa O r.n.id)).heap[k]? = w.heap[k]?):=Xo (b:=b) (Xo (b:=b) (Z4d w b) 6 _) 7 _;have b7:Ah (Tch b w x ((w.setCell ⟨b,6,Ab⟩ (Aa O 3)).setCell ⟨b,7,Ab⟩ (Aa O r.n.id)) x):=(Tch.set b w x 6 _).trans (Tch.set b _ x 7 _);have bw:=Z0 (h.gm.keep (bi _ f1 h.gm.lt));have ch:Ah (((w.setCell ⟨b,6,Ab⟩ (Aa O 3)).setCell ⟨b,7,Ab⟩ (Aa O r.n.id)).heap.size=w.heap.size):=by simp [Ah,World.setCell]
 have cp:Ah (∀ w2,Blk w2 b (crC (Z2l r) x) 80->IM unV w2 x.gm (λ_=>(Ab:Option Unit))->(∀ k,k≠b->k≠x.gm->k<w.heap.size->w2.heap[k]? = w.heap[k]?)->Z1y w2 B b (Z2l r) x []):=λw2 hb2 ag hk2=>by
  refine ⟨hb2,h.lo,h.log.block λk e=>hk2 k (f4 k e).1 (f4 k e).2.1 (Aq h.log.2 k e).2,ag,h.gml,h.pm.keep (hk2 _ f2 h.gp.symm h.pm.lt),h.pml,h.gp,λy q e=>?_,h.pi,λy=>?_,h.out.block λk e=>hk2 k (f5 k e).1 (f5 k e).2.1 (h.out.lts k e).2,h.outC,λp hp=>(h.ents p hp).block λk e=>hk2 k (f6 p hp k e).1 (f6 p hp k e).2.1 (Aq (h.ents p hp).2 k e).2,h.apE,leadM_ci h.ci⟩
  ·exact absurd ((h.pk y).1 (by rw [e];rfl)).1 am
  ·constructor
   ·intro e;cases e
   ·intro e;exact absurd ((h.pk y).1 e).1 am
 have al:=Z0 (leadG_eq r);have aj:Ah (LdB (Z3r r).n (Z3r r).n.sz.toNat/\NdB (Z3r r).n):=Z8i r hb;have a6:=Z0 h.ci;have HN:=Z0 hN;have dc:3<=N:=by omega
 have c8:N<=7:=by omega
 obtain ⟨LN,ar⟩:=exq (r.n.log.length);rw [<-ar] at a1 b2;have ac:=Z0 ar;clear ar;rw [al.out];generalize r.lead=RLd at *;clear h hb f3 f4 f5 f6 hN a7 i0 i1 z0 z1 am;go_enter func171,ntmps171
 go_upto_region 1 with fail
 generalize (w.setCell ⟨b,6,Ab⟩ (Aa O 3)).setCell ⟨b,7,Ab⟩ (Aa O r.n.id)=w1 at *;have bp:w1.cell? ⟨b,18,Ab⟩=Ac (.map (Ac x.gm)):=ao.cell 18;clear c6 g6 c7 g7 c0
 go_upto_region 2 with (refine Z5l _ _ rfl ?_;refine Z4m _ rfl _ 77 rfl 121 underlying77 x.gm rfl bw ?_;intro w2 ag aa cr;have af:=Z0 (cp w2 (ao.keep (aa.block b ao.lt (λe=>f1 (by injection e with e;exact e.symm)))) ag (λk h1 h2 h3=>(aa.block k (by have:=ch.out;omega) (λe=>h2 (by injection e with e))).trans (bi k h1 h3)));have co:=Z0 (b7.trans (Tch.of x aa (.inr (.inl rfl))));clear ag aa cr)
 have bo:=Z0 (Z6y b r.n.id N w2 (af.blk.cell 0) (by rw [<-HN.out];exact af.blk.cell 1) af.blk.lt a6.id0 (by rw [<-HN.out];exact a6.id1));clear bp
 go_wp2_with (first
  |(go_at_call 81;refine Am bo ?_;rintro e w3 ⟨oa,oc,rfl,bh,az⟩;have cg:=Z0 bh;have be:=Z0 az;clear bh az))
 go_loopw [3,24] (λsj iv wr=>∃(i:Nat) (m:CV),i<=N-1/\iv=Aa O (i:Int)/\m.L=x.L/\Z1y wr B b (Z2l r) m ((oth r.n.id N).take i)/\Tch b w x wr m/\Zc inC 1 3 wr w2.heap.size (I oa (N-1) oc) (oth r.n.id N)) (λ_ iv _=>N-(RowKit.intOf iv).toNat)
 case atStart=>exact ⟨0,x,by omega,rfl,rfl,af.below be,co.tail be,cg.out⟩
 case round=>
  obtain ⟨i,m,hi,rfl,a2,u,hT,hO⟩:=hrel;obtain ⟨a,av⟩:=exq (wr);rw [<-av] at u hT hO;subst av;have HC:=Z0 u;have HT:=Z0 hT;have HO:=Z0 hO;by_cases cv:i<N-1
  ·obtain ⟨g,cq,rfl,hc⟩:=in_at HO.out (by rw [t.out];omega) i (by rw [t.out];omega)
   have cx:=(ae _).1 (Bp (l:=oth r.n.id N) (n:=i) (by rw [t.out];omega));have a4:=a1.out _ (Bp (l:=oth r.n.id N) (n:=i) (by rw [t.out];omega));have bq:=Z0 (List.take_succ_eq_append_getElem (by rw [t.out];omega))
   have ca:Ah ((oth r.n.id N)[i]'(by rw [t.out];omega) ∉ (oth r.n.id N).take i):=by
    intro hm;obtain ⟨j,hj,e⟩:=List.mem_iff_getElem.1 hm;rw [List.getElem_take] at e;have h9:=(List.getElem_inj aw).1 e;rw [List.length_take] at hj;omega
   have bb:Ah (((oth r.n.id N).take i).Nodup/\((oth r.n.id N).take i).length<1000000):=⟨aw.sublist (List.take_sublist _ _),by rw [List.length_take];omega⟩;have bv:decide ((i:Int)<((N-1:Nat):Int))=true:=decide_eq_true (by omega);have h1:(i:Int)<((N-1:Nat):Int):=by omega
   obtain ⟨la,lc,ab⟩:=u.log.shape;have c:m.vl=I la LN lc:=by rw [ac.out];exact ab
   have e12:a.cell? ⟨b,12,Ab⟩=Ac (I la LN lc):=by rw [<-c];exact u.blk.cell 12
   have e19:a.cell? ⟨b,19,Ab⟩=Ac (.map (Ac m.pm)):=u.blk.cell 19;have e9:a.cell? ⟨b,9,Ab⟩=Ac (Aa O r.n.nw):=u.blk.cell 9;have a9:=u.blk.lt;have cw:IntKind.i64.wrap ((LN:Int)+1)=(LN:Int)+1:=wry
   generalize (oth r.n.id N)[i]'(by rw [t.out];omega)=y at *;have bn:Ah _:=a4;have b8:=wf3 (x:=y) (by omega) (by omega)
   clear u hT hO ab c a4
   go_upto_region 5 with fail
   clear hc;have an:Ah (Z1y ((a.alloc (At #[Aa O ((LN:Int)+1),Aa O 0,Aa O r.n.nw,Aa O r.n.nw] 124)).drew) B b (Z2l r) m ((oth r.n.id N).take i)):=HC.below (Below.alloc0 _).drew
   have bm:Ah (∀ w5,((a.alloc (At #[Aa O ((LN:Int)+1),Aa O 0,Aa O r.n.nw,Aa O r.n.nw] 124)).drew).grownBy w5 (Ac m.pm)->IM ptV w5 m.pm (λd=>if d=y then Ac a.heap.size else m.f d)->Z1y w5 B b (Z2l r) { m with f:=λd=>if d=y then Ac a.heap.size else m.f d } ((oth r.n.id N).take (i+1))/\Tch b a m w5 { m with f:=λd=>if d=y then Ac a.heap.size else m.f d }):=λw5 hg hp=>by
    rw [bq.out];exact HC.put (Below.alloc0 _).drew (by rw [bn.out];exact (Blk.new _ _ _).drew) (Ao _) (Ap HC.lo (Be HC.blk.lt)) hg hp ca
   have bx:Ah (∀ w5,((a.alloc (At #[Aa O ((LN:Int)+1),Aa O 0,Aa O r.n.nw,Aa O r.n.nw] 124)).drew).grownBy w5 (Ac m.pm)->Zc inC 1 3 w5 w2.heap.size (I (Ac ⟨g,cq,Ab⟩) (N-1) oc) (oth r.n.id N)):=λw5 hg=>by
    have h9:=HO.below (Below.alloc0 (w:=a) (At #[Aa O ((LN:Int)+1),Aa O 0,Aa O r.n.nw,Aa O r.n.nw] 124)).drew;refine h9.block λk e=>hg.block k (h9.lts k e).2 ?_
    intro e2;injection e2 with e2;subst e2;obtain ⟨c1,s,hk⟩:=Z3g h9 e;obtain ⟨pe,pc,br⟩:=an.pm.obj;exact hmap hk br
   obtain ⟨w5,aq,bj,ak⟩:=run_imput (vl:=ptV) (f:=m.f) _ 78 126 underlying78 m.pm an.pm _ bb.1 an.pk bb.2 y b8 a.heap.size;unfold ptV at aq;obtain ⟨bk,a0⟩:=bm.out w5 ak bj;have bu:Ah _:=bk;have cn:Ah _:=HT.trans a0;have cj:Ah _:=bx.out w5 ak;clear bj ak bk a0
   go_region
   all_goals go_wp2_with fail
   all_goals (
    go_roundw
    case rel=>exact ⟨i+1,{ m with f:=λd=>if d=y then Ac a.heap.size else m.f d },by omega,by go_num,a2,bu.out,cn.out,cj.out⟩
    case measure=>simp [RowKit.intOf];omega)
  ·obtain rfl:i=N-1:=by omega
   have bv:decide (((N-1:Nat):Int)<((N-1:Nat):Int))=false:=decide_eq_false (by omega)
   have ad:=Z0 (u.at' λy=>by
    rw [List.take_of_length_le (by rw [t.out];omega),ae.out y];show _↔((3:Int)=3/\1<=y/\y<=r.n.sz/\y≠r.n.id);rw [HN.out];simp)
   obtain ⟨la,lc,ab⟩:=u.log.shape;have c:m.vl=I la LN lc:=by rw [ac.out];exact ab
   have e12:a.cell? ⟨b,12,Ab⟩=Ac (I la LN lc):=by rw [<-c];exact u.blk.cell 12
   have e4:a.cell? ⟨b,4,Ab⟩=Ac (Aa O r.n.tm):=u.blk.cell 4;have a9:=u.blk.lt;have ax:Ah (m.L.length<=900):=by unfold Ah;rw [a2];exact hl
   have cy:=Ap u.lo (Be u.blk.lt);have ce:=Z0 c;have a5:=Z0 λz x9 hz hx=>Z77 b (Z3r r) x9 z B hz rfl aj.1 aj.2.ln hx
   by_cases hf:LN<4096
   ·have bz:decide ((LN:Int)<4096)=true:=decide_eq_true (by omega)
    have b6:(LN:Int)<4096:=by omega
    have a8:Ah (∀ w5 w6 v,Ai a.heap.size a w5->Zc Ent.cells 7 118 w6 B v (r.n.log ++ [e0 r.n.tm])->Ye w5 (I la LN lc) w6 v->Z9 (w6.setCell ⟨b,12,Ab⟩ v) B b (Z3r r) { m with vl:=v }/\Tch b a m (w6.setCell ⟨b,12,Ab⟩ v) { m with vl:=v }):=λw5 w6 v h5 ho hg=>by
     have au:Z3r r={ Z2l r with n:={ (Z2l r).n with log:=r.n.log ++ [e0 r.n.tm] } }:=by
      unfold Z3r;rw [if_pos (by have:=ac.out;omega)]
     rw [au];refine ad.logAt h5 (Zc.e ho ?_) (by rw [ce.out];exact hg);intro e he;rcases List.mem_append.1 he with he | he
     ·exact ad.log.1 e he
     ·rw [Bd] at he
      subst he;exact ⟨Bb _,Bb _,Bb _⟩
    have ba:Ah (Zc Ent.cells 7 118 a B (I la LN lc) r.n.log):=by unfold Ah;rw [<-c];exact ad.log.g
    have ay:=Z0 ad.blk;have b3:=Z0 λe=>Zm ba ay.out (by decide) b e rfl
    have b0:Ah (r.n.log.length<=1000000):=by have:=ac.out;unfold Ah;omega
    have cd:Ah ((r.n.log ++ [e0 r.n.tm]).length=LN+1):=by unfold Ah;rw [Bc,List.length_singleton,ac.out]
    have pa:∀(o:Obj) (j:Nat),(a.alloc o).cell? ⟨b,j,Ab⟩=a.cell? ⟨b,j,Ab⟩:=λo j=>World.cell?_alloc_lt _ _ _ (by show b<a.heap.size;omega)
    clear u hT hO ab c
    go_upto_region 8 with fail
    go_region_law
     (refine Z00 entLaw rfl _ _ rfl (e0 r.n.tm) (Zc.below (Zc.below ba ((An _ _).drew)) baq) rfl _ 1 (Z04 a.drew _ 118) rfl b0 (by simp;omega) ?_;intro v3 w3 ai ah;have db:=Z0 ai;obtain ⟨a3,c3,bd⟩:=ai.shape;rw [cd.out] at bd;have cz:Ah (Ye _ (I la LN lc) w3 v3):=ah;have bc:=Z0 ((ay.out.drew.alloc _).keep (ah.g.block _ (by simp;omega) (λe=>b3 e.symm)));obtain ⟨vq,c4⟩:∃ vq,w3.cell? ⟨b,12,Ab⟩=Ac vq:=⟨_,bc.out.cell 12⟩;have pf:=bc.out.free;subst bd;have bg:Ah _:=a8.out _ _ _ ((An _ _).drew.alloc (Ao _) _) ai ah;clear ai ah)
    all_goals go_wp2_with (first
     |(go_at_call 137;refine Am (a5 _ _ bg.1 ax) ?_;rintro e w8 ⟨rfl,x8,h8,t8⟩;have H8:Ah _:=h8;have T8:=Z0 ((HT.trans bg.2).trans t8);clear h8 t8))
    all_goals (
     (try simp only [Av,Exit.then])
     exact bodyPost_end (Au rfl _ _ _) rfl ⟨rfl,_,H8.out,T8.out⟩)
   ·have bz:decide ((LN:Int)<4096)=false:=decide_eq_false (by omega)
    have b6:¬(LN:Int)<4096:=by omega
    have cc:Ah (Z9 a B b (Z3r r) m):=by
     have au:Z3r r=Z2l r:=by
      unfold Z3r;rw [if_neg (by have:=ac.out;omega)];rfl
     unfold Ah;rw [au];exact ad
    clear u hT hO ab c
    go_wp2_with (first
     |(go_at_call 137;refine Am (a5 _ _ cc ax) ?_;rintro e w8 ⟨rfl,x8,h8,t8⟩;have H8:Ah _:=h8;have T8:=Z0 (HT.trans t8);clear h8 t8))
    (try simp only [Av,Exit.then])
    exact bodyPost_end (Au rfl _ _ _) rfl ⟨rfl,_,H8.out,T8.out⟩
end Go.Proofs.YtmmpoppgabadmaaGreat
namespace Go.Proofs.YtmmpoppgabadmaaGreat
open Go.Proofs.Tryz
open Go.RowKit Go.Maps
variable {w:Ag}{B b:Nat}{r:Rn}{x:CV}
theorem Z9.keepAll {w':Ag}(h:Z9 w B b r x)(a:∀ k,x.has b k->w'.heap[k]? = w.heap[k]?)(c:∀ p∈x.L,∀ k,p.v.ownBlock=Ac k->w'.heap[k]? = w.heap[k]?):Z9 w' B b r x:=
 ⟨h.blk.keep (a _ (.inl rfl)),h.lo,h.log.block λk e=>a k (.inr (.inr (.inr (.inr (.inl e))))),h.gm.keep (a _ (.inr (.inl rfl))),h.gml,h.pm.keep (a _ (.inr (.inr (.inl rfl)))),h.pml,h.gp,λy q e=>⟨(h.pf y q e).1.keep (a q (.inr (.inr (.inr (.inl ⟨y,e⟩))))),(h.pf y q e).2⟩,h.pi,h.pk,h.out.block λk e=>a k (.inr (.inr (.inr (.inr (.inr e))))),h.outC,λp hp=>(h.ents p hp).block λk e=>c p hp k e,h.apE,h.ci⟩
theorem Z9.codeQ (h:Z9 w B b r x)(c:Int):Z9 w B b { r with code:=c } x:=
 h.re (r':={ r with code:=c }) (kp':=x.kp) h.blk (λ_ _ _=>rfl) rfl rfl rfl rfl rfl rfl rfl rfl rfl Iff.rfl
theorem Z8l (b:Nat)(r:Rn)(x:CV)(m:Mg)(ea:Option B4)(en ec:Nat)(w:Ag)(B:Nat)(h:Z9 w B b r x)(hc:r.code=0)(hl:x.L.length<=900)(hb:NdB r.n) :
  Ar Ad 130 #[Ae (Ac ⟨b,0,Ab⟩),Aw (m.arrC (I ea en ec))] w λe w'=>e=Aj (Aa O (r.preAsk m).code)/\∃ x',Z9 w' B b (r.preAsk m) x'/\Tch b w x w' x':=by
 obtain ⟨W,hW⟩:=exq (w.alloc (At (m.arrC (I ea en ec)) 43));have ag:Ah (Ai w.heap.size w W):=hW▸Below.alloc0 _
 have au:Ah (Blk W w.heap.size (m.arrC (I ea en ec)) 43):=hW▸Blk.new _ _ _
 have ar:=Z0 (h.below ag);have a3:=hb.ln;have aa:=Z0 (loyal_any b r x W B ar hb.nw0 hb.nw1 hb.hd0 hb.hd1);have an:Ah (∀ z,Ai W.heap.size W z->Z9 z B b r x/\Ai w.heap.size w z/\Blk z w.heap.size (m.arrC (I ea en ec)) 43):=λz hz=>⟨ar.below hz,ag.trans (hz.mono ag.size),au.below hz au.lt⟩
 clear h;cases ab:Z8u r.n
 ·rw [ab] at aa
  have HQ:Ah (r.preAsk m=if r.n.tm<m.tm/\utd r.n.log m=true then r.send ⟨2,0,m.fr,m.tm,0,0,0,1,0,[]⟩ else r.send ⟨2,0,m.fr,r.n.tm,0,0,0,0,0,[]⟩):=by unfold Ah Rn.preAsk;rw [ab,ifd]
  have HK:Ah ((r.preAsk m).code=0):=by unfold Ah;rw [HQ.out];split <;> exact hc
  have ao:=Z0 λz t k (hz:Z9 z B b r x)=>Z2x b r x ⟨2,0,0,t,0,0,0,k,0,[]⟩ m.fr Ab 0 z B hz (Zh.nil _ _) (λk e=>by cases e)
  rw [HK.out];clear HK;generalize r.preAsk m=RP at *;go_enter func130,ntmps130
  go_upto_region 1 with fail
  rw [<-hW];clear hW
  go_upto_region 3 with (first
   |(go_at_call 163;refine Am aa ?_;rintro e a ⟨rfl,q⟩;have j:Ah _:=an.out a q;have a9:=Z0 q;have d4:=j.1.c4;clear q))
  go_upto_region 4 with fail
  obtain ⟨V,hV⟩:=exq (a.alloc (At (mqN 2 0 0 r.n.tm 0 0 0 0 0 (I Ab 0 0)) 43));rw [<-hV];have y:Ah (Ai a.heap.size a V):=hV▸Below.alloc0 _
  have av:Ah (Blk V a.heap.size (mqN 2 0 0 r.n.tm 0 0 0 0 0 (I Ab 0 0)) 43):=hV▸Blk.new _ _ _
  clear hV;have aj:=Z0 (j.1.below y);have o:=Z0 (j.2.2.below y j.2.2.lt);have a6:=j.2.2.lt;have q3:∀ u:BW V,u.w.cell? ⟨w.heap.size,3,Ab⟩=Ac (Aa O m.tm):=λu=>(o.below u.h o.lt).cell 3
  have q4:=λu:BW V=>(aj.below u.h).c4
  have qm:∀ u:BW V,Sem.run Ad (loadVar 43 ⟨w.heap.size,0,Ab⟩) u.w=.ok (Aw (m.arrC (I ea en ec))) u.w:=λu=>Z0e (o.below u.h o.lt) 43 underlying43 rfl Yc
  have a0:Nonempty (BW V):=⟨⟨V,An _ _⟩⟩;have ax:=Z0 λz hz=>Z5u b r x m ea en ec z B (aj.below hz) a3
  clear d4
  (try go_frame)
  obtain ⟨VB,ay⟩:=exq ((decide (r.n.tm<m.tm) && utd r.n.log m));have l:=Z0 ay;clear ay
  go_cut [26] (λs z=>s=.bool VB/\Ai V.heap.size V z)
  case first=>
   by_cases h1:r.n.tm<m.tm
   ·have ae:=decide_eq_true h1
    refine rqx ?_
    repeat (first | (go_big_quiet_want;refine Jp (W:=V) 43 (.tmp 3) rfl rfl qm ?_;go_big_quiet_on;simp only [Act.put,Bj,By,Bt]) | go_big_quiet_step ((go_at_call 164;exact bwx (ax _ (BW.h _)))))
    refine wpQuiet_nil ?_;intro w5 f
    go_wp2_with fail
    go_meet;exact ⟨by rw [l.out,ae];simp,f⟩
   ·have ae:=decide_eq_false h1
    refine rqx ?_
    repeat go_big_quiet_step (fail)
    refine wpQuiet_nil ?_;intro w5 f
    go_wp2_with fail
    go_meet;exact ⟨by rw [l.out,ae];simp,f⟩
  case rest=>
   obtain ⟨rfl,d⟩:=hcut;obtain ⟨v,aw⟩:=exq (wc);rw [<-aw] at d;subst aw;have al:=Z0 (aj.below d);have ah:=Z0 (o.below d o.lt);have i:=Z0 (av.below d av.lt);have g:Ah (Tch b w x v x):=Tch.below0 _ _ ((j.2.1.trans (y.mono j.2.1.size)).trans (d.mono (by have:=y.size;omega)));have p1:v.cell? ⟨w.heap.size,1,Ab⟩=Ac (Aa O m.fr):=ah.cell 1;have p3:v.cell? ⟨w.heap.size,3,Ab⟩=Ac (Aa O m.tm):=ah.cell 3;have r3:v.cell? ⟨a.heap.size,3,Ab⟩=Ac (Aa O r.n.tm):=i.cell 3;have r7:v.cell? ⟨a.heap.size,7,Ab⟩=Ac (Aa O 0):=i.cell 7;have bb:=i.free 3;have ba:=i.free 7;have aq:¬ w.heap.size=a.heap.size:=by omega
   clear q3 q4 qm a0 ax d;have G1:=Z0 trivial;by_cases hv:VB=true
   ·have ac:=Z0 (HQ.trans (if_pos (by have h9:=l.out;rw [hv] at h9;simpa using h9.symm)))
    rw [hv];have a2:Ah (Blk ((v.setCell ⟨a.heap.size,3,Ab⟩ (Aa O m.tm)).setCell ⟨a.heap.size,7,Ab⟩ (Aa O 1)) a.heap.size (mqN 2 0 0 m.tm 0 0 0 1 0 (I Ab 0 0)) 43):=(i.set 3 _).set 7 _;have az:Ah (Blk ((v.setCell ⟨a.heap.size,3,Ab⟩ (Aa O m.tm)).setCell ⟨a.heap.size,7,Ab⟩ (Aa O 1)) w.heap.size (m.arrC (I ea en ec)) 43):=(ah.set_other _ aq).set_other _ aq;have ak:=j.1.hasnt_new (Ao _)
    have am:Ah (Z9 ((v.setCell ⟨a.heap.size,3,Ab⟩ (Aa O m.tm)).setCell ⟨a.heap.size,7,Ab⟩ (Aa O 1)) B b r x/\Tch b w x ((v.setCell ⟨a.heap.size,3,Ab⟩ (Aa O m.tm)).setCell ⟨a.heap.size,7,Ab⟩ (Aa O 1)) x):=by
     have ad:∀ k,k≠a.heap.size->((v.setCell ⟨a.heap.size,3,Ab⟩ (Aa O m.tm)).setCell ⟨a.heap.size,7,Ab⟩ (Aa O 1)).heap[k]? = v.heap[k]?:=λk hk=>(Ak _ _ _ _ hk).trans (Ak _ _ _ _ hk)
     refine ⟨al.keepAll (λk hk=>ad k (λe=>ak (e ▸ hk))) (λp hp k e=>ad k (λe2=>by have:=(Aq (j.1.ents p hp).2 k e).2;omega)),⟨g.os,g.tape,g.output,by have:=g.size;simp [World.setCell];omega,λk hk hn=>(ad k (by omega)).trans (g.block k hk hn),g.at'⟩⟩
    clear HQ hv ak l
    go_upto_region 6 with fail
    generalize (v.setCell ⟨a.heap.size,3,Ab⟩ (Aa O m.tm)).setCell ⟨a.heap.size,7,Ab⟩ (Aa O 1)=w7 at *;have s1:w7.cell? ⟨w.heap.size,1,Ab⟩=Ac (Aa O m.fr):=az.cell 1
    go_wp2_with (first
     |(have af:=G1;refine Zd 43 (.tmp 5) rfl ?_;clear af;refine Z7 rfl 43 (.tmp 5) rfl a.heap.size rfl a2 underlying43 rfl Yc rfl ?_;clear G1)
     |(go_at_call 165;refine Am (ao _ _ _ am.1) ?_;rintro e w8 ⟨rfl,v8,y8,h8,t8⟩;have H8:Ah (Z9 w8 B b RP (x.sent v8 y8)):=(ac.out▸h8);have T8:Ah _:=am.2.trans t8;clear h8 t8))
    go_ret;exact ⟨rfl,_,H8.out,T8.out⟩
   ·have ai:VB=false:=by simpa using hv
    have ac:=Z0 (HQ.trans (if_neg (by have h9:=l.out;rw [ai] at h9;simpa using h9.symm)));rw [ai];clear HQ hv ai l
    go_wp2_with (first
     |(have af:=G1;refine Zd 43 (.tmp 5) rfl ?_;clear af;refine Z7 rfl 43 (.tmp 5) rfl a.heap.size rfl i underlying43 rfl Yc rfl ?_;clear G1)
     |(go_at_call 165;refine Am (ao _ _ _ al) ?_;rintro e w8 ⟨rfl,v8,y8,h8,t8⟩;have H8:Ah (Z9 w8 B b RP (x.sent v8 y8)):=(ac.out▸h8);have T8:Ah _:=g.trans t8;clear h8 t8))
    go_ret;exact ⟨rfl,_,H8.out,T8.out⟩
 ·rw [ab] at aa
  have HQ:Ah (r.preAsk m={ r with code:=2 }):=by unfold Ah Rn.preAsk;rw [ab,if_pos rfl]
  rw [HQ.out];go_enter func130,ntmps130
  go_upto_region 1 with fail
  rw [<-hW];clear hW
  go_wp2_with (first
   |(go_at_call 163;refine Am aa ?_;rintro e a ⟨rfl,q⟩;have j:Ah _:=an.out a q;clear q))
  go_ret;exact ⟨rfl,x,j.1.codeQ 2,Tch.below0 _ _ j.2.1⟩
end Go.Proofs.YtmmpoppgabadmaaGreat
namespace Go.Proofs.YtmmpoppgabadmaaGreat
open Go.Proofs.Tryz
open Go.RowKit Go.Maps
variable {b:Nat}{w w':Ag}{x:CV}
theorem Tch.hasnt {a:CV}(h:Tch b w x w' a){k:Nat}(d:k<w.heap.size)(c:¬ x.has b k):¬ a.has b k:=λe=>(h.at' k e).elim c (λe2=>by omega)
theorem Tch.one (q:Nat)(f:w.heap.size<=q)(h:w.heap.size<=w'.heap.size)(d:w'.os=w.os)(c:w'.tape=w.tape)(e:w'.output=w.output)(a:∀ k,k<w.heap.size->w'.heap[k]? = w.heap[k]?):Tch b w x w' x:=⟨d,c,e,h,λk h _=>a k h,λk a=>.inl a⟩
variable {B:Nat}{r:Rn}
theorem Z9.setOut (h:Z9 w B b r x)(q i:Nat)(v:Value)(c:¬ x.has b q)(a:∀ p∈x.L,p.v.ownBlock≠Ac q):Z9 (w.setCell ⟨q,i,Ab⟩ v) B b r x:=
 h.keepAll (λk hk=>Ak _ _ _ _ (λe=>c (by simp only at e;rw [<-e];exact hk))) (λp hp k e=>Ak _ _ _ _ (λe2=>a p hp (by simp only at e2;rw [<-e2];exact e)))
theorem Z9.entNe (h:Z9 w B b r x){q:Nat}{C:Array Value}{t:TypeId}(c:Blk w q C t)(a:t≠118:=by decide):∀ p∈x.L,p.v.ownBlock≠Ac q:=λp hp e=>by
 obtain ⟨f,s,d⟩:=Z0o (h.ents p hp) e;exact a (Xc c d)
theorem Z78 (r:Rn)(t:Int):(r.higher t).code=r.code:=by
 unfold Rn.higher;split
 ·exact (adopt_n r t).2.2.2.2.2.2.2.2.2.2.2.2.2.2
 ·rfl
theorem Z7h (b:Nat)(r:Rn)(x:CV)(m:Mg)(ea:Option B4)(en ec:Nat)(w:Ag)(B:Nat)(h:Z9 w B b r x)(hc:r.code=0)(hl:x.L.length<=900)(hb:NdB r.n)(hd : -(2^63)<=r.draw)(hD:r.draw<2^63) :
  Ar Ad 132 #[Ae (Ac ⟨b,0,Ab⟩),Aw (m.arrC (I ea en ec))] w λe w'=>e=Aj (Aa O (r.voteAsk m).code)/\∃ x',Z9 w' B b (r.voteAsk m) x'/\Tch b w x w' x':=by
 obtain ⟨W,hW⟩:=exq (w.alloc (At (m.arrC (I ea en ec)) 43));have ak:Ah (Ai w.heap.size w W):=hW▸Below.alloc0 _
 have al:Ah (Blk W w.heap.size (m.arrC (I ea en ec)) 43):=hW▸Blk.new _ _ _
 have ax:=Z0 (h.below ak);have ah:=Z0 (loyal_any b r x W B ax hb.nw0 hb.nw1 hb.hd0 hb.hd1);have bb:=Z0 (h.hasnt_new (Ao _));have ae:Ah (∀ z,Ai W.heap.size W z->Z9 z B b r x/\Tch b W x z x/\Blk z w.heap.size (m.arrC (I ea en ec)) 43):=λz j=>⟨ax.below j,Tch.below0 _ _ j,al.below j al.lt⟩
 have bw:=Z0 λz x' (p:Tch b W x z x')=>p.blk al bb
 clear h;cases aj:Z8u r.n
 ·rw [aj] at ah
  obtain ⟨a,v⟩:=exq (r.higher m.tm);have HQ:Ah (r.voteAsk m=if m.tm=a.n.tm/\(a.n.vo=0∨a.n.vo=m.fr)/\utd a.n.log m=true then Rn.send (Rn.timer { a.lone with n:={ a.lone.n with vo:=m.fr } }) ⟨4,0,m.fr,a.n.tm,0,0,0,1,0,[]⟩ else a.send ⟨4,0,m.fr,a.n.tm,0,0,0,0,0,[]⟩):=by unfold Ah;rw [v];unfold Rn.voteAsk;rw [aj,ifd]
  have bo:Ah (a.code=0):=by unfold Ah;rw [v,Z78];exact hc
  have HK:Ah ((r.voteAsk m).code=0):=by unfold Ah;rw [HQ.out];split <;> exact bo
  have aq:Ah (NdB a.n):=v▸hb.higher _
  have ba:Ah (a.draw=r.draw):=v▸Z2q _ _
  have ag:Ah (a=if r.n.tm<m.tm then r.adopt m.tm else r):=v;have b0:=Z0 λz j=>Z6w b r x m.tm z B (ax.below j) hd hD hb.nw0 hb.nw1
  have a7:=Z0 λz R X t k (j:Z9 z B b R X) (hX:X.L.length<=900)=>Z2x b R X ⟨4,0,0,t,0,0,0,k,0,[]⟩ m.fr Ab 0 z B j (Zh.nil _ _) (λk e=>by cases e)
  rw [HK.out];clear HK v;generalize r.voteAsk m=RP at *;go_enter func132,ntmps132
  go_upto_region 1 with fail
  rw [<-hW];clear hW
  go_upto_region 3 with (first
   |(go_at_call 163;refine Am ah ?_;rintro e w1 ⟨rfl,y⟩;have H1:Ah _:=ae.out w1 y;have bq:=Z0 y;have d4:=H1.1.c4;have n3:w1.cell? ⟨w.heap.size,3,Ab⟩=Ac (Aa O m.tm):=H1.2.2.cell 3;clear y))
  go_quiet (fail)
  obtain ⟨w2,av⟩:=exq (w1.drewN nq);have ab:Ah (Ai W.heap.size W w2):=av▸bq.trans (Y4 _ _ _)
  rw [<-av];clear av d4 n3;have n3:w2.cell? ⟨w.heap.size,3,Ab⟩=Ac (Aa O m.tm):=(ae w2 ab).2.2.cell 3
  go_upto_if 15 with fail
  go_cut [] (λz=>∃ f,Z9 z B b a f/\Tch b W x z f/\f.L=x.L)
  case first=>
   by_cases p:r.n.tm<m.tm
   ·have aa:=decide_eq_true p
    have au:=Z0 (ag.trans (if_pos p));rw [aa];clear p aa ag
    go_wp2_with (first
     |(go_at_call 170;refine Am (b0 _ ab) ?_;rintro e w3 ⟨rfl,h2,t2⟩;have H2:Ah _:=h2;have T2:=Z0 (Tch.head ab t2);clear h2 t2))
    go_meet;exact ⟨x.lone,au.out▸H2,T2.out,rfl⟩
   ·have aa:=decide_eq_false p
    have au:=Z0 (ag.trans (if_neg p));rw [aa];clear p aa ag
    go_wp2_with fail
    go_meet;exact ⟨x,au.out▸(ae w2 ab).1,Tch.below0 _ _ ab,rfl⟩
  case rest=>
   obtain ⟨f,hC,hT,hX⟩:=hcut;obtain ⟨g,a6⟩:=exq (wc);rw [<-a6] at hC hT;subst a6;have a2:=Z0 hC;have ao:=Z0 hT;have HX:=Z0 hX;have ay:=Z0 (bw g f hT);have d4:=hC.c4;have b8:=ay.lt;clear hC hT hX n3
   go_upto_region 6 with fail
   obtain ⟨V,hV⟩:=exq (g.alloc (At (mqN 4 0 0 a.n.tm 0 0 0 0 0 (I Ab 0 0)) 43));rw [<-hV];have af:Ah (Ai g.heap.size g V):=hV▸Below.alloc0 _
   have bc:Ah (Blk V g.heap.size (mqN 4 0 0 a.n.tm 0 0 0 0 0 (I Ab 0 0)) 43):=hV▸Blk.new _ _ _
   clear hV d4;have am:=Z0 (a2.below af);have i:=Z0 (ay.below af ay.lt);have q3:∀ u:BW V,u.w.cell? ⟨w.heap.size,3,Ab⟩=Ac (Aa O m.tm):=λu=>(i.below u.h i.lt).cell 3
   have q1:∀ u:BW V,u.w.cell? ⟨w.heap.size,1,Ab⟩=Ac (Aa O m.fr):=λu=>(i.below u.h i.lt).cell 1
   have q4:=λu:BW V=>(am.below u.h).c4
   have q5:=λu:BW V=>(am.below u.h).c5
   have qm:∀ u:BW V,Sem.run Ad (loadVar 43 ⟨w.heap.size,0,Ab⟩) u.w=.ok (Aw (m.arrC (I ea en ec))) u.w:=λu=>Z0e (i.below u.h i.lt) 43 underlying43 rfl Yc
   have bk:Nonempty (BW V):=⟨⟨V,An _ _⟩⟩;have a1:=Z0 λz j=>Z5u b a f m ea en ec z B (am.below j) aq.ln
   obtain ⟨VB,bi⟩:=exq (vaB a.n m);have l:=Z0 bi;clear bi
   (try go_frame)
   go_cut [56] (λs z=>s=.bool VB/\Ai V.heap.size V z)
   case first=>
    have HV:Ah (VB=((m.tm == a.n.tm) && ((a.n.vo == 0) || (a.n.vo == m.fr)) && utd a.n.log m)):=l.out;clear l;cases h1:(m.tm == a.n.tm)
    ·rw [h1] at HV
     refine rqx ?_
     repeat go_big_quiet_step (fail)
     refine wpQuiet_nil ?_;intro w5 d
     go_wp2_with fail
     go_meet;exact ⟨by rw [HV.out];rfl,d⟩
    ·cases h2:(a.n.vo == 0)
     ·cases h3:(a.n.vo == m.fr)
      ·rw [h1,h2,h3] at HV
       refine rqx ?_
       repeat go_big_quiet_step (fail)
       refine wpQuiet_nil ?_;intro w5 d
       go_wp2_with fail
       go_meet;exact ⟨by rw [HV.out];rfl,d⟩
      ·rw [h1,h2,h3] at HV
       refine rqx ?_
       repeat (first | (go_big_quiet_want;refine Jp (W:=V) 43 (.tmp 3) rfl rfl qm ?_;go_big_quiet_on;simp only [Act.put,Bj,By,Bt]) | go_big_quiet_step ((go_at_call 164;exact bwx (a1 _ (BW.h _)))))
       refine wpQuiet_nil ?_;intro w5 d
       go_wp2_with fail
       go_meet;exact ⟨by rw [HV.out];simp,d⟩
     ·rw [h1,h2] at HV
      refine rqx ?_
      repeat (first | (go_big_quiet_want;refine Jp (W:=V) 43 (.tmp 3) rfl rfl qm ?_;go_big_quiet_on;simp only [Act.put,Bj,By,Bt]) | go_big_quiet_step ((go_at_call 164;exact bwx (a1 _ (BW.h _)))))
      refine wpQuiet_nil ?_;intro w5 d
      go_wp2_with fail
      go_meet;exact ⟨by rw [HV.out];simp,d⟩
   case rest=>
    obtain ⟨rfl,o⟩:=hcut;obtain ⟨w6,bd⟩:=exq (wc);rw [<-bd] at o;subst bd;have ad:=Z0 (am.below o);have az:=Z0 (i.below o i.lt);have ac:=Z0 (bc.below o bc.lt);have an:Ah (Tch b g f w6 f):=Tch.below0 _ _ (af.trans (o.mono af.size));have a4:=Z0 (a2.hasnt_new (Ao _));have bp:¬ w.heap.size=g.heap.size:=by omega
    have p1:w6.cell? ⟨w.heap.size,1,Ab⟩=Ac (Aa O m.fr):=az.cell 1;have a3:=Z0 (ao.hasnt al.lt bb);have bg:Ah (f.L.length<=900):=HX.out▸hl
    clear q3 q1 q4 q5 qm bk a1 o;have G1:=Z0 trivial;by_cases hv:VB=true
    ·have ar:=Z0 (HQ.trans (if_pos ((vaB_iff _ _).1 (l.symm.trans hv))))
     rw [hv];have c5:=ad.c5;have f5:=ad.blk.free 5;have bm:Ah (Z9 (w6.setCell ⟨b,5,Ab⟩ (Aa O m.fr)) B b { a with n:={ a.n with vo:=m.fr } } f):=ad.set 5 _ rfl rfl rfl rfl rfl rfl rfl rfl rfl rfl Iff.rfl;have b2:Ah (Tch b w6 f (w6.setCell ⟨b,5,Ab⟩ (Aa O m.fr)) f):=Tch.set _ _ _ _ _;have br:Ah (Ar Ad 155 #[Ae (Ac ⟨b,0,Ab⟩),Aa O 0] (w6.setCell ⟨b,5,Ab⟩ (Aa O m.fr)) λe w'=>e=Aj (.tuple #[])/\Z9 w' B b { a.lone with n:={ a.lone.n with vo:=m.fr } } f.lone/\Tch b (w6.setCell ⟨b,5,Ab⟩ (Aa O m.fr)) f w' f.lone):=Z2c b _ f 0 _ B bm;have bz:=Z0 λz (j:Z9 z B b { a.lone with n:={ a.lone.n with vo:=m.fr } } f.lone)=>Z09 b _ f.lone z B j (by rw [show ({ a.lone with n:={ a.lone.n with vo:=m.fr } } : Rn).draw=a.draw from rfl,ba.out];exact hd) (by rw [show ({ a.lone with n:={ a.lone.n with vo:=m.fr } } : Rn).draw=a.draw from rfl,ba.out];exact hD) aq.nw0 aq.nw1
     have b3:Ah (∀ z X,Tch b w6 f z X->Blk z g.heap.size (mqN 4 0 0 a.n.tm 0 0 0 0 0 (I Ab 0 0)) 43/\Blk z w.heap.size (m.arrC (I ea en ec)) 43/\¬ X.has b g.heap.size/\¬ X.has b w.heap.size):=λz X p=>⟨p.blk ac a4,p.blk az a3,p.hasnt ac.lt a4,p.hasnt az.lt a3⟩
     generalize Rn.timer { a.lone with n:={ a.lone.n with vo:=m.fr } }=RT at *;generalize ({ a.lone with n:={ a.lone.n with vo:=m.fr } } : Rn)=RL at *;clear HQ hv l
     go_upto_region 10 with (first
      |(go_at_call 155;refine Am br ?_;rintro e w7 ⟨rfl,h7,t7⟩;have H7:Ah _:=h7;have T7:=Z0 (b2.trans t7);clear h7 t7)
      |(go_at_call 156;refine Am (bz _ H7) ?_;rintro e w8 ⟨rfl,h8,t8⟩;have H8:=Z0 h8;have T8:=Z0 (T7.out.trans t8);obtain ⟨ai,a9,bh,bu⟩:=b3.out w8 _ T8.out;have a8:=Z0 ai;have bn:=Z0 a9;have bv:=Z0 bh;have r7:w8.cell? ⟨g.heap.size,7,Ab⟩=Ac (Aa O 0):=ai.cell 7;have b7:=ai.free 7;clear h8 t8 ai a9 bh bu))
     have bx:Ah (Blk (w8.setCell ⟨g.heap.size,7,Ab⟩ (Aa O 1)) g.heap.size (mqN 4 0 0 a.n.tm 0 0 0 1 0 (I Ab 0 0)) 43):=a8.set 7 _;have bj:Ah (Blk (w8.setCell ⟨g.heap.size,7,Ab⟩ (Aa O 1)) w.heap.size (m.arrC (I ea en ec)) 43):=bn.set_other _ bp
     have a5:Ah (Z9 (w8.setCell ⟨g.heap.size,7,Ab⟩ (Aa O 1)) B b RT f.lone/\Tch b g f (w8.setCell ⟨g.heap.size,7,Ab⟩ (Aa O 1)) f.lone):=by
      have q:=an.trans T8.out;refine ⟨H8.setOut _ 7 _ bv (H8.entNe a8),⟨q.os,q.tape,q.output,by have:=q.size;simp [World.setCell];omega,λk hk hn=>(Ak _ _ _ _ (by simp only;omega)).trans (q.block k hk hn),q.at'⟩⟩
     go_upto_region 11 with fail
     generalize w8.setCell ⟨g.heap.size,7,Ab⟩ (Aa O 1)=w9 at *;have s1:w9.cell? ⟨w.heap.size,1,Ab⟩=Ac (Aa O m.fr):=bj.cell 1
     go_wp2_with (first
      |(have aw:=G1;refine Zd 43 (.tmp 5) rfl ?_;clear aw;refine Z7 rfl 43 (.tmp 5) rfl g.heap.size rfl bx underlying43 rfl Yc rfl ?_;clear G1)
      |(go_at_call 165;refine Am (a7 _ _ _ _ _ a5.1 bg) ?_;rintro e wz ⟨rfl,vz,yz,j,tz⟩;have HZ:Ah (Z9 wz B b RP (f.lone.sent vz yz)):=(ar.out▸j);have TZ:=Z0 ((ao.trans a5.2).trans tz);clear j tz))
     go_ret;exact ⟨rfl,_,HZ.out,Tch.head ak TZ.out⟩
    ·have be:VB=false:=by simpa using hv
     have ar:=Z0 (HQ.trans (if_neg (λh9=>hv (l.trans ((vaB_iff _ _).2 h9)))));rw [be];clear HQ hv be l
     go_wp2_with (first
      |(have aw:=G1;refine Zd 43 (.tmp 5) rfl ?_;clear aw;refine Z7 rfl 43 (.tmp 5) rfl g.heap.size rfl ac underlying43 rfl Yc rfl ?_;clear G1)
      |(go_at_call 165;refine Am (a7 _ _ _ _ _ ad bg) ?_;rintro e wz ⟨rfl,vz,yz,j,tz⟩;have HZ:Ah (Z9 wz B b RP (f.sent vz yz)):=(ar.out▸j);have TZ:=Z0 ((ao.trans an).trans tz);clear j tz))
     go_ret;exact ⟨rfl,_,HZ.out,Tch.head ak TZ.out⟩
 ·rw [aj] at ah
  have HQ:Ah (r.voteAsk m={ r with code:=2 }):=by unfold Ah Rn.voteAsk;rw [aj,if_pos rfl]
  rw [HQ.out];go_enter func132,ntmps132
  go_upto_region 1 with fail
  rw [<-hW];clear hW
  go_wp2_with (first
   |(go_at_call 163;refine Am ah ?_;rintro e w1 ⟨rfl,y⟩;have H1:Ah _:=ae.out w1 y;clear y))
  go_ret;exact ⟨rfl,x,H1.1.codeQ 2,Tch.head ak H1.2.1⟩
end Go.Proofs.YtmmpoppgabadmaaGreat
namespace Go.Proofs.YtmmpoppgabadmaaGreat
open Go.Proofs.Tryz
open Go.RowKit Go.Maps
theorem stand_code (r:Rn):r.stand.code=r.code:=Z4l _ _ _
theorem lead_code (r:Rn):r.lead.code=r.code:=by
 rw [leadG_eq];unfold Rn.sendAll;rw [Z3f];rfl
def pyI (n:Nd)(m:Mg):Bool:=(n.ro != 1) || (m.tm != n.tm+1) || decide (m.fr∈n.gr)
theorem pyI_iff (n:Nd)(m:Mg):pyI n m=true↔(n.ro≠1∨m.tm≠n.tm+1∨m.fr∈n.gr):=by unfold pyI;simp [or_assoc]
def vrI (n:Nd)(m:Mg):Bool:=(n.ro != 2) || (m.tm != n.tm) || (m.ok == 0) || decide (m.fr∈n.gr)
theorem vrI_iff (n:Nd)(m:Mg):vrI n m=true↔(n.ro≠2∨m.tm≠n.tm∨m.ok=0∨m.fr∈n.gr):=by unfold vrI;simp [or_assoc]
theorem Z6p (b:Nat)(r:Rn)(x:CV)(m:Mg)(ea:Option B4)(en ec:Nat)(w:Ag)(B:Nat)(h:Z9 w B b r x)(hc:r.code=0)(hl:x.L.length<=900)(hb:NdB r.n)(hd : -(2^63)<=r.draw)(hD:r.draw<2^63)(af:0<=r.n.tm)(aj:r.n.tm<=1073741824)(am:1<=m.fr)(ak:m.fr<=r.n.sz) :
  Ar Ad 131 #[Ae (Ac ⟨b,0,Ab⟩),Aw (m.arrC (I ea en ec))] w λe w'=>e=Aj (Aa O (r.preReply m).code)/\∃ x',Z9 w' B b (r.preReply m) x'/\Tch b w x w' x':=by
 obtain ⟨W,hW⟩:=exq (w.alloc (At (m.arrC (I ea en ec)) 43));have p:Ah (Ai w.heap.size w W):=hW▸Below.alloc0 _
 have d:Ah (Blk W w.heap.size (m.arrC (I ea en ec)) 43):=hW▸Blk.new _ _ _
 have j:=Z0 (h.below p);have ab:Ah (∀ z,Ai W.heap.size W z->Z9 z B b r x/\Tch b W x z x/\Blk z w.heap.size (m.arrC (I ea en ec)) 43):=λz hz=>⟨j.below hz,Tch.below0 _ _ hz,d.below hz d.lt⟩
 have z1:=h.ci.sz1;have n3:W.cell? ⟨w.heap.size,3,Ab⟩=Ac (Aa O m.tm):=d.cell 3;have n7:W.cell? ⟨w.heap.size,7,Ab⟩=Ac (Aa O m.ok):=d.cell 7;have ao:=Z0 λz hz=>Z3l b r x m.tm z B (j.below hz) hd hD hb.nw0 hb.nw1 hc
 have an:=Z0 λz hz=>Z3u b r x m.fr z B (j.below hz) (by omega) (by omega)
 have aa:=Z0 λz hz=>grant_any b r x m.fr z B (j.below hz) am ak
 have q6:=λu:BW W=>(j.below u.h).c6
 have q4:=λu:BW W=>(j.below u.h).c4
 have q1:∀ u:BW W,u.w.cell? ⟨w.heap.size,1,Ab⟩=Ac (Aa O m.fr):=λu=>(d.below u.h d.lt).cell 1
 have q3:∀ u:BW W,u.w.cell? ⟨w.heap.size,3,Ab⟩=Ac (Aa O m.tm):=λu=>(d.below u.h d.lt).cell 3
 have ag:Nonempty (BW W):=⟨⟨W,An _ _⟩⟩;clear h;by_cases k:m.ok=0
 ·have v:Ah (r.preReply m=r.takeTerm m.tm):=by unfold Ah Rn.preReply;rw [if_pos k]
  rw [v.out];have ah:(m.ok == 0)=true:=by simpa using k
  clear v k;generalize r.takeTerm m.tm=RP at *;go_enter func131,ntmps131
  go_upto_region 1 with fail
  rw [<-hW];clear hW
  go_wp2_with (first
   |(go_at_call 166;refine Am (ao _ (An _ _)) ?_;rintro e w1 ⟨rfl,x1,h1,t1⟩;have H1:Ah _:=h1;have T1:Ah _:=Tch.head p t1;clear h1 t1))
  go_ret;exact ⟨rfl,_,H1.out,T1.out⟩
 have ah:(m.ok == 0)=false:=by simpa using k
 have v:Ah (r.preReply m=if r.n.ro≠1∨m.tm≠r.n.tm+1∨m.fr∈r.n.gr then r.stale else if Xx (Zx r.n.gr m.fr r.n.sz.toNat).length r.n.sz=true then Rn.stand { r with n:={ r.n with gr:=Zx r.n.gr m.fr r.n.sz.toNat } } else { r with n:={ r.n with gr:=Zx r.n.gr m.fr r.n.sz.toNat } }):=by
  unfold Ah Rn.preReply;rw [if_neg k];rfl
 have ar:=wrx (r.n.tm+1)
 obtain ⟨VB,ae⟩:=exq (pyI r.n m);have i:=Z0 ae;clear ae k;obtain ⟨RP,ac⟩:=exq (r.preReply m);rw [<-ac] at v ⊢;clear ac;go_enter func131,ntmps131
 go_upto_region 1 with fail
 rw [<-hW];clear hW
 go_upto_region 3 with fail
 go_cut [34] (λs z=>s=.bool VB/\Ai W.heap.size W z)
 case first=>
  have HV:Ah (VB=((r.n.ro != 1) || (m.tm != r.n.tm+1) || decide (m.fr∈r.n.gr))):=i.out;clear i;cases h1:(r.n.ro != 1)
  ·cases h2:(m.tm != r.n.tm+1)
   ·rw [h1,h2] at HV
    refine rqx ?_
    repeat go_big_quiet_step ((go_at_call 167;exact bwx (an _ (BW.h _))))
    refine wpQuiet_nil ?_;intro w5 f
    go_wp2_with fail
    go_meet;exact ⟨by rw [HV.out];simp,f⟩
   ·rw [h1,h2] at HV
    refine rqx ?_
    repeat go_big_quiet_step (fail)
    refine wpQuiet_nil ?_;intro w5 f
    go_wp2_with fail
    go_meet;exact ⟨by rw [HV.out];rfl,f⟩
  ·rw [h1] at HV
   refine rqx ?_
   repeat go_big_quiet_step (fail)
   refine wpQuiet_nil ?_;intro w5 f
   go_wp2_with fail
   go_meet;exact ⟨by rw [HV.out];rfl,f⟩
 case rest=>
  obtain ⟨rfl,t⟩:=hcut;obtain ⟨w6,ad⟩:=exq (wc);rw [<-ad] at t;subst ad;have o:=Z0 t;have p1:w6.cell? ⟨w.heap.size,1,Ab⟩=Ac (Aa O m.fr):=(ab w6 t).2.2.cell 1;clear q6 q4 q1 q3 ag t n3 n7;by_cases hv:VB=true
  ·have g:=Z0 (v.trans (if_pos ((pyI_iff _ _).1 (i.symm.trans hv))))
   rw [hv];clear v hv i
   go_wp2_with fail
   go_ret;exact ⟨by rw [g.out];rfl,x,g.out▸(ab w6 o).1.codeQ 3,Tch.head p (Tch.below0 _ _ o)⟩
  ·have y:VB=false:=by simpa using hv
   have g:Ah _:=v.trans (if_neg (λh9=>hv (i.trans ((pyI_iff _ _).2 h9))));rw [y];have l:Ah _:=aa.out w6 o
   have aq:r.n.ro≠3:=by
    intro e3;have h9:=i.out;rw [y] at h9;unfold pyI at h9;rw [e3] at h9;simp at h9
   clear v hv y i aa;obtain ⟨G,hG⟩:=exq (Zx r.n.gr m.fr r.n.sz.toNat);rw [<-hG] at g l;clear hG;have ai:=Z0 λz (hz:Z9 z B b { r with n:={ r.n with gr:=G } } x)=>stand_any b _ x z B hz aq af aj hd hD hb.nw0 hb.nw1 hb.ln hl
   cases hm:Xx G.length r.n.sz
   ·rw [hm] at l
    have q:=Z0 (g.trans (if_neg (by rw [hm];decide)));clear g hm
    go_wp2_with (first
     |(go_at_call 168;refine Am l ?_;rintro e w7 ⟨rfl,h7,t7⟩;have H7:Ah _:=h7;have T7:=Z0 (Tch.head o t7);clear h7 t7))
    go_ret;exact ⟨q.out▸congrArg (λc=>Ending.returned (Aa O c)) hc.symm,x,q.out▸H7,Tch.head p T7.out⟩
   ·rw [hm] at l
    have q:=Z0 (g.trans (if_pos hm));clear g hm
    go_wp2_with (first
     |(go_at_call 168;refine Am l ?_;rintro e w7 ⟨rfl,h7,t7⟩;have H7:Ah _:=h7;have T7:=Z0 (Tch.head o t7);clear h7 t7)
     |(go_at_call 169;refine Am (ai _ H7) ?_;rintro e w8 ⟨rfl,x8,h8,t8⟩;have H8:Ah _:=h8;have T8:=Z0 (T7.out.trans t8);clear h8 t8))
    go_ret;exact ⟨by rw [q.out,stand_code];exact congrArg (λc=>Ending.returned (Aa O c)) hc.symm,x8,q.out▸H8,Tch.head p T8.out⟩
theorem Z5n (b:Nat)(r:Rn)(x:CV)(m:Mg)(ea:Option B4)(en ec:Nat)(w:Ag)(B:Nat)(h:Z9 w B b r x)(hc:r.code=0)(hl:x.L.length<=900)(p:NdB r.n)(hd : -(2^63)<=r.draw)(hD:r.draw<2^63)(aq:0<=r.n.tm)(ar:r.n.tm<=1073741824)(am:1<=m.fr)(ak:m.fr<=r.n.sz)(hk:m.ok=0∨m.ok=1) :
  Ar Ad 133 #[Ae (Ac ⟨b,0,Ab⟩),Aw (m.arrC (I ea en ec))] w λe w'=>e=Aj (Aa O (r.voteReply m).code)/\∃ x',Z9 w' B b (r.voteReply m) x'/\Tch b w x w' x':=by
 obtain ⟨W,hW⟩:=exq (w.alloc (At (m.arrC (I ea en ec)) 43));have v:Ah (Ai w.heap.size w W):=hW▸Below.alloc0 _
 have f:Ah (Blk W w.heap.size (m.arrC (I ea en ec)) 43):=hW▸Blk.new _ _ _
 have i:=Z0 (h.below v);have ad:Ah (∀ z,Ai W.heap.size W z->Z9 z B b r x/\Tch b W x z x/\Blk z w.heap.size (m.arrC (I ea en ec)) 43):=λz hz=>⟨i.below hz,Tch.below0 _ _ hz,f.below hz f.lt⟩
 have z1:=h.ci.sz1;have ag:=Z0 λz hz=>Z3l b r x m.tm z B (i.below hz) hd hD p.nw0 p.nw1 hc
 have an:=Z0 λz hz=>Z3u b r x m.fr z B (i.below hz) (by omega) (by omega)
 have ac:=Z0 λz hz=>grant_any b r x m.fr z B (i.below hz) am ak
 have q6:=λu:BW W=>(i.below u.h).c6
 have q4:=λu:BW W=>(i.below u.h).c4
 have q1:∀ u:BW W,u.w.cell? ⟨w.heap.size,1,Ab⟩=Ac (Aa O m.fr):=λu=>(f.below u.h f.lt).cell 1
 have q3:∀ u:BW W,u.w.cell? ⟨w.heap.size,3,Ab⟩=Ac (Aa O m.tm):=λu=>(f.below u.h f.lt).cell 3
 have q7:∀ u:BW W,u.w.cell? ⟨w.heap.size,7,Ab⟩=Ac (Aa O m.ok):=λu=>(f.below u.h f.lt).cell 7
 have ai:Nonempty (BW W):=⟨⟨W,An _ _⟩⟩;clear h
 have HQ:Ah (r.voteReply m=if vrI r.n m=true then r.takeTerm m.tm else if Xx (Zx r.n.gr m.fr r.n.sz.toNat).length r.n.sz=true then Rn.lead { r with n:={ r.n with gr:=Zx r.n.gr m.fr r.n.sz.toNat } } else { r with n:={ r.n with gr:=Zx r.n.gr m.fr r.n.sz.toNat } }):=by
  unfold Ah Rn.voteReply;by_cases t:r.n.tm<m.tm
  ·rw [if_pos t,if_pos ((vrI_iff _ _).2 (.inr (.inl (by omega))))]
   unfold Rn.takeTerm;rw [if_pos t]
  ·rw [if_neg t]
   by_cases y:r.n.ro≠2∨m.tm≠r.n.tm∨m.ok≠1∨m.fr∈r.n.gr
   ·rw [if_pos y,if_pos ((vrI_iff _ _).2 (y.imp id (λh=>h.imp id (λh=>h.imp (λh=>by omega) id))))]
    unfold Rn.takeTerm;rw [if_neg t]
   ·rw [if_neg y,if_neg (λh9=>y (((vrI_iff _ _).1 h9).imp id (λh=>h.imp id (λh=>h.imp (λh=>by omega) id))))]
    rfl
 obtain ⟨VB,ab⟩:=exq (vrI r.n m);have j:=Z0 ab;rw [<-ab] at HQ;clear ab;obtain ⟨RP,ae⟩:=exq (r.voteReply m);rw [<-ae] at HQ ⊢;clear ae hk;go_enter func133,ntmps133
 go_upto_region 1 with fail
 rw [<-hW];clear hW
 go_cut [31] (λs z=>s=.bool VB/\Ai W.heap.size W z)
 case first=>
  have HV:Ah (VB=((r.n.ro != 2) || (m.tm != r.n.tm) || (m.ok == 0) || decide (m.fr∈r.n.gr))):=j.out;clear j;cases t:(r.n.ro != 2)
  ·cases y:(m.tm != r.n.tm)
   ·cases h3:(m.ok == 0)
    ·rw [t,y,h3] at HV
     refine rqx ?_
     repeat go_big_quiet_step ((go_at_call 167;exact bwx (an _ (BW.h _))))
     refine wpQuiet_nil ?_;intro w5 d
     go_wp2_with fail
     go_meet;exact ⟨by rw [HV.out];simp,d⟩
    ·rw [t,y,h3] at HV
     refine rqx ?_
     repeat go_big_quiet_step (fail)
     refine wpQuiet_nil ?_;intro w5 d
     go_wp2_with fail
     go_meet;exact ⟨by rw [HV.out];rfl,d⟩
   ·rw [t,y] at HV
    refine rqx ?_
    repeat go_big_quiet_step (fail)
    refine wpQuiet_nil ?_;intro w5 d
    go_wp2_with fail
    go_meet;exact ⟨by rw [HV.out];rfl,d⟩
  ·rw [t] at HV
   refine rqx ?_
   repeat go_big_quiet_step (fail)
   refine wpQuiet_nil ?_;intro w5 d
   go_wp2_with fail
   go_meet;exact ⟨by rw [HV.out];rfl,d⟩
 case rest=>
  obtain ⟨rfl,o⟩:=hcut;obtain ⟨w6,af⟩:=exq (wc);rw [<-af] at o;subst af;have l:=Z0 o;have p1:w6.cell? ⟨w.heap.size,1,Ab⟩=Ac (Aa O m.fr):=(ad w6 o).2.2.cell 1;have p3:w6.cell? ⟨w.heap.size,3,Ab⟩=Ac (Aa O m.tm):=(ad w6 o).2.2.cell 3;clear q6 q4 q1 q3 q7 ai o;by_cases hv:VB=true
  ·have g:=Z0 (HQ.trans (if_pos hv))
   rw [hv];have ah:Ah _:=ag.out w6 l;clear HQ hv j ag;rw [<-g.out] at ah
   go_wp2_with (first
    |(go_at_call 166;refine Am ah ?_;rintro e w7 ⟨rfl,x7,h7,t7⟩;have H7:Ah _:=h7;have T7:Ah _:=Tch.head v (Tch.head l t7);clear h7 t7))
   go_ret;exact ⟨rfl,_,H7.out,T7.out⟩
  ·have aa:VB=false:=by simpa using hv
   have g:Ah _:=HQ.trans (if_neg hv);rw [aa];have k:Ah _:=ac.out w6 l
   have ao:r.n.ro≠3:=by
    intro e3;have h9:=j.out;rw [aa] at h9;unfold vrI at h9;rw [e3] at h9;simp at h9
   clear HQ hv aa j ac;obtain ⟨G,hG⟩:=exq (Zx r.n.gr m.fr r.n.sz.toNat);rw [<-hG] at g k;clear hG;have aj:=Z0 λz (hz:Z9 z B b { r with n:={ r.n with gr:=G } } x)=>lead_any b _ x z B hz ao ⟨p.nw0,p.nw1,p.hd0,p.hd1,p.sz0,p.sz1,p.id0,p.id1,p.ln⟩ hl
   cases hm:Xx G.length r.n.sz
   ·rw [hm] at k
    have q:=Z0 (g.trans (if_neg (by rw [hm];decide)));clear g hm
    go_wp2_with (first
     |(go_at_call 168;refine Am k ?_;rintro e w7 ⟨rfl,h7,t7⟩;have H7:Ah _:=h7;have T7:=Z0 (Tch.head l t7);clear h7 t7))
    go_ret;exact ⟨q.out▸congrArg (λc=>Ending.returned (Aa O c)) hc.symm,x,q.out▸H7,Tch.head v T7.out⟩
   ·rw [hm] at k
    have q:=Z0 (g.trans (if_pos hm));clear g hm
    go_wp2_with (first
     |(go_at_call 168;refine Am k ?_;rintro e w7 ⟨rfl,h7,t7⟩;have H7:Ah _:=h7;have T7:=Z0 (Tch.head l t7);clear h7 t7)
     |(go_at_call 171;refine Am (aj _ H7) ?_;rintro e w8 ⟨rfl,x8,h8,t8⟩;have H8:Ah _:=h8;have T8:=Z0 (T7.out.trans t8);clear h8 t8))
    go_ret;exact ⟨by rw [q.out,lead_code];exact congrArg (λc=>Ending.returned (Aa O c)) hc.symm,x8,q.out▸H8,Tch.head v T8.out⟩
end Go.Proofs.YtmmpoppgabadmaaGreat
namespace Go.Proofs.YtmmpoppgabadmaaGreat
open Go.Proofs.Tryz
open Go.RowKit Go.Maps
def boxN (w:Ag)(v:Value):Nat:=match v with | Ae (Ac a)=>(match w.cell? a with | some (.int _ k)=>k.toNat | _=>0) | _=>0
theorem boxN_at {w:Ag}{q:Nat}{k:Nat}{t:TypeId}(h:Blk w q #[Aa O (k:Int)] t):boxN w (Ae (Ac ⟨q,0,Ab⟩))=k:=by
 have:=h.cell 0;simp [boxN,this]
def holdP (n:Nd)(k:Nat)(y:Int):Bool:=decide ((k:Int)<=n.mt.getD (y-1).toNat 0)
theorem hold_cnt (n:Nd)(p:Nat):∀ k,Z15 (holdP n p) (λ_=>false) n.id k=Z3b n p k
 | 0=>rfl
 | k+1=>by
  rw [Z15,Z3b,hold_cnt n p k];congr 1;unfold holdP;rw [show ((k:Int)+1-1).toNat=k by omega];by_cases a:(k:Int)+1=n.id <;> by_cases b:(p:Int)<=n.mt.getD k 0 <;> simp [a,b]
structure LogR (n:Nd):Prop where
 rise:n.log.Pairwise (λa c=>a.t<=c.t)
 top:∀ e∈n.log,e.t<=n.tm
theorem Z5e (l:List Ent)(p:Nat)(h:p<l.length):Zy l (p+1)=(l[p]).t:=by
 unfold Zy;rw [ifo,show p+1-1=p by omega,As h];rfl
theorem LogR.lower {n:Nd}(h:LogR n)(k:Nat)(b:k<n.log.length)(a:Zy n.log (k+1)≠n.tm):∀ j,j<=k->Zy n.log (j+1)≠n.tm:=by
 intro j d;rw [Z5e _ _ b] at a;rw [Z5e _ _ (by omega)];have f:=h.top _ (Bp b);by_cases e:j=k
 ·subst e;exact a
 ·have c:=List.pairwise_iff_getElem.1 h.rise j k (by omega) b (by omega)
  omega
theorem commitP_low (n:Nd)(lo:Nat):∀ k,k<=lo->Yx n lo k=lo
 | 0,_=>rfl
 | k+1,h=>by rw [Yx,if_pos h]
theorem Z63 (n:Nd)(lo:Nat):∀ k,(∀ j,j<k->Zy n.log (j+1)≠n.tm)->Yx n lo k=lo
 | 0,_=>rfl
 | k+1,h=>by
  rw [Yx];split
  ·rfl
  ·rw [if_neg]
   ·exact Z63 n lo k (λj hj=>h j (by omega))
   ·unfold Z07
    rw [Al];rintro ⟨-,a⟩;exact h k (by omega) (by simpa using a)
theorem hold1_any (b:Nat)(r:Rn)(x:CV)(a k:Nat)(w:Ag)(B:Nat)(h:Z9 w B b r x)(d:Blk w a #[Aa O (k:Int)] 3)(y:Int)(q:Nat)(g:x.f y=Ac q) :
  Ar Ad 183 #[Ae (Ac ⟨q,0,Ab⟩),Ae (Ac ⟨a,0,Ab⟩)] w λe w'=>e=Aj (.bool (holdP r.n k y))/\Ai w.heap.size w w':=by
 have j:w.cell? ⟨a,0,Ab⟩=Ac (Aa O (k:Int)):=d.cell 0;have i:w.cell? ⟨q,1,Ab⟩=Ac (Aa O (r.n.mt.getD (y-1).toNat 0)):=(h.pf y q g).1.cell 1;have c:Ah (holdP r.n k y=decide ((k:Int)<=r.n.mt.getD (y-1).toNat 0)):=rfl;clear h d g;generalize holdP r.n k y=hp at *;generalize r.n.mt.getD (y-1).toNat 0=S at *;rw [c.out];clear c;go_enter func183,ntmps183;go_wp2;go_quiet (fail)
 go_wp2;go_ret;exact ⟨rfl,Y4 _ _ _⟩
theorem commit_any (b:Nat)(r:Rn)(x:CV)(w:Ag)(B:Nat)(h:Z9 w B b r x)(av:r.n.ro=3)(ah:r.n.log.length<=4096)(a9:0<=r.n.cm)(hR:LogR r.n) :
  Ar Ad 174 #[Ae (Ac ⟨b,0,Ab⟩)] w λe w'=>e=Aj (.tuple #[])/\Z9 w' B b { r with n:={ r.n with cm:=(Yx r.n r.n.cm.toNat r.n.log.length:Int) } } x/\Tch b w x w' x:=by
 obtain ⟨la,lc,s⟩:=h.log.shape;have au:Ah (Es w (I la r.n.log.length lc) r.n.log):=s▸h.es ah
 have bd:=Z0 s;have aw:=Z0 hR;obtain ⟨p,ad⟩:=exq (Yx r.n r.n.cm.toNat r.n.log.length);rw [<-ad];have ay:=Z0 ad;obtain ⟨LN,aa⟩:=exq (r.n.log.length);have c:=Z0 aa;obtain ⟨a,v⟩:∃ a:Nat,(a:Int)=r.n.cm:=⟨r.n.cm.toNat,by omega⟩;have az:Ah (r.n.cm.toNat=a):=by unfold Ah;omega
 have HC:Ah (∀ z,Ai w.heap.size w z->Z9 z B b r x/\z.cell? ⟨b,12,Ab⟩=Ac (I la LN lc)/\z.cell? ⟨b,8,Ab⟩=Ac (Aa O (a:Int))/\z.cell? ⟨b,4,Ab⟩=Ac (Aa O r.n.tm)/\z.frozen? ⟨b,8,Ab⟩=false):=λz hz=>⟨h.below hz,by rw [aa,<-s];exact (h.below hz).blk.cell 12,v▸(h.below hz).blk.cell 8,(h.below hz).blk.cell 4,(h.below hz).blk.free 8⟩
 rw [<-aa] at ah
 have ac:Ah (∀ z,Ai w.heap.size w z->p=a->Z9 z B b { r with n:={ r.n with cm:=(p:Int) } } x/\Tch b w x z x):=λz hz e=>by
  rw [e,v];exact ⟨h.below hz,Tch.below0 _ _ hz⟩
 have af:Ah (∀ z (k:Nat) (K:Int),K=(k:Int)->Ai w.heap.size w z->p=k->Z9 (z.setCell ⟨b,8,Ab⟩ (Aa O K)) B b { r with n:={ r.n with cm:=(p:Int) } } x/\Tch b w x (z.setCell ⟨b,8,Ab⟩ (Aa O K)) x):=λz k K hK hz e=>by
  rw [e,<-hK];exact ⟨(h.below hz).set 8 _ rfl rfl rfl rfl rfl rfl rfl rfl rfl rfl Iff.rfl,(Tch.below0 _ _ hz).trans (Tch.set _ _ _ _ _)⟩
 obtain ⟨d0,c12,c8,c4,g8⟩:=HC.out w (An _ _);clear h s ad aa v hR d0;go_enter func174,ntmps174;go_wp2
 go_loopw [2,3] (λpv fv wr=>∃(kb k:Nat),pv=Ae (Ac ⟨kb,0,Ab⟩)/\Blk wr kb #[Aa O (k:Int)] 3/\w.heap.size<=kb/\k<=LN/\p=Yx r.n a k/\Ai w.heap.size w wr) (λpv _ wr=>boxN wr pv)
 case atStart=>exact ⟨w.heap.size,LN,rfl,Blk.new _ _ _,Ao _,Ao _,by rw [ay.out,az.out,c.out],Below.alloc0 _⟩
 case round=>
  obtain ⟨kb,k,rfl,hK,bb,a8,ao,hB⟩:=hrel;obtain ⟨wq,aj⟩:=exq (wr);rw [<-aj] at hK hB;subst aj;have HK:=Z0 hK;have f:=Z0 hB;have ab:=Z0 ao;obtain ⟨ag,bg,d8,d4,f8⟩:=HC.out wq hB;have aq:=Z0 ag;have dk:=hK.cell 0;have a5:=hK.lt;clear hK hB ao ag c12 c8 c4 g8;by_cases h1:a<k
  ·obtain ⟨j,rfl⟩:∃ j,k=j+1:=⟨k-1,by omega⟩
   have a0:decide ((a:Int)<(j:Int)+1)=true:=decide_eq_true (by omega);have a1:=au.below f;obtain ⟨-,-,a',c',ee,am⟩:=a1
   obtain ⟨g,m,rfl,hj⟩:∃ g m,la=Ac ⟨g,m,Ab⟩/\wq.cell? ⟨g,m+j*7,Ab⟩=Ac (Aa O (r.n.log[j]'(by have:=c.out;omega)).t):=by
    simp only [Value.slice.injEq] at ee;obtain ⟨rfl,-,rfl⟩:=ee;obtain ⟨g,m,rfl,hj⟩:=am j (by have:=c.out;omega);exact ⟨g,m,rfl,(hj j (by have:=c.out;omega)).1⟩
   have al:Zy r.n.log (j+1)=(r.n.log[j]'(by have:=c.out;omega)).t:=Z5e _ _ _;clear ee am a' c';have ai:Ah _:=al;clear al;generalize (r.n.log[j]'(by have:=c.out;omega)).t=TJ at *;have ba:IntKind.i64.wrap ((j:Int)+1-1)=(j:Int):=wry
   have a3:(0:Int)<=(j:Int):=by omega
   have a4:(j:Int)<(LN:Int):=by omega
   have bh:((j:Int)).toNat=j:=by omega
   cases h2:(TJ == r.n.tm)
   ·have HE:Ah (p=a):=by
     unfold Ah;rw [ab.out];refine Z63 _ a (j+1) (λi hi=>aw.lower j (by have:=c.out;omega) ?_ i (by omega));rw [ai.out];simpa using h2
    go_upto_region 1 with fail
    go_quiet (fail)
    go_wp2
    (try simp only [Av,Exit.then])
    exact bodyPost_end (Au rfl _ _ _) rfl ⟨rfl,ac.out _ (f.trans (Y4 _ _ _)) HE⟩
   ·have ax:Ah (Z07 r.n (j+1)=Xx (1+(Z3b r.n ((j+1:Nat):Int) r.n.sz.toNat:Int)) r.n.sz):=by
     unfold Ah Z07;rw [ai.out,show decide (TJ=r.n.tm)=true from by simpa using h2,Bool.and_true]
    have o:Ah (∀ z,Ai wq.heap.size wq z->Ar Ad 154 #[Ae (Ac ⟨b,0,Ab⟩),.func (.func 183) #[] #[Ae (Ac ⟨kb,0,Ab⟩)]] z λe w'=>e=Aj (.bool (Z07 r.n (j+1)))/\Ai z.heap.size z w'):=λz hz=>by
     rw [ax.out,<-hold_cnt];refine Z7m b r x kb (holdP r.n (j+1)) z B (aq.below hz) av λu y q hu hq=>?_
     have ar:=hz.trans (hu.mono hz.size);exact hold1_any b r x kb _ u B (aq.below ar) (HK.below ar HK.lt) y q hq
    have a7:∀ n,(wq.drewN n).cell? ⟨kb,0,Ab⟩=Ac (Aa O ((j:Int)+1)):=λn=>dk
    have ak:Ah (Yx r.n a (j+1)=if Z07 r.n (j+1)=true then j+1 else Yx r.n a j):=by unfold Ah;rw [Yx,ifo]
    have an:Ah (∀ z,Ai wq.heap.size wq z->z.cell? ⟨kb,0,Ab⟩=Ac (Aa O ((j:Int)+1))/\z.frozen? ⟨kb,0,Ab⟩=false/\z.cell? ⟨b,8,Ab⟩=Ac (Aa O (a:Int))/\z.frozen? ⟨b,8,Ab⟩=false):=λz hz=>⟨(HK.below hz HK.lt).cell 0,(HK.below hz HK.lt).free 0,(HC z (f.trans (hz.mono f.size))).2.2.1,(HC z (f.trans (hz.mono f.size))).2.2.2.2⟩
    cases ha:Z07 r.n (j+1)
    ·rw [ha] at o
     have ae:Ah (p=Yx r.n a j):=by unfold Ah;rw [ab.out,ak.out,ha];rfl
     go_upto_region 1 with fail
     go_quiet (fail)
     go_wp2_with (first
      |(go_at_call 154;refine Am (o _ (Y4 _ _ _)) ?_;rintro e w3 ⟨rfl,l⟩;have d:=Z0 ((Y4 _ _ _).trans l);obtain ⟨e1,e2,e3,e4⟩:=an.out w3 d;have be:=d.size;clear l))
     go_roundw
     case rel=>exact ⟨w3.heap.size,j,rfl,Blk.new _ _ _,by omega,by omega,ae.out,(f.trans (d.mono f.size)).alloc (by omega) _⟩
     case measure=>
      rw [boxN_at HK.out,boxN_at (Blk.new w3 #[Aa O (j:Int)] 3)];omega
    ·rw [ha] at o
     have ae:Ah (p=j+1):=by unfold Ah;rw [ab.out,ak.out,ha];rfl
     go_upto_region 1 with fail
     go_quiet (fail)
     go_wp2_with (first
      |(go_at_call 154;refine Am (o _ (Y4 _ _ _)) ?_;rintro e w3 ⟨rfl,l⟩;have d:=Z0 ((Y4 _ _ _).trans l);obtain ⟨e1,e2,e3,e4⟩:=an.out w3 d;clear l))
     (try simp only [Av,Exit.then])
     have HF:Ah _:=af.out w3 (j+1) ((j:Int)+1) (by omega) (f.trans (d.mono f.size)) ae
     first
      | exact bodyPost_ret (Au rfl _ _ _) rfl ⟨rfl,HF.out⟩
      | exact bodyPost_end (Au rfl _ _ _) rfl ⟨rfl,HF.out⟩
  ·have a0:decide ((a:Int)<(k:Int))=false:=decide_eq_false (by omega)
   have HE:Ah (p=a):=ab.out▸commitP_low _ a k (by omega)
   go_upto_region 1 with fail
   go_quiet (fail)
   go_wp2
   (try simp only [Av,Exit.then])
   exact bodyPost_end (Au rfl _ _ _) rfl ⟨rfl,ac.out _ (f.trans (Y4 _ _ _)) HE⟩
end Go.Proofs.YtmmpoppgabadmaaGreat
namespace Go.Proofs.YtmmpoppgabadmaaGreat
open Go.Proofs.Tryz
open Go.RowKit Go.Maps
theorem rise_pw (a:Int):∀(l:List Int) (last:Int),Z1w a last l=true->l.Pairwise (· < ·)/\∀ y∈l,last<y/\y<=a
 | [],last,_=>⟨List.Pairwise.nil,λy h=>by cases h⟩
 | x :: l,last,hr=>by
  simp only [Z1w,Al,Zj] at hr;obtain ⟨c,b⟩:=rise_pw a l x hr.2;refine ⟨List.Pairwise.cons (λy hy=>(b y hy).1) c,λy hy=>?_⟩;rcases List.mem_cons.1 hy with rfl | hy
  ·omega
  ·have:=b y hy;omega
theorem Z6q (b:Int):∀(l:List Ent) (low:Int),Jq b low l=true->l.Pairwise (λa c=>a.t<=c.t)/\∀ e∈l,low<=e.t/\e.t<=b
 | [],low,_=>⟨List.Pairwise.nil,λy h=>by cases h⟩
 | x :: l,low,hr=>by
  simp only [Jq,Al,Zj] at hr;obtain ⟨f,d⟩:=Z6q b l x.t hr.2;refine ⟨List.Pairwise.cons (λy hy=>(d y hy).1) f,λy hy=>?_⟩;rcases List.mem_cons.1 hy with rfl | hy
  ·omega
  ·have:=d y hy;omega
theorem Z4o (n:Nd)(h:Yb n=0):LogR n/\n.log.length<=4096:=by
 unfold Yb Z4x at h;split at h
 ·simp at h
 split at h
 ·simp at h
 split at h
 ·simp at h
 split at h
 ·simp at h
 rename_i h4;split at h
 ·simp at h
 rename_i h5;have a:Jq n.tm 1 n.log=true:=by simpa using h5
 obtain ⟨c,b⟩:=Z6q _ n.log 1 a;exact ⟨⟨c,λe he=>(b e he).2⟩,by omega⟩
theorem nodeN_ci (n:Nd)(h:Yb n=0):CI n:=by
 obtain ⟨e,s,t,p,r,k,c,b⟩:=Z03 n h
 have d:n.gr.Pairwise (· < ·)/\∀ y∈n.gr,1<=y/\y<=n.sz:=by
  unfold Jo at c;split at c
  ·have:n.gr = []:=List.length_eq_zero_iff.1 (by have a:(n.gr.length:Int)=0:=(by simpa using c);omega)
   rw [this];exact ⟨List.Pairwise.nil,λy h=>by cases h⟩
  ·simp only [Al] at c
   obtain ⟨m,l⟩:=rise_pw n.sz n.gr 0 c.1;exact ⟨m,λy hy=>by have:=l y hy;omega⟩
 have o:=e.sz0;have g:=e.sz1;have i:=e.id0;have f:=e.id1;refine ⟨o,g,p,i,f,d.1,d.2,λhro=>?_,λhro=>?_⟩
 ·unfold Jw at b
  rw [if_pos hro,Al,Xu] at b;obtain ⟨⟨q,e2,e3,e4⟩,j⟩:=b;have a:=Z5o j (n.id-1).toNat (by omega);unfold Z0y at a;rw [if_pos (by omega)] at a;simp only [Al,beq_iff_eq] at a;exact ⟨⟨by omega,by omega,by omega,by omega⟩,a.1,a.2.1,a.2.2.1,a.2.2.2⟩
 ·unfold Jw at b
  rw [if_neg hro,Al,Xu] at b;obtain ⟨⟨q,e2,e3,e4⟩,j⟩:=b;exact ⟨List.length_eq_zero_iff.1 (by omega),List.length_eq_zero_iff.1 (by omega),List.length_eq_zero_iff.1 (by omega),List.length_eq_zero_iff.1 (by omega)⟩
end Go.Proofs.YtmmpoppgabadmaaGreat
namespace Go.Proofs.YtmmpoppgabadmaaGreat
open Go.Proofs.Tryz
open Go.RowKit Go.Maps
def Rn.back (r:Rn)(m:Mg):Rn:=
 if m.li≠r.n.nx.getD (m.fr-1).toNat 0-1 then r.stale
 else Rn.sendE { r with n:={ r.n with nx:=r.n.nx.set (m.fr-1).toNat (max (r.n.mt.getD (m.fr-1).toNat 0+1) (min m.hi (m.li-1)+1)) } } (m.fr-1).toNat
theorem back_code (r:Rn)(m:Mg)(h:r.code=0):(r.back m).code=if m.li≠r.n.nx.getD (m.fr-1).toNat 0-1 then 3 else 0:=by
 unfold Rn.back;split
 ·rfl
 ·exact h
theorem stepBack_any (b:Nat)(r:Rn)(x:CV)(m:Mg)(ea:Option B4)(en ec:Nat)(q:Nat)(w:Ag)(B:Nat)(h:Z9 w B b r x)(hc:r.code=0)(hl:x.L.length<=900)(hb:NdB r.n)(ag:r.n.ro=3)(hq:x.f m.fr=Ac q)(an:1<=r.n.nx.getD (m.fr-1).toNat 0)(aw:r.n.nx.getD (m.fr-1).toNat 0<=(r.n.log.length:Int)+1)(ao:0<=r.n.mt.getD (m.fr-1).toNat 0)(aj:r.n.mt.getD (m.fr-1).toNat 0<r.n.nx.getD (m.fr-1).toNat 0)(ba:0<=m.hi)(a9:m.hi<=4096)(bd:0<=m.li)(bb:m.li<=4096) :
  Ar Ad 173 #[Ae (Ac ⟨b,0,Ab⟩),Aw (m.arrC (I ea en ec)),Ae (Ac ⟨q,0,Ab⟩)] w λe w'=>e=Aj (Aa O (r.back m).code)/\∃ x',Z9 w' B b (r.back m) x'/\Tch b w x w' x':=by
 obtain ⟨W,hW⟩:=exq (w.alloc (At (m.arrC (I ea en ec)) 43));have ae:Ah (Ai w.heap.size w W):=hW▸Below.alloc0 _
 have p:Ah (Blk W w.heap.size (m.arrC (I ea en ec)) 43):=hW▸Blk.new _ _ _
 have aa:=Z0 (h.below ae);have a3:=Z0 (h.hasnt_new (Ao _));have au:=hb.ln;have ac:=(h.pk m.fr).1 (by rw [hq];rfl);have ai:=(h.ci.ld ag).1;have HQ:=Z0 hq;obtain ⟨NX,j⟩:=exq (r.n.nx.getD (m.fr-1).toNat 0);obtain ⟨l,k⟩:=exq (r.n.mt.getD (m.fr-1).toNat 0);have v:Ah (r.back m=if m.li≠NX-1 then r.stale else Rn.sendE { r with n:={ r.n with nx:=r.n.nx.set (m.fr-1).toNat (max (l+1) (min m.hi (m.li-1)+1)) } } (m.fr-1).toNat):=by unfold Ah Rn.back;rw [j,k]
 have HK:Ah ((r.back m).code=if m.li≠NX-1 then 3 else 0):=j▸back_code r m hc
 rw [<-j] at an aw aj;rw [<-k] at ao aj;have q0:∀ u:BW W,u.w.cell? ⟨q,0,Ab⟩=Ac (Aa O NX):=λu=>j▸((aa.below u.h).pf _ _ hq).1.cell 0
 have q1:∀ u:BW W,u.w.cell? ⟨q,1,Ab⟩=Ac (Aa O l):=λu=>k▸((aa.below u.h).pf _ _ hq).1.cell 1
 have p4:∀ u:BW W,u.w.cell? ⟨w.heap.size,4,Ab⟩=Ac (Aa O m.li):=λu=>(p.below u.h p.lt).cell 4
 have p8:∀ u:BW W,u.w.cell? ⟨w.heap.size,8,Ab⟩=Ac (Aa O m.hi):=λu=>(p.below u.h p.lt).cell 8
 have a0:Nonempty (BW W):=⟨⟨W,An _ _⟩⟩;have bc:=wrx (NX-1)
 have a2:=Z0 ai.1;clear h hq ai;by_cases i:m.li≠NX-1
 ·rw [HK.out,if_pos i]
  have t:=Z0 (v.trans (if_pos i));have aq:(m.li != NX-1)=true:=by simpa using i
  rw [t.out];clear HK v t i j k;go_enter func173,ntmps173
  go_upto_region 1 with fail
  rw [<-hW];clear hW;refine rqx ?_
  repeat go_big_quiet_step (fail)
  refine wpQuiet_nil ?_;intro w5 d
  go_wp2_with fail
  go_ret;exact ⟨rfl,x,(aa.below d).codeQ 3,Tch.head ae (Tch.below0 _ _ d)⟩
 ·rw [HK.out,if_neg i]
  obtain ⟨R2,c⟩:∃ R2:Rn,R2={ r with n:={ r.n with nx:=r.n.nx.set (m.fr-1).toNat (max (l+1) (min m.hi (m.li-1)+1)) } }:=⟨_,rfl⟩;have t:Ah (r.back m=R2.sendE (m.fr-1).toNat):=c▸v.trans (if_neg i)
  have aq:(m.li != NX-1)=false:=by simpa using i
  have a7:=wrx (m.li-1)
  obtain ⟨P,hP⟩:∃ P:Nat,(P:Int)=max l (min m.hi (m.li-1)):=⟨(max l (min m.hi (m.li-1))).toNat,by omega⟩;have ah:Ah (max (l+1) (min m.hi (m.li-1)+1)=(P:Int)+1):=by unfold Ah;omega
  have ay:P<=r.n.log.length:=by omega
  have al:(if m.li-1<m.hi then m.li-1 else m.hi)=min m.hi (m.li-1):=by split <;> omega
  obtain ⟨MN,y⟩:=exq (min m.hi (m.li-1));have a6:(if l<MN then MN else l)=(P:Int):=by rw [hP,<-y];split <;> omega
  have az:(if MN<l then l else MN)=(P:Int):=by rw [hP,<-y];split <;> omega
  rw [<-y] at al;have a8:IntKind.i64.wrap ((P:Int)+1)=(P:Int)+1:=wry
  have a1:Ah (∀ z,Z9 z B b r x->z.cell? ⟨q,0,Ab⟩=Ac (Aa O NX)/\z.frozen? ⟨q,0,Ab⟩=false/\Z9 (z.setCell ⟨q,0,Ab⟩ (Aa O ((P:Int)+1))) B b R2 x/\Tch b z x (z.setCell ⟨q,0,Ab⟩ (Aa O ((P:Int)+1))) x):=λz hz=>by
   have h9:=hz.nxP HQ ((P:Int)+1);refine ⟨j▸(hz.pf _ _ HQ).1.cell 0,(hz.pf _ _ HQ).1.free 0,?_,h9.2⟩;rw [c,ah.out];exact h9.1
  have ar:=Z0 λz hz=>Z0p b R2 x _ P z B hz (c▸ag) ac.2.1 (c▸ac.2.2.1) (c▸ac.2.2.2) (by
   rw [c];show (r.n.nx.set (m.fr-1).toNat _).getD (m.fr-1).toNat 0=_;rw [J2 _ _ _ (by rw [a2.out];omega),ah.out]) (c▸ay) (c▸au)
  rw [t.out];clear HK v t i j k hP y c;generalize R2.sendE (m.fr-1).toNat=RF at *;go_enter func173,ntmps173
  go_upto_region 1 with fail
  rw [<-hW];clear hW
  go_cut [14] (λs z=>s=.bool false/\Ai W.heap.size W z)
  case first=>
   refine rqx ?_
   repeat go_big_quiet_step (fail)
   refine wpQuiet_nil ?_;intro w5 d
   go_wp2_with fail
   go_meet;exact ⟨rfl,d⟩
  case rest=>
   obtain ⟨rfl,ad⟩:=hcut;obtain ⟨w6,ak⟩:=exq (wc);rw [<-ak] at ad;subst ak;have a:=Z0 ad
   have s1:∀ u:BW w6,u.w.cell? ⟨q,1,Ab⟩=Ac (Aa O l):=λu=>q1 ⟨u.w,a.trans (u.h.mono a.size)⟩
   have s4:∀ u:BW w6,u.w.cell? ⟨w.heap.size,4,Ab⟩=Ac (Aa O m.li):=λu=>p4 ⟨u.w,a.trans (u.h.mono a.size)⟩
   have s8:∀ u:BW w6,u.w.cell? ⟨w.heap.size,8,Ab⟩=Ac (Aa O m.hi):=λu=>p8 ⟨u.w,a.trans (u.h.mono a.size)⟩
   have a4:Nonempty (BW w6):=⟨⟨w6,An _ _⟩⟩;clear q0 q1 p4 p8 a0 ad
   go_upto_region 3 with fail
   go_cut [] (λz=>Z9 z B b R2 x/\Tch b W x z x)
   case first=>
    refine rlx ?_;simp only [List.dropLast_cons_cons,List.dropLast_singleton]
    repeat go_big_quiet_step (fail)
    refine wpQuiet_nil ?_;intro w7 o;obtain ⟨e1,e2,e3,e4⟩:=a1.out w7 (aa.below (a.trans (o.mono a.size)));refine J8 _ _ rfl rfl rfl e1 e2 rfl ?_;have HF:Ah _:=e3;have av:Ah (Tch b W x _ x):=(Tch.below0 _ _ (a.trans (o.mono a.size))).trans e4;clear e1 e2 e3 e4
    go_wp2_with fail
    go_meet;exact ⟨HF,av.out⟩
   case rest=>
    obtain ⟨hC,hT⟩:=hcut;obtain ⟨w8,af⟩:=exq (wc);rw [<-af] at hC hT;subst af;have ax:=Z0 hC;have am:=Z0 hT;have t1:=(hT.blk p a3).cell 1;clear hC hT s1 s4 s8 a4
    go_wp2_with (first
     |(go_at_call 157;refine Am (ar _ ax) ?_;rintro e w9 ⟨rfl,v9,m9,h9,t9⟩;have H9:Ah _:=h9;have T9:Ah _:=Tch.head ae (am.trans t9);clear h9 t9))
    go_ret;exact ⟨rfl,_,H9.out,T9.out⟩
end Go.Proofs.YtmmpoppgabadmaaGreat
namespace Go.Proofs.YtmmpoppgabadmaaGreat
open Go.Proofs.Tryz
open Go.RowKit Go.Maps
theorem partsI_step (log es:List Ent)(p n:Nat)(h:n<=Y7 log p es)(a:n<es.length):(n<Y7 log p es)↔(log[p+n]?.map (·.t))=Ac (es[n]).t:=by
 induction es generalizing p n with
 | nil=>simp at a
 | cons e es ih=>
  rw [Y7] at h ⊢
  cases n with
  | zero=>
   simp only [Nat.add_zero,List.getElem_cons_zero];split
   ·rename_i he;simp [he]
   ·rename_i he;simp [he]
  | succ n=>
   split at h
   ·rename_i he
    rw [if_pos he];have b:n<=Y7 log (p+1) es:=by omega
    have c:n<es.length:=by simpa using a
    have:=ih (p+1) n b c;rw [List.getElem_cons_succ,show p+(n+1)=p+1+n by omega,<-this];omega
   ·omega
theorem Z8j (log es:List Ent)(p:Nat):Y7 log p es<=es.length:=by
 induction es generalizing p with
 | nil=>exact Ao _
 | cons e es ih=>
  rw [Y7];have:=ih (p+1);split
  ·simp only [List.length_cons];omega
  ·simp
theorem known_any (b:Nat)(r:Rn)(x:CV)(m:Mg)(ea:Option B4)(ec c:Nat)(w:Ag)(B:Nat)(h:Z9 w B b r x)(aa:r.n.log.length<=4096)(he:Es w (I ea m.es.length ec) m.es)(ae:m.es.length<=1048576)(ab:m.li=(c:Int))(ah:c<=r.n.log.length) :
  Ar Ad 181 #[Ae (Ac ⟨b,0,Ab⟩),Aw (m.arrC (I ea m.es.length ec))] w λe w'=>e=Aj (Aa O (Y7 r.n.log c m.es:Int))/\Ai w.heap.size w w':=by
 obtain ⟨la,lc,j⟩:=h.log.shape;have ac:Ah (∀ z,Ai w.heap.size w z->Es z (I la r.n.log.length lc) r.n.log):=λz hz=>j▸(h.below hz).es aa
 have y:=Z0 λz (hz:Ai w.heap.size w z)=>he.below hz
 obtain ⟨k,l⟩:=exq (m.es.length);obtain ⟨LN,q⟩:=exq (r.n.log.length);have o:=Z0 l;have i:=Z0 q;rw [<-l] at y ae ⊢;rw [<-q] at ac aa ah j;obtain ⟨W,hW⟩:=exq (w.alloc (At (m.arrC (I ea k ec)) 43));have p:Ah (Ai w.heap.size w W):=hW▸Below.alloc0 _
 have g:Ah (Blk W w.heap.size (m.arrC (I ea k ec)) 43):=hW▸Blk.new _ _ _
 have af:=Z0 (h.below p);have HC:Ah (∀ z,Ai W.heap.size W z->z.cell? ⟨b,12,Ab⟩=Ac (I la LN lc)/\z.cell? ⟨w.heap.size,4,Ab⟩=Ac (Aa O (c:Int))/\z.cell? ⟨w.heap.size,9,Ab⟩=Ac (I ea k ec)):=λz hz=>⟨j▸(af.below hz).blk.cell 12,ab▸(g.below hz g.lt).cell 4,(g.below hz g.lt).cell 9⟩
 obtain ⟨K,hK⟩:=exq (Y7 r.n.log c m.es);have HK:=Z0 hK;have aq:K<=k:=by rw [hK,l];exact Z8j _ _ _
 rw [<-hK];clear h j he l q ab hK;go_enter func181,ntmps181
 go_upto_region 1 with fail
 rw [<-hW];clear hW;go_wp2
 go_loopw [5] (λiv wr=>∃ n:Nat,n<=K/\iv=Aa O (n:Int)/\Ai W.heap.size W wr) (λiv _=>k-(RowKit.intOf iv).toNat)
 case atStart=>exact ⟨0,Bb _,rfl,An _ _⟩
 case round=>
  obtain ⟨n,hn,rfl,hB⟩:=hrel;obtain ⟨wq,v⟩:=exq (wr);rw [<-v] at hB;subst v;have HB:=Z0 hB;obtain ⟨ak,m4,m9⟩:=HC.out wq hB;have f:=p.trans (hB.mono p.size);have ao:IntKind.i64.wrap ((c:Int)+(n:Int))=(c:Int)+(n:Int):=wry
  clear hB;by_cases h1:n<k
  ·have ad:decide ((n:Int)<(k:Int))=true:=decide_eq_true (by omega)
   have d:=partsI_step _ _ c n (HK.out▸hn) (o.out▸h1);rw [<-HK.out] at d;by_cases h2:c+n<LN
   ·have ag:decide ((c:Int)+(n:Int)<(LN:Int))=true:=decide_eq_true (by omega)
    rw [As (i.out▸h2)] at d;simp only [Option.map_some,Option.some.injEq] at d;obtain ⟨lg,lo,rfl,cl⟩:=Z3d (ac wq f) _ (i.out▸h2);obtain ⟨eg,eo,rfl,ce⟩:=Z3d (y wq f) n (o.out▸h1);have s:Ah _:=d;clear d;generalize (r.n.log[c+n]'(i.out▸h2)).t=T1 at *;generalize (m.es[n]'(o.out▸h1)).t=T2 at *;have an:(0:Int)<=(c:Int)+(n:Int):=by omega
    have au:(c:Int)+(n:Int)<(LN:Int):=by omega
    have al:((c:Int)+(n:Int)).toNat=c+n:=by omega
    have aj:(0:Int)<=(n:Int):=by omega
    have am:(n:Int)<(k:Int):=by omega
    have ai:((n:Int)).toNat=n:=by omega
    cases h3:(T1 == T2)
    ·have u:Ah (n=K):=by
      unfold Ah;by_cases h9:n<K
      ·have:=s.1 h9
       rw [this] at h3;simp at h3
      ·omega
     have a:Ah ((n:Int)=(K:Int)):=by unfold Ah;rw [u.out]
     go_upto_region 2 with fail
     go_quiet (fail)
     go_wp2;go_ret;exact ⟨by rw [<-a.out];rfl,(f.trans (Y4 _ _ _))⟩
    ·have u:Ah (n<K):=by
      unfold Ah;refine s.2 ?_;simpa using h3
     go_upto_region 2 with fail
     go_quiet (fail)
     go_wp2
     go_roundw
     case rel=>exact ⟨n+1,u.out,by go_num,HB.trans (Y4 _ _ _)⟩
     case measure=>simp [RowKit.intOf];omega
   ·have ag:decide ((c:Int)+(n:Int)<(LN:Int))=false:=decide_eq_false (by omega)
    have u:Ah (n=K):=by
     unfold Ah;by_cases h9:n<K
     ·have:=d.1 h9
      rw [Bv (by have:=i.out;omega)] at this;cases this
     ·omega
    have a:Ah ((n:Int)=(K:Int)):=by unfold Ah;rw [u.out]
    clear d
    go_upto_region 2 with fail
    go_quiet (fail)
    go_wp2;go_ret;exact ⟨by rw [<-a.out];rfl,(f.trans (Y4 _ _ _))⟩
  ·have ad:decide ((n:Int)<(k:Int))=false:=decide_eq_false (by omega)
   have a:Ah ((n:Int)=(K:Int)):=by unfold Ah;omega
   go_upto_region 2 with fail
   go_quiet (fail)
   go_wp2;go_ret;exact ⟨by rw [<-a.out];rfl,(f.trans (Y4 _ _ _))⟩
end Go.Proofs.YtmmpoppgabadmaaGreat
namespace Go.Proofs.YtmmpoppgabadmaaGreat
open Go.Proofs.Tryz
open Go.RowKit Go.Maps
variable {w:Ag}
theorem Z89 {d:Array Oper}{rest:List Oper}{o:Oper}{a:Act}{Q:Exit->Act->Ag->Prop}(k:o.guard=Ab)(s x:Operand)
  (ho:o.op=.call { callee:=.builtin .append,args:=#[s,x],argTypes:=#[34,34] })
  (g n:Nat) (l es:List Ent) (hf:∀ e∈l ++ es,e.fits) (y:a.eval s=I (Ac ⟨g,0,Ab⟩) n n) (f:l.length=n) (t:∀ j u,(Zv l)[j]? = Ac u->w.cell? ((⟨g,0,Ab⟩:B4).add j)=Ac u) (A:B4) (c:Nat) (hu:∀ j u,(Zv es)[j]? = Ac u->w.cell? (A.add j)=Ac u) (hx:a.eval x=I (Ac A) es.length c) (r:l.length+es.length<=2000000) (z:0<es.length)
  (h:∀ i w',Zh w' w.heap.size i (l ++ es)->w.grownBy w' Ab->wpList Ad d Q rest (a.put o.dst i) w'):wpList Ad d Q (o :: rest) a w:=by
 obtain ⟨v,hi,m,p,q⟩:=info_parts infoEnt;refine wpList_plain k λK hK'=>?_
 obtain ⟨i,w',b,r1,r2⟩:=run_append_arg_grows (P:=Ad) w 34 o.type 118 v _ 7 80 underlying34 hi m p q rfl (by decide) ⟨g,0,Ab⟩ n n (Zv l) (by rw [Z23,f]) t A es.length c (Zv es) (Z23 es) hu (by omega) (by unfold maxLen;omega) (by omega);unfold Oper.wp;simp [execOp,ho,resolve,invoke,builtin,y,hx,b,Result.andThen];refine hK' _ _ (h i w' ⟨hf,?_⟩ r2);rw [Z26,Bc,f];exact r1
theorem ownE_new {B:Nat}{v:Value}{l:List Ent}(h:Zh w B v l)(a:0<l.length):∃ k,v.ownBlock=Ac k/\B<=k:=by
 obtain ⟨g,cap,rfl⟩:=h.shape' a;exact ⟨g,rfl,(Aq h.2 g rfl).1⟩
theorem run_slice3 (u:Ag)(g LN a K:Nat)(h:K<=LN)(i:LN<=a) :
  (Instr.slice 34 (I (Ac ⟨g,0,Ab⟩) LN a) Ab (Ac (Aa O (K:Int))) (Ac (Aa O (K:Int)))).run Ad u=.ok (I (Ac ⟨g,0,Ab⟩) K K) u:=by
 have f:(sizeOf 118).run Ad u=.ok 7 u:=by kernel_rfl
 have d:(0:Int)<=(K:Int):=by omega
 have c:(K:Int)<=(a:Int):=by omega
 have b:(Instr.sliceBounds true LN a Ab (Ac (Aa O (K:Int))) (Ac (Aa O (K:Int)))).run Ad u=.ok (0,K,K) u:=by
  simp [Instr.sliceBounds,run_sliceBound,d,c,go_sem]
 simp [Instr.slice,run_underlying underlying34,b,f,Result.andThen,go_sem];have e:K<=a:=by omega
 simp [e]
theorem replace_any (b:Nat)(r:Rn)(x:CV)(K:Nat)(A:B4)(ec:Nat)(es:List Ent)(w:Ag)(B:Nat)(h:Z9 w B b r x)(aw:r.n.log.length<=4096)(hK:K<=r.n.log.length)(he:Es w (I (Ac A) es.length ec) es)(a0:es.length<=1048576)(af:0<es.length) :
  Ar Ad 182 #[Ae (Ac ⟨b,0,Ab⟩),Aa O (K:Int),I (Ac A) es.length ec] w λe w'=>e=Aj (.tuple #[])/\∃ v,Z9 w' B b { r with n:={ r.n with log:=r.n.log.take K ++ es } } { x with vl:=v,kp:=(K:Int) }/\Tch b w x w' { x with vl:=v,kp:=(K:Int) }:=by
 have HR:=Z0 h
 have ah:Ah (∀ j u,(Zv es)[j]? = Ac u->w.cell? (A.add j)=Ac u):=by
  obtain ⟨_,_,a',c',o,hc⟩:=he;simp only [Value.slice.injEq] at o;obtain ⟨rfl,-,rfl⟩:=o;obtain ⟨g,aj,e2,hj⟩:=hc 0 af;injection e2 with e2;subst e2;exact Z4c hj
 have ae:=Z0 he.2.1;obtain ⟨la,s,a⟩:=h.log.shape;obtain ⟨LN,m⟩:=exq (r.n.log.length);rw [<-m] at a aw hK;have av:=Z0 m;have ai:=Z0 a;have c12:w.cell? ⟨b,12,Ab⟩=Ac (I la LN s):=a▸h.blk.cell 12
 have ao:=h.lt;have ag:=Ap h.lo (Be h.lt)
 have l:Ah (∀ d v,Zh d B v (r.n.log.take K ++ es)->Ye w (I la LN s) d v->(∃ u,d.cell? ⟨b,12,Ab⟩=Ac u)/\d.frozen? ⟨b,12,Ab⟩=false/\(∃ u,(d.setCell ⟨b,12,Ab⟩ v).cell? ⟨b,22,Ab⟩=Ac u)/\(d.setCell ⟨b,12,Ab⟩ v).frozen? ⟨b,22,Ab⟩=false/\Z9 ((d.setCell ⟨b,12,Ab⟩ v).setCell ⟨b,22,Ab⟩ (Aa O (K:Int))) B b { r with n:={ r.n with log:=r.n.log.take K ++ es } } { x with vl:=v,kp:=(K:Int) }/\Tch b w x ((d.setCell ⟨b,12,Ab⟩ v).setCell ⟨b,22,Ab⟩ (Aa O (K:Int))) { x with vl:=v,kp:=(K:Int) }):=λd v ho hg=>by
  rw [<-ai.out] at hg;obtain ⟨h1,h2⟩:=HR.logAt (An _ _) ho hg;have ab:=HR.blk.keep (hg.g.block b ao (λe=>(HR.bf.2.2.2.1 b e.symm).1 rfl));refine ⟨⟨_,ab.cell 12⟩,ab.free 12,⟨_,h1.blk.cell 22⟩,h1.blk.free 22,?_,?_⟩
  ·exact h1.re (r':={ r with n:={ r.n with log:=r.n.log.take K ++ es } }) (kp':=(K:Int)) (h1.blk.set 22 _) (λk hk _=>Ak _ _ _ _ hk) rfl rfl rfl rfl rfl rfl rfl rfl rfl Iff.rfl
  ·have q:=h2.trans (Tch.set b _ { x with vl:=v } 22 (Aa O (K:Int)))
   exact ⟨q.os,q.tape,q.output,q.size,q.block,q.at'⟩
 by_cases hf:K=LN
 ·have al:Ah (r.n.log.take K=r.n.log):=by unfold Ah;rw [List.take_of_length_le (by omega)]
  have aq:Ah (Zh w B (I la LN s) r.n.log):=a▸h.log
  have hd:decide ((K:Int)<(LN:Int))=false:=decide_eq_false (by omega);have ax:¬(K:Int)<(LN:Int):=by omega
  rw [al.out] at l ⊢;clear h a he m hf;go_enter func182,ntmps182
  go_wp2_with (at_builtin;refine Z3m rfl _ _ rfl es ae aq rfl A ec ah rfl (by have:=av.out;omega) ag ?_;intro v3 d c i;obtain ⟨a3,c3,e3⟩:=c.shape;have az:=Z0 e3;obtain ⟨⟨u1,au⟩,y,⟨u2,an⟩,aa,h4,h5⟩:=l.out d v3 c i;have HF:Ah _:=And.intro h4 h5;generalize (r.n.log ++ es).length=L3 at *;subst e3;clear c i h4 h5)
  (try simp only [Av,Exit.then])
  exact bodyPost_end (Au rfl _ _ _) rfl ⟨rfl,_,HF.out⟩
 ·obtain ⟨g,cap,f⟩:=h.log.shape'
  rw [<-m] at f;rw [a] at f;simp only [Value.slice.injEq] at f;obtain ⟨rfl,-,rfl⟩:=f;have t:LN<=s:=by have p:=h.log;rw [a] at p;exact p.capI
  have ar:Ah (∀ j u,(Zv (r.n.log.take K))[j]? = Ac u->w.cell? ((⟨g,0,Ab⟩:B4).add j)=Ac u):=by
   have p:=(h.es (by omega)).2.2;obtain ⟨a',c',o,hc⟩:=p;rw [a] at o;simp only [Value.slice.injEq] at o;obtain ⟨o,-,-⟩:=o;intro j u hj;obtain ⟨g',aj,e2,ak⟩:=hc 0 (by omega);rw [<-o] at e2;injection e2 with e2;injection e2 with e3 e4;subst e3;subst e4;have z:=Z4c ak;refine z j u ?_;have h7:Zv r.n.log=Zv (r.n.log.take K) ++ Zv (r.n.log.drop K):=by rw [<-Z26,List.take_append_drop]
   rw [h7,List.getElem?_append_left (List.getElem?_eq_some_iff.1 hj).1];exact hj
  have am:Ah (∀ e∈r.n.log.take K ++ es,e.fits):=λe hm=>(List.mem_append.1 hm).elim (λp=>h.log.1 e (List.mem_of_mem_take p)) (ae e)
  have ad:Ah ((r.n.log.take K).length=K):=by unfold Ah;rw [List.length_take];omega
  have hd:decide ((K:Int)<(LN:Int))=true:=decide_eq_true (by omega);have ax:(K:Int)<(LN:Int):=by omega
  have ay:=λu=>run_slice3 u g LN s K hK t
  clear h a he m hf;go_enter func182,ntmps182
  go_wp2_with (at_builtin;refine Z89 rfl _ _ rfl g K _ es am rfl ad ar A ec ah rfl (by rw [ad.out];omega) af ?_;intro v3 d c i;obtain ⟨a3,c3,e3⟩:=c.shape;have ac:Ye w (I (Ac ⟨g,0,Ab⟩) LN s) d v3:=⟨i.but _,.inr (ownE_new c (by rw [Bc];omega))⟩;obtain ⟨⟨u1,au⟩,y,⟨u2,an⟩,aa,h4,h5⟩:=l.out d v3 (c.le ag) ac;have HF:Ah _:=And.intro h4 h5;generalize (r.n.log.take K ++ es).length=L3 at *;subst e3;clear c i h4 h5 ac)
  (try simp only [Av,Exit.then])
  exact bodyPost_end (Au rfl _ _ _) rfl ⟨rfl,_,HF.out⟩
end Go.Proofs.YtmmpoppgabadmaaGreat
namespace Go.Proofs.YtmmpoppgabadmaaGreat
open Go.Proofs.Tryz
open Go.RowKit
section
theorem Z33 {n:Nd}(g:Yp n.id n.sz n.el n.bt=true)(c:Z1z n.sz n.tm n.vo=true)(f:Z2o n.id n.sz n.tm n.vo n.ro n.ld=true)(k:n.log.length<=4096)(e:Jq n.tm 1 n.log=true)(i:inB n.cm 0 n.log.length=true)(b:Xr n.el n.nw n.dl n.hd=true)(h:Jo n.ro n.sz n.id n.gr=true)(j:Jw n.ro n.sz n.id n.log.length n.nw n.nx n.mt n.se n.st=true):Yb n=0:=by
 have a:¬(4096:Int)<n.log.length:=by omega
 unfold Yb Z4x;simp only [g,c,f,e,i,b,h,j,a,Bool.true_eq_false,if_false]
theorem Z68 (H:Int):∀(L:List Ent) (low:Int),L.Pairwise (λa c=>a.t<=c.t)->(∀ e∈L,entB e=true/\low<=e.t/\e.t<=H)->Jq H low L=true
 | [],_,_,_=>rfl
 | x :: L,low,hp,ha=>by
  have b:=ha x (by simp);obtain ⟨f,g⟩:=List.pairwise_cons.1 hp;have:=Z68 H L x.t g (λe he=>⟨(ha e (by simp [he])).1,f e he,(ha e (by simp [he])).2.2⟩);simp only [Jq,Al,Zj];exact ⟨⟨b.1,b.2⟩,this⟩
theorem entE_ok (l:List Int)(k:Nat)(t:Int)(r:1<=t)(a:t<=1073741824):entB (entE l k t)=true/\(entE l k t).t=entT l k t:=by
 have i:=entT_le l k t (by omega) a;have b:=Z6r l (k+1+1);have hi:inB (entT l k t) 1 1073741824=true:=by rw [Zj];omega
 unfold entE;split
 ·refine ⟨?_,rfl⟩
  unfold entB;simp only [hi,Bool.true_and];rfl
 ·refine ⟨?_,rfl⟩
  obtain ⟨e,j,o,f,n,c,h,p,m,l1,q,g⟩:=b;unfold entB;simp only [hi,Bool.true_and,beq_iff_eq];unfold Z13;rw [ifo,ifo,ifo,ifo,ifo,if_neg ?_,if_neg ?_]
  ·split <;> omega
  ·split <;> omega
theorem entT_lt (l:List Int)(k:Nat)(t:Int):entT l k t<=t+1:=by unfold entT;split <;> omega
theorem entsD_all (l:List Int)(k:Nat)(t:Int)(r:1<=t)(n:Nat)(q:t+n<=1073741824):(Y0 l k t n).1.Pairwise (λa c=>a.t<=c.t)/\(∀ e∈(Y0 l k t n).1,entB e=true/\t<=e.t/\e.t<=(Y0 l k t n).2.2)/\t<=(Y0 l k t n).2.2/\(Y0 l k t n).2.2<=t+n:=by
 induction n with
 | zero=>exact ⟨List.Pairwise.nil,(λe h=>by simp [Y0] at h),Int.le_refl _,by simp [Y0]⟩
 | succ n ih=>
  obtain ⟨m,i,s,p⟩:=ih (by omega);rw [Y0];dsimp only;have g:=entE_ok l (Y0 l k t n).2.1 (Y0 l k t n).2.2 (by omega) (by omega);have o:=entT_le l (Y0 l k t n).2.1 (Y0 l k t n).2.2 (by omega) (by omega);have j:=entT_lt l (Y0 l k t n).2.1 (Y0 l k t n).2.2;refine ⟨?_,?_,by omega,by push_cast;omega⟩
  ·rw [List.pairwise_append]
   refine ⟨m,List.pairwise_singleton _ _,λa ha b hb=>?_⟩;simp only [Bd] at hb;subst hb;rw [g.2];have:=(i a ha).2.2;omega
  ·intro e f
   rcases List.mem_append.1 f with f | f
   ·have:=i e f
    exact ⟨this.1,this.2.1,by omega⟩
   ·simp only [Bd] at f
    subst f;rw [g.2];exact ⟨g.1,by omega,Int.le_refl _⟩
theorem stD_wf (l:List Int)(k n:Nat)(s:n<=200):0<=(stD l k n).1/\(stD l k n).1<=1073741824/\0<=(stD l k n).2.1/\(stD l k n).2.1<=7/\((stD l k n).1=0->(stD l k n).2.1=0)/\(stD l k n).2.2.1.length<=n/\Jq (stD l k n).1 1 (stD l k n).2.2.1=true:=by
 unfold stD;split
 ·exact ⟨Int.le_refl _,(by omega:(0:Int)<=1073741824),Int.le_refl _,(by omega:(0:Int)<=7),λ_=>rfl,Bb _,rfl⟩
 ·have p:=Z6 l (k+1) (n+1)
  have q:=Z6 l (k+1+1) 3;have m:=Z6 l ((stE l k n).2.1+1+1) 8;have j:=Z6 l (stE l k n).2.1 3;have g:=entsD_all l (k+1+1+1) (1+((Z4 l (k+1+1) 3:Nat):Int)) (by omega) (Z4 l (k+1) (n+1)) (by omega);have c:(stE l k n).1.length=Z4 l (k+1) (n+1):=J9 _ _ _ _;obtain ⟨a,e2,e3,e4⟩:=g
  change (stE l k n).1.Pairwise _ at a
  change ∀ e∈(stE l k n).1,_/\_/\e.t<=(stE l k n).2.2 at e2
  change _<=(stE l k n).2.2 at e3
  change (stE l k n).2.2<=_ at e4
  have b:1<=lowV (stE l k n).1 (stE l k n).1.length/\lowV (stE l k n).1 (stE l k n).1.length<=300/\∀ e∈(stE l k n).1,e.t<=lowV (stE l k n).1 (stE l k n).1.length:=by
   generalize (stE l k n).1=L at *;generalize (stE l k n).2.2=TT at *;rcases List.eq_nil_or_concat L with rfl | ⟨L',x,hLx⟩
   ·exact ⟨(by decide),by simp [lowV],λe h=>by cases h⟩
   ·rw [List.concat_eq_append] at hLx
    subst hLx;have o:=e2 x (by simp);have i:lowV (L' ++ [x]) (L' ++ [x]).length=x.t:=by unfold lowV;simp
    rw [i];refine ⟨by omega,by omega,λe he=>?_⟩;rcases List.mem_append.1 he with he | he
    ·exact (List.pairwise_append.1 a).2.2 e he x (by simp)
    ·simp only [Bd] at he
     subst he;exact Int.le_refl _
  have f:lowV (stE l k n).1 (stE l k n).1.length<=stT l k n/\stT l k n<=1073741824:=by
   unfold stT;split <;> omega
  refine ⟨by show 0<=stT l k n;omega,f.2,by show (0:Int)<=(Z4 _ _ 8:Nat);omega,by show ((Z4 _ _ 8:Nat):Int)<=7;omega,λh=>?_,by show (stE l k n).1.length<=n;omega,?_⟩
  ·skip
   omega
  ·show Jq (stT l k n) 1 (stE l k n).1=true
   refine Z68 _ _ _ a λe he=>⟨(e2 e he).1,?_,?_⟩
   ·have:=(e2 e he).2.1;omega
   ·have:=b.2.2 e he;omega
structure NdW (n:Nd) (T V:Int):Prop where
 pl:Yp n.id n.sz n.el n.bt=true
 tm:n.tm=T
 vo:n.vo=V
 vt:Z1z n.sz n.tm n.vo=true
 lg:n.log.length<=4096
 ft:Jq n.tm 1 n.log=true
 cm:inB n.cm 0 n.log.length=true
 ck:Xr n.el n.nw n.dl n.hd=true
 ro:n.ro=0
 ld:n.ld=0
 gr:n.gr = []
 nx:n.nx = []
 mt:n.mt = []
 se:n.se = []
 st:n.st = []
theorem toutW (el dr:Int)(c:1<=el)(a:el<=1000):0<=Jf el dr/\Jf el dr<=2*el:=by
 rw [toutC_in dr (by rw [Zj];omega)];unfold modI;have e:=Int.emod_nonneg dr (b:=el) (by omega);have f:=Int.emod_lt_of_pos dr (b:=el) (by omega);omega
theorem dn0_w (l:List Int)(k n:Nat)(m:n<=200):NdW (dn0 l k n).n (stD l k n).1 ((stD l k n).2.1%((dnH l (stD l k n).2.2.2).sz+1))/\(dn0 l k n).n.nw=0/\(dn0 l k n).n.id=(dnH l (stD l k n).2.2.2).id/\(dn0 l k n).n.sz=(dnH l (stD l k n).2.2.2).sz/\(dn0 l k n).n.el=(dnH l (stD l k n).2.2.2).el/\(dn0 l k n).n.log.length<=n:=by
 obtain ⟨c,g,u,t,vt,ln,ft⟩:=stD_wf l k n m;obtain ⟨z1,r,y,e2,x,w⟩:=dnH_le l (stD l k n).2.2.2
 have o:(dnH l (stD l k n).2.2.2).sz=3∨(dnH l (stD l k n).2.2.2).sz=5∨(dnH l (stD l k n).2.2.2).sz=7:=by
  have v:=Z6 l (stD l k n).2.2.2 3;unfold dnH;dsimp only;split <;> omega
 have p:=Z6 l (dnH l (stD l k n).2.2.2).k (dnH l (stD l k n).2.2.2).el;have j:=Int.emod_nonneg (stD l k n).2.1 (b:=((dnH l (stD l k n).2.2.2).sz:Int)+1) (by omega);have q:=Int.emod_lt_of_pos (stD l k n).2.1 (b:=((dnH l (stD l k n).2.2.2).sz:Int)+1) (by omega);have i:(stD l k n).1=0->(stD l k n).2.1%(((dnH l (stD l k n).2.2.2).sz:Int)+1)=0:=λh=>by rw [vt h];exact Int.zero_emod _
 have f:Yp (dnH l (stD l k n).2.2.2).id (dnH l (stD l k n).2.2.2).sz (dnH l (stD l k n).2.2.2).el (1+(Z4 l (dnH l (stD l k n).2.2.2).k (dnH l (stD l k n).2.2.2).el:Nat))=true:=by
  simp only [Yp,Al,Zj];refine ⟨?_,by omega,by omega,by omega,by omega⟩;rcases o with h | h | h <;> (rw [h];rfl)
 have s:=toutW ((dnH l (stD l k n).2.2.2).el:Int) (Yo l ((dnH l (stD l k n).2.2.2).k+Zf (dnH l (stD l k n).2.2.2).el)) (by omega) (by omega)
 have e:Z1z ((dnH l (stD l k n).2.2.2).sz:Int) (stD l k n).1 ((stD l k n).2.1%(((dnH l (stD l k n).2.2.2).sz:Int)+1))=true:=by
  simp only [Z1z,Al,Bool.or_eq_true,Zj,beq_iff_eq,decide_eq_true_eq];refine ⟨⟨c,g⟩,⟨j,by omega⟩,?_⟩;rcases Int.lt_or_eq_of_le c with h | h
  ·exact .inr h
  ·exact .inl (i h.symm)
 have a:newB (dnH l (stD l k n).2.2.2).id (dnH l (stD l k n).2.2.2).sz (dnH l (stD l k n).2.2.2).el (1+(Z4 l (dnH l (stD l k n).2.2.2).k (dnH l (stD l k n).2.2.2).el:Nat)) (stD l k n).1 ((stD l k n).2.1%(((dnH l (stD l k n).2.2.2).sz:Int)+1)) (stD l k n).2.2.1=true:=by
  unfold newB stB;simp only [f,ft,Bool.true_and,Bool.and_true,Al,decide_eq_true_eq];refine ⟨⟨?_,by omega⟩,by omega⟩;simp only [Z50,Al,Bool.or_eq_true,Zj,beq_iff_eq,decide_eq_true_eq];refine ⟨⟨c,g⟩,⟨j,by omega⟩,?_⟩;rcases Int.lt_or_eq_of_le c with h | h
  ·exact .inl h
  ·exact .inr (i h.symm)
 have hd:(dn0 l k n).n=⟨(dnH l (stD l k n).2.2.2).id,(dnH l (stD l k n).2.2.2).sz,(dnH l (stD l k n).2.2.2).el,1+(Z4 l (dnH l (stD l k n).2.2.2).k (dnH l (stD l k n).2.2.2).el:Nat),(stD l k n).1,(stD l k n).2.1%(((dnH l (stD l k n).2.2.2).sz:Int)+1),0,0,0,0,Jf (dnH l (stD l k n).2.2.2).el (Yo l ((dnH l (stD l k n).2.2.2).k+Zf (dnH l (stD l k n).2.2.2).el)),0,(stD l k n).2.2.1,[],[],[],[],[]⟩:=by
  show newN _ _ _ _ _ _ _ _=_;unfold newN;rw [if_pos a]
 rw [hd];refine ⟨⟨f,rfl,rfl,e,by show (stD l k n).2.2.1.length<=4096;omega,ft,by rw [Zj];dsimp only;omega,?_,rfl,rfl,rfl,rfl,rfl,rfl,rfl⟩,rfl,rfl,rfl,rfl,ln⟩;simp only [Xr,Al,Zj];omega
variable {d:DnS}{T V:Int}
theorem dnNow_w (l:List Int)(h:NdW d.n T V)(e:d.n.nw=0):NdW (Z0v l d).n T V/\0<=(Z0v l d).n.nw/\(Z0v l d).n.id=d.n.id/\(Z0v l d).n.sz=d.n.sz/\(Z0v l d).n.el=d.n.el/\(Z0v l d).n.log=d.n.log:=by
 have c:=Z6 l (d.k+1+1) 2;have b:=Z6 l d.k 40;have a:=h.ck;simp only [Xr,Al,Zj] at a;unfold Z0v;split
 ·refine ⟨⟨h.pl,h.tm,h.vo,h.vt,h.lg,h.ft,h.cm,?_,h.ro,h.ld,h.gr,h.nx,h.mt,h.se,h.st⟩,?_,rfl,rfl,rfl,rfl⟩
  ·simp only [Xr,Al,Zj];omega
  ·dsimp only;omega
 ·refine ⟨⟨h.pl,h.tm,h.vo,h.vt,h.lg,h.ft,h.cm,?_,h.ro,h.ld,h.gr,h.nx,h.mt,h.se,h.st⟩,?_,rfl,rfl,rfl,rfl⟩
  ·simp only [Xr,Al,Zj];omega
  ·dsimp only;omega
theorem dnDl_w (l:List Int)(el:Nat)(h:NdW d.n T V)(c:d.n.el=el)(b:2<=el):NdW (Z11 l el d).n T V/\(Z11 l el d).n.nw=d.n.nw/\(Z11 l el d).n.id=d.n.id/\(Z11 l el d).n.sz=d.n.sz/\(Z11 l el d).n.el=d.n.el/\(Z11 l el d).n.log=d.n.log:=by
 have f:=Z6 l (d.k+Zf (2*el+1)+1) 2;have e:=Z6 l d.k (2*el+1);have a:=h.ck;simp only [Xr,Al,Zj] at a;unfold Z11;dsimp only;split
 ·refine ⟨⟨h.pl,h.tm,h.vo,h.vt,h.lg,h.ft,h.cm,?_,h.ro,h.ld,h.gr,h.nx,h.mt,h.se,h.st⟩,rfl,rfl,rfl,rfl,rfl⟩
  simp only [Xr,Al,Zj];omega
 ·refine ⟨⟨h.pl,h.tm,h.vo,h.vt,h.lg,h.ft,h.cm,?_,h.ro,h.ld,h.gr,h.nx,h.mt,h.se,h.st⟩,rfl,rfl,rfl,rfl,rfl⟩
  simp only [Xr,Al,Zj];omega
theorem dnHd_w (l:List Int)(el:Nat)(h:NdW d.n T V):NdW (Z1v l el d).n T V/\(Z1v l el d).n.nw=d.n.nw/\(Z1v l el d).n.id=d.n.id/\(Z1v l el d).n.sz=d.n.sz/\(Z1v l el d).n.el=d.n.el/\(Z1v l el d).n.log=d.n.log:=by
 have b:=Z6 l d.k (min d.n.nw.toNat (2*el)+1);have a:=h.ck;simp only [Xr,Al,Zj] at a;unfold Z1v;refine ⟨⟨h.pl,h.tm,h.vo,h.vt,h.lg,h.ft,h.cm,?_,h.ro,h.ld,h.gr,h.nx,h.mt,h.se,h.st⟩,rfl,rfl,rfl,rfl,rfl⟩;simp only [Xr,Al,Zj];omega
theorem dnCm_w (l:List Int)(h:NdW d.n T V):NdW (Z2v l d).n T V/\(Z2v l d).n.nw=d.n.nw/\(Z2v l d).n.id=d.n.id/\(Z2v l d).n.sz=d.n.sz/\(Z2v l d).n.el=d.n.el/\(Z2v l d).n.log=d.n.log:=by
 have a:=Z6 l d.k (d.n.log.length+1);unfold Z2v;refine ⟨⟨h.pl,h.tm,h.vo,h.vt,h.lg,h.ft,?_,h.ck,h.ro,h.ld,h.gr,h.nx,h.mt,h.se,h.st⟩,rfl,rfl,rfl,rfl,rfl⟩;rw [Zj];dsimp only;omega
def Z1a (l:List Int)(k n:Nat):DnS:=Z2v l (Z1v l (dnH l (stD l k n).2.2.2).el (Z11 l (dnH l (stD l k n).2.2.2).el (Z0v l (dn0 l k n))))
theorem dnPre_w (l:List Int)(k n:Nat)(r:n<=200):NdW (Z1a l k n).n (stD l k n).1 ((stD l k n).2.1%((dnH l (stD l k n).2.2.2).sz+1))/\0<=(Z1a l k n).n.nw/\(Z1a l k n).n.id=(dnH l (stD l k n).2.2.2).id/\(Z1a l k n).n.sz=(dnH l (stD l k n).2.2.2).sz/\(Z1a l k n).n.el=(dnH l (stD l k n).2.2.2).el/\(Z1a l k n).n.log.length<=n:=by
 obtain ⟨q,b,h,v,a,m⟩:=dn0_w l k n r;obtain ⟨b1,p,w,b4,b5,g⟩:=dnNow_w l q b;obtain ⟨z1,z2,e1,e2,i1,i2⟩:=dnH_le l _;obtain ⟨f,s,j,e,u,c6⟩:=dnDl_w l _ b1 (b5.trans a) e1;obtain ⟨d1,t,i,d4,d5,x⟩:=dnHd_w l _ f;obtain ⟨z,f2,c,y,o,f6⟩:=dnCm_w l d1;refine ⟨z,?_,?_,?_,?_,?_⟩
 ·unfold Z1a;rw [f2,t,s];exact p
 ·unfold Z1a;rw [c,i,j,w];exact h
 ·unfold Z1a;rw [y,d4,e,b4];exact v
 ·unfold Z1a;rw [o,d5,u,b5];exact a
 ·unfold Z1a;rw [f6,x,c6,g];exact m
theorem rise_of (a:Int):∀(l:List Int) (last:Int),l.Pairwise (· < ·)->(∀ y∈l,last<y/\y<=a)->Z1w a last l=true
 | [],_,_,_=>rfl
 | x :: l,last,hp,ha=>by
  obtain ⟨b,c⟩:=List.pairwise_cons.1 hp;have e:=ha x (by simp);simp only [Z1w,Al,Zj];exact ⟨by omega,rise_of a l x c λy hy=>⟨b y hy,(ha y (by simp [hy])).2⟩⟩
theorem dnGrK_ok (l:List Int)(id ex k:Nat)(hi:1<=id):∀ j,(Je l id ⟨[],ex,k⟩ j).gr.Pairwise (· < ·)/\(∀ y∈(Je l id ⟨[],ex,k⟩ j).gr,0<y/\y<=(j:Int))/\(id<=j->(id:Int)∈(Je l id ⟨[],ex,k⟩ j).gr)/\(Je l id ⟨[],ex,k⟩ j).gr.length+(Je l id ⟨[],ex,k⟩ j).ex<=ex+(if id<=j then 1 else 0)
 | 0=>⟨List.Pairwise.nil,(λy h=>by simp [Je] at h),λh=>by omega,by simp [Je]⟩
 | j+1=>by
  obtain ⟨n,m,o,i⟩:=dnGrK_ok l id ex k hi j;rw [Je];generalize Je l id ⟨[],ex,k⟩ j=r at *
  have f:(r.gr ++ [(j:Int)+1]).Pairwise (· < ·):=by
   rw [List.pairwise_append];refine ⟨n,List.pairwise_singleton _ _,λa ha b hb=>?_⟩;simp only [Bd] at hb;have:=m a ha;omega
  have e:∀ y∈r.gr ++ [(j:Int)+1],0<y/\y<=((j+1:Nat):Int):=λy hy=>by
   rcases List.mem_append.1 hy with hy | hy
   ·have:=m y hy;push_cast;omega
   ·simp only [Bd] at hy;push_cast;omega
  have g:∀ y∈r.gr,0<y/\y<=((j+1:Nat):Int):=λy hy=>by have:=m y hy;push_cast;omega
  split
  ·rename_i hj
   rw [ifo] at i;refine ⟨f,e,λ_=>by simp;right;omega,?_⟩;rw [if_pos (by omega)];simp;omega
  ·rename_i hj
   have c:(if id<=j+1 then 1 else 0)=(if id<=j then 1 else 0):=by split <;> split <;> omega
   split
   ·rename_i hx
    split
    ·refine ⟨f,e,λh=>List.mem_append_left _ (o (by omega)),?_⟩
     rw [c];simp;omega
    ·exact ⟨n,g,λh=>o (by omega),c▸i⟩
   ·exact ⟨n,g,λh=>o (by omega),c▸i⟩
theorem Z4h (a:List Int)(x:Int)(j i:Nat)(h:a.length=j):(a ++ [x]).getD i 0=if i<j then a.getD i 0 else if i=j then x else 0:=by
 subst h;simp only [Ba];split
 ·rename_i hi;rw [List.getElem?_append_left hi]
 ·rename_i hi
  rw [List.getElem?_append_right (by omega)];split
  ·rename_i he;subst he;simp
  ·rename_i he
   rw [Bv (by simp;omega)];rfl
theorem prog_snoc (id ln nw:Int)(a b c d:List Int)(x y z u:Int)(j:Nat)(g:a.length=j)(f:b.length=j)(l:c.length=j)(hd:d.length=j)(h:∀ i,i<j->Z0y ((i:Int)+1) id ln nw (a.getD i 0) (b.getD i 0) (c.getD i 0) (d.getD i 0)=true)(k:Z0y ((j:Int)+1) id ln nw x y z u=true):∀ i,i<j+1->Z0y ((i:Int)+1) id ln nw ((a ++ [x]).getD i 0) ((b ++ [y]).getD i 0) ((c ++ [z]).getD i 0) ((d ++ [u]).getD i 0)=true:=λi hi=>by
 rw [Z4h a x j i g,Z4h b y j i f,Z4h c z j i l,Z4h d u j i hd];by_cases e:i<j
 ·simp only [e,if_true];exact h i e
 ·have m:i=j:=by omega
  subst m;simp only [Nat.lt_irrefl,if_true,if_false];exact k
theorem dnRow_ok (l:List Int)(h:DnH)(LN:Nat)(nw:Int)(k:Nat)(f:0<=nw):∀ j,(Xq l h LN nw ⟨[],[],[],[],k⟩ j).nx.length=j/\(Xq l h LN nw ⟨[],[],[],[],k⟩ j).mt.length=j/\(Xq l h LN nw ⟨[],[],[],[],k⟩ j).se.length=j/\(Xq l h LN nw ⟨[],[],[],[],k⟩ j).st.length=j/\∀ i,i<j->Z0y ((i:Int)+1) h.id LN nw ((Xq l h LN nw ⟨[],[],[],[],k⟩ j).nx.getD i 0) ((Xq l h LN nw ⟨[],[],[],[],k⟩ j).mt.getD i 0) ((Xq l h LN nw ⟨[],[],[],[],k⟩ j).se.getD i 0) ((Xq l h LN nw ⟨[],[],[],[],k⟩ j).st.getD i 0)=true
 | 0=>⟨rfl,rfl,rfl,rfl,λi h=>by omega⟩
 | j+1=>by
  obtain ⟨c,b,e,a,g⟩:=dnRow_ok l h LN nw k f j;rw [Xq];dsimp only;generalize Xq l h LN nw ⟨[],[],[],[],k⟩ j=r at *;split
  ·rename_i hj
   refine ⟨by simp [c],by simp [b],by simp [e],by simp [a],?_⟩;refine prog_snoc _ _ _ _ _ _ _ _ _ _ _ _ c b e a g ?_;unfold Z0y;rw [if_pos (by omega)];rfl
  ·rename_i hj
   refine ⟨by simp [c],by simp [b],by simp [e],by simp [a],?_⟩;refine prog_snoc _ _ _ _ _ _ _ _ _ _ _ _ c b e a g ?_;have m:=Z6 l r.k (min LN 6+1);generalize hp1:Z4 l r.k (min LN 6+1)=P1 at *;have o:=Z6 l (r.k+1) (LN+1-P1);have n:=Z6 l (r.k+1+Zf (LN+1-P1)+1) (min nw.toNat (h.el+2)+1);have p:=Z6 l (r.k+1+Zf (LN+1-P1)+1+Zf (min nw.toNat (h.el+2)+1)) (min nw.toNat (h.el+2)+1);unfold Z0y;rw [ifo];simp only [Al,Zj];refine ⟨by omega,⟨?_,?_⟩,by omega,by omega⟩
   ·split <;> omega
   ·split <;> omega
theorem dnOwn_fit (T:Int)(L:List Ent)(o:Nat)(g:1<=T)(p:T<=1073741824)(j:Jq T 1 L=true):Jq T 1 (X6 T L o)=true/\(X6 T L o).length=L.length:=by
 obtain ⟨r,k⟩:=Z6q T L 1 j
 have m:∀(L:List Ent) (low:Int),Jq T low L=true->∀ e∈L,entB e=true:=λL=>by
  induction L with
  | nil=>intro low _ e f;cases f
  | cons x L ih=>
   intro low h e f;simp only [Jq,Al] at h;rcases List.mem_cons.1 f with rfl | f
   ·exact h.1.1
   ·exact ih _ h.2 e f
 have i:=m L 1 j;unfold X6;refine ⟨Z68 _ _ _ ?_ ?_,?_⟩
 ·rw [List.pairwise_append]
  refine ⟨r.sublist (List.take_sublist _ _),?_,?_⟩
  ·rw [List.pairwise_map]
   exact List.pairwise_of_forall (λa b=>Int.le_refl _)
  ·intro a n b l
   obtain ⟨c,_,rfl⟩:=List.mem_map.1 l;exact (k a (List.mem_of_mem_take n)).2
 ·intro e f
  rcases List.mem_append.1 f with f | f
  ·exact ⟨i e (List.mem_of_mem_take f),k e (List.mem_of_mem_take f)⟩
  ·obtain ⟨c,q,rfl⟩:=List.mem_map.1 f
   have:=i c (List.mem_of_mem_drop q);refine ⟨?_,g,Int.le_refl _⟩;unfold entB at this ⊢;simp only [Al,Zj] at this ⊢;exact ⟨⟨g,p⟩,this.2⟩
 ·simp <;> omega
theorem dnD_ok (l:List Int)(k n:Nat)(u:n<=200):Yb (dnD l k n).n=0:=by
 obtain ⟨a,r,g,ac,aa,ab⟩:=dnPre_w l k n u;obtain ⟨z1,z2,e1,e2,i1,w⟩:=dnH_le l (stD l k n).2.2.2;obtain ⟨t0,t1,_⟩:=stD_wf l k n u;rw [show dnD l k n=Z34 l (dnH l (stD l k n).2.2.2) (Z0d l (dnH l (stD l k n).2.2.2) (Z1x l (dnH l (stD l k n).2.2.2) (stD l k n).1 (Z1a l k n))) from rfl];generalize dnH l (stD l k n).2.2.2=H at *;generalize (stD l k n).1=T at *;generalize hV:(stD l k n).2.1%((H.sz:Int)+1)=V at *;generalize Z1a l k n=d at *;clear hV;have f:∀ ro:Int,ro≠3->∀(ln:Int),Jw ro d.n.sz d.n.id ln d.n.nw [] [] [] []=true:=λro h ln=>by unfold Jw;rw [if_neg h];rfl
 have c:∀ x:Int,0<=x->x<=d.n.sz->x≠d.n.id->Z2o d.n.id d.n.sz d.n.tm d.n.vo 0 x=true:=λx h1 h2 h3=>by
  unfold Z2o;simp [inB,h1,h2,h3]
 have q:=a.pl;simp only [Yp,Al,Zj] at q
 have z:∀(ro:Int) (kk:Nat),ro=1∨ro=2->Jo ro d.n.sz d.n.id (Je l H.id ⟨[],Z4 l kk (H.sz / 2),kk+1⟩ H.sz).gr=true:=λro kk hr=>by
  have hp:=Z6 l kk (H.sz / 2);obtain ⟨g1,g2,g3,g4⟩:=dnGrK_ok l H.id (Z4 l kk (H.sz / 2)) (kk+1) i1 H.sz;rw [if_pos w] at g4;unfold Jo;rw [ifo];simp only [Al,Bool.not_eq_true'];refine ⟨rise_of _ _ _ g1 λy hy=>by have:=g2 y hy;omega,?_,?_⟩
  ·unfold Z2e;rw [List.contains_iff_mem,g];exact g3 w
  ·unfold majB;rw [decide_eq_false_iff_not];omega
 unfold Z1x;dsimp only;by_cases v:Z4 l d.k 8=0
 ·rw [if_pos v]
  have m0:=Int.emod_nonneg ((H.id:Int)+(Z4 l (d.k+1) (H.sz-1):Nat)) (b:=(H.sz:Int)) (by omega);have m1:=Int.emod_lt_of_pos ((H.id:Int)+(Z4 l (d.k+1) (H.sz-1):Nat)) (b:=(H.sz:Int)) (by omega);obtain ⟨x,hx⟩:∃ x,x=1+((H.id:Int)+(Z4 l (d.k+1) (H.sz-1):Nat))%(H.sz:Int):=⟨_,rfl⟩;rw [<-hx];unfold Z0d;dsimp only;rw [if_neg (by rw [a.ro];omega)];unfold Z34;dsimp only;rw [if_neg (by rw [a.ro];omega)];refine Z33 a.pl a.vt ?_ a.lg a.ft a.cm a.ck ?_ ?_
  ·dsimp only
   rw [a.ro];split
   ·exact c 0 (Int.le_refl _) (by omega) (by omega)
   ·exact c x (by omega) (by omega) (by omega)
  ·dsimp only;rw [a.ro,a.gr];rfl
  ·dsimp only;rw [a.ro,a.nx,a.mt,a.se,a.st];exact f 0 (by omega) _
 ·rw [if_neg v]
  by_cases s:Z4 l d.k 8<3
  ·rw [if_pos s]
   unfold Z0d;dsimp only;rw [if_pos (Or.inl rfl),a.gr];unfold Z34;dsimp only;rw [ifo];refine Z33 a.pl a.vt ?_ a.lg a.ft a.cm a.ck (z 1 _ (Or.inl rfl)) ?_
   ·dsimp only;rw [a.ld];unfold Z2o;simp [inB];omega
   ·dsimp only;rw [a.nx,a.mt,a.se,a.st];exact f 1 (by omega) _
  ·rw [if_neg s]
   by_cases o:0<T
   ·have j:0<d.n.tm:=a.tm▸o
    have m:Z1z d.n.sz d.n.tm (H.id:Int)=true:=by
     have:=a.vt;unfold Z1z at this ⊢;simp only [Al,Bool.or_eq_true,Zj,decide_eq_true_eq] at this ⊢;exact ⟨this.1,by omega,Or.inr j⟩
    by_cases t:Z4 l d.k 8<5
    ·rw [if_pos ⟨t,o⟩]
     unfold Z0d;dsimp only;rw [if_pos (Or.inr rfl),a.gr];unfold Z34;dsimp only;rw [ifo];refine Z33 a.pl m ?_ a.lg a.ft a.cm a.ck (z 2 _ (Or.inr rfl)) ?_
     ·dsimp only;rw [a.ld];unfold Z2o;simp [inB,j,g];omega
     ·dsimp only;rw [a.nx,a.mt,a.se,a.st];exact f 2 (by omega) _
    ·rw [if_neg (λh=>t h.1),if_pos ⟨by omega,o⟩]
     unfold Z0d;dsimp only;rw [ifo];unfold Z34;dsimp only;rw [if_pos rfl,a.nx,a.mt,a.se,a.st];obtain ⟨f1,f2⟩:=dnOwn_fit d.n.tm d.n.log (Z4 l (d.k+1) 4) (by omega) (a.tm▸t1) a.ft;have p:=a.cm;rw [Zj] at p;obtain ⟨r1,r2,r3,r4,r5⟩:=dnRow_ok l H (X6 d.n.tm d.n.log (Z4 l (d.k+1) 4)).length d.n.nw (d.k+1+1+1) r H.sz;refine Z33 a.pl m ?_ (by dsimp only;rw [f2];exact a.lg) f1 ?_ a.ck ?_ ?_
     ·dsimp only;unfold Z2o;simp [inB,j,g];omega
     ·dsimp only;rw [Zj,f2];split <;> omega
     ·dsimp only;rw [a.gr];rfl
     ·dsimp only
      unfold Jw;rw [if_pos rfl,Al,Xu];refine ⟨⟨by omega,by omega,by omega,by omega⟩,?_⟩;unfold Z53;rw [List.all_eq_true];intro i hi;rw [List.mem_range'_1] at hi;rw [g];exact r5 i (by omega)
   ·rw [if_neg (λh=>o h.2),if_neg (λh=>o h.2)]
    unfold Z0d;dsimp only;rw [if_neg (by rw [a.ro];omega)];unfold Z34;dsimp only;rw [if_neg (by rw [a.ro];omega)];refine Z33 a.pl a.vt ?_ a.lg a.ft a.cm a.ck ?_ ?_
    ·dsimp only;rw [a.ro,a.ld];exact c 0 (Int.le_refl _) (by omega) (by omega)
    ·dsimp only;rw [a.ro,a.gr];rfl
    ·dsimp only;rw [a.ro,a.nx,a.mt,a.se,a.st];exact f 0 (by omega) _
end
section
def Z41 (n:Nd)(j:Nat):Prop:=
 if (j:Int)+1=n.id then n.nx.getD j 0=0/\n.mt.getD j 0=0/\n.se.getD j 0=0/\n.st.getD j 0=0
 else (1<=n.nx.getD j 0/\n.nx.getD j 0<=(n.log.length:Int)+1)/\(0<=n.mt.getD j 0/\n.mt.getD j 0<=n.nx.getD j 0-1)/\(0<=n.se.getD j 0/\n.se.getD j 0<=n.nw)/\(0<=n.st.getD j 0/\n.st.getD j 0<=n.nw)
structure Ya (n:Nd):Prop where
 sz:n.sz=3∨n.sz=5∨n.sz=7
 id:1<=n.id/\n.id<=n.sz
 el:2<=n.el/\n.el<=1000
 bt:1<=n.bt/\n.bt<=n.el
 tm:0<=n.tm/\n.tm<=1073741824
 vo:0<=n.vo/\n.vo<=n.sz
 vt:n.vo=0∨0<n.tm
 ro:0<=n.ro/\n.ro<=3
 ld:0<=n.ld/\n.ld<=n.sz
 r0:n.ro=0->n.ld≠n.id
 r1:n.ro=1->n.ld=0
 r2:n.ro=2->n.ld=0/\0<n.tm/\n.vo=n.id
 r3:n.ro=3->n.ld=n.id/\0<n.tm/\n.vo=n.id
 len:n.log.length<=4096
 pw:n.log.Pairwise (λa c=>a.t<=c.t)
 en:∀ e∈n.log,entB e=true/\1<=e.t/\e.t<=n.tm
 cm:0<=n.cm/\n.cm<=n.log.length
 nw:0<=n.nw/\n.nw<=1099511627776
 dl:0<=n.dl/\n.dl<=n.nw+2*n.el
 hd:0<=n.hd/\n.hd<=n.nw
 g0:¬(n.ro=1∨n.ro=2)->n.gr = []
 g1:n.ro=1∨n.ro=2->n.gr.Pairwise (· < ·)/\(∀ y∈n.gr,1<=y/\y<=n.sz)/\n.id∈n.gr/\(n.gr.length:Int)<=n.sz / 2
 l0:n.ro≠3->n.nx = []/\n.mt = []/\n.se = []/\n.st = []
 l1:n.ro=3->((n.nx.length:Int)=n.sz/\(n.mt.length:Int)=n.sz/\(n.se.length:Int)=n.sz/\(n.st.length:Int)=n.sz)/\∀ j:Nat,(j:Int)<n.sz->Z41 n j
theorem Z69 (H:Int):∀(L:List Ent) (low:Int),Jq H low L=true->∀ e∈L,entB e=true
 | [],_,_=>λe h=>by cases h
 | x :: L,low,h=>λe he=>by
  simp only [Jq,Al] at h;rcases List.mem_cons.1 he with rfl | he
  ·exact h.1.1
  ·exact Z69 H L x.t h.2 e he
theorem prgOk_iff (n:Nd)(j:Nat):Z0y ((j:Int)+1) n.id n.log.length n.nw (n.nx.getD j 0) (n.mt.getD j 0) (n.se.getD j 0) (n.st.getD j 0)=true↔Z41 n j:=by
 unfold Z0y Z41;split
 ·simp only [Al,beq_iff_eq]
 ·simp only [Al,Zj]
theorem nodeN_open (n:Nd)(h:Yb n=0):Yp n.id n.sz n.el n.bt=true/\Z1z n.sz n.tm n.vo=true/\Z2o n.id n.sz n.tm n.vo n.ro n.ld=true/\n.log.length<=4096/\Jq n.tm 1 n.log=true/\inB n.cm 0 n.log.length=true/\Xr n.el n.nw n.dl n.hd=true/\Jo n.ro n.sz n.id n.gr=true/\Jw n.ro n.sz n.id n.log.length n.nw n.nx n.mt n.se n.st=true:=by
 unfold Yb Z4x at h;split at h
 ·simp at h
 rename_i h1;split at h
 ·simp at h
 rename_i h2;split at h
 ·simp at h
 rename_i h3;split at h
 ·simp at h
 rename_i h4;split at h
 ·simp at h
 rename_i h5;split at h
 ·simp at h
 rename_i h6;split at h
 ·simp at h
 rename_i h7;split at h
 ·simp at h
 rename_i h8;split at h
 ·simp at h
 rename_i h9;exact ⟨by simpa using h1,by simpa using h2,by simpa using h3,by omega,by simpa using h5,by simpa using h6,by simpa using h7,by simpa using h8,by simpa using h9⟩
theorem Jm (n:Nd):Yb n=0↔Ya n:=by
 constructor
 ·intro h
  obtain ⟨o,m,s,h4,u,z,l,f,i⟩:=nodeN_open n h;simp only [Yp,sizB,Al,Bool.or_eq_true,beq_iff_eq,Zj] at o;simp only [Z1z,Al,Bool.or_eq_true,beq_iff_eq,Zj,decide_eq_true_eq] at m;simp only [Xr,Al,Zj] at l;rw [Zj] at z;obtain ⟨v,p2⟩:=Z6q _ n.log 1 u;unfold Z2o at s;simp only [Al,Zj] at s;obtain ⟨k,q,g⟩:=s;refine ⟨by omega,o.2.1,o.2.2.1,o.2.2.2,m.1,m.2.1,m.2.2,k,q,?_,?_,?_,?_,h4,v,λe he=>⟨Z69 _ _ _ u e he,p2 e he⟩,by omega,l.1,l.2.1,l.2.2,?_,?_,?_,?_⟩
  ·intro e
   rw [ifo,ifo,ifo] at g;simpa using g
  ·intro e
   rw [if_pos e] at g;simpa using g
  ·intro e
   rw [ifo,if_pos e] at g;simpa using g
  ·intro e
   rw [ifo,ifo,if_pos e] at g;simpa using g
  ·intro e
   unfold Jo at f;rw [if_pos (by omega)] at f;exact List.length_eq_zero_iff.1 (by have i:(n.gr.length:Int)=0:=(by simpa using f);omega)
  ·intro e
   unfold Jo at f;rw [ifo] at f;simp only [Al,Z2e,majB,Bool.not_eq_true',decide_eq_false_iff_not,List.contains_iff_mem] at f;obtain ⟨q1,q2⟩:=rise_pw _ n.gr 0 f.1;exact ⟨q1,λy hy=>by have:=q2 y hy;omega,f.2.1,by omega⟩
  ·intro e
   unfold Jw at i;rw [if_neg e,Al,Xu] at i;obtain ⟨⟨p,e2,e3,e4⟩,_⟩:=i;exact ⟨List.length_eq_zero_iff.1 (by omega),List.length_eq_zero_iff.1 (by omega),List.length_eq_zero_iff.1 (by omega),List.length_eq_zero_iff.1 (by omega)⟩
  ·intro e
   unfold Jw at i;rw [if_pos e,Al,Xu] at i;exact ⟨i.1,λj t=>(prgOk_iff n j).1 (Z5o i.2 j (by omega))⟩
 ·intro h
  have aa:=h.sz;refine Z33 ?_ ?_ ?_ h.len (Z68 _ n.log 1 h.pw h.en) ?_ ?_ ?_ ?_
  ·simp only [Yp,sizB,Al,Bool.or_eq_true,beq_iff_eq,Zj]
   exact ⟨by omega,h.id,h.el,h.bt⟩
  ·simp only [Z1z,Al,Bool.or_eq_true,beq_iff_eq,Zj,decide_eq_true_eq]
   exact ⟨h.tm,h.vo,h.vt⟩
  ·unfold Z2o
   simp only [Al,Zj];refine ⟨h.ro,h.ld,?_⟩;have k:=h.ro;by_cases p:n.ro=1
   ·rw [if_pos p]
    simpa using h.r1 p
   ·rw [if_neg p]
    by_cases e2:n.ro=2
    ·rw [if_pos e2]
     simpa using h.r2 e2
    ·rw [if_neg e2]
     by_cases e3:n.ro=3
     ·rw [if_pos e3]
      simpa using h.r3 e3
     ·rw [if_neg e3]
      simpa using h.r0 (by omega)
  ·rw [Zj];exact h.cm
  ·simp only [Xr,Al,Zj]
   exact ⟨h.nw,h.dl,h.hd⟩
  ·unfold Jo
   by_cases e:n.ro=1∨n.ro=2
   ·rw [ifo]
    obtain ⟨g1,g2,w,g4⟩:=h.g1 e;simp only [Al,Z2e,majB,Bool.not_eq_true',decide_eq_false_iff_not,List.contains_iff_mem];exact ⟨rise_of _ n.gr 0 g1 (λy hy=>by have:=g2 y hy;omega),w,by omega⟩
   ·rw [if_pos (by omega),h.g0 e]
    rfl
  ·unfold Jw
   by_cases e:n.ro=3
   ·obtain ⟨x,hp⟩:=h.l1 e
    rw [if_pos e,Al,Xu];refine ⟨x,?_⟩;unfold Z53;rw [List.all_eq_true];intro j t;rw [List.mem_range'_1] at t;exact (prgOk_iff n j).2 (hp j (by omega))
   ·obtain ⟨a,b,c,d⟩:=h.l0 e
    rw [if_neg e,a,b,c,d];rfl
structure Kpt (a b:Nd):Prop where
 ok:Ya b
 id:b.id=a.id
 sz:b.sz=a.sz
 tm:a.tm<=b.tm
 cm:a.cm<=b.cm
 pre:b.log.take a.cm.toNat=a.log.take a.cm.toNat
 vo:a.tm=b.tm->a.vo≠0->b.vo=a.vo
 lg:a.tm=b.tm->a.ro=3->b.log.take a.log.length=a.log
def MsOk (id sz:Int)(m:Mg):Prop:=msB m=0/\m.fr=id/\m.td<=sz
structure KpR (a:Nd) (r:Rn):Prop where
 k:Kpt a r.n
 out:∀ m∈r.out,MsOk a.id a.sz m
 c9:r.code≠9
theorem Kpt.refl {a:Nd}(h:Ya a):Kpt a a:=⟨h,rfl,rfl,Int.le_refl _,Int.le_refl _,rfl,λ_ _=>rfl,λ_ _=>List.take_length⟩
variable {r:Rn}
theorem Ya.lone (h:Ya r.n):Ya r.lone.n:=by
 obtain ⟨s,p,x,m,v,l,o,h8,h9,z,j,w,u,f,b,i,g,d,a,c,y,q,t,k⟩:=h;exact ⟨s,p,x,m,v,l,o,⟨Int.le_refl _,by show (0:Int)<=3;decide⟩,⟨Int.le_refl _,by show (0:Int)<=r.n.sz;omega⟩,λ_=>by show (0:Int)≠r.n.id;omega,(λe=>by cases e),(λe=>by cases e),(λe=>by cases e),f,b,i,g,d,a,c,λ_=>rfl,(λe=>by rcases e with e | e <;> cases e),λ_=>⟨rfl,rfl,rfl,rfl⟩,(λe=>by cases e)⟩
theorem Ya.timer (h:Ya r.n):Ya r.timer.n:=by
 obtain ⟨y,x,h3,v,z,t,w,s,u,p,a,m,k,g,c,l,i,e,q,d,o,f,j,b⟩:=h;have ht:=toutW r.n.el r.draw (by omega) (by omega);exact ⟨y,x,h3,v,z,t,w,s,u,p,a,m,k,g,c,l,i,e,by show 0<=r.n.nw+Jf r.n.el r.draw/\r.n.nw+Jf r.n.el r.draw<=r.n.nw+2*r.n.el;omega,d,o,f,j,b⟩
end
section
variable {m:Mg}
theorem msB_of (g:1<=m.ki/\m.ki<=6)(e:Z0n m.fr m.td=true)(h:1<=m.tm/\m.tm<=1073741824)(j:Z0i m.ki m.tm m.li m.lt=true)(f:Yt m.ki m.cm m.ok m.hi=true)(i:Xd m.ki m.li m.lt m.tm m.es=true):msB m=0:=by
 have c:=(Zj _ _ _).2 g;have d:=(Zj _ _ _).2 h;unfold msB Jr;simp only [c,e,d,j,f,i,Bool.true_eq_false,if_false]
variable {fr td:Int}
theorem Z65 (c:1<=fr/\fr<=7)(e:1<=td/\td<=7)(d:fr≠td):Z0n fr td=true:=by
 unfold Z0n;simp only [Al,Zj,bne_iff_ne];exact ⟨⟨c,e⟩,d⟩
variable {a:Nd}{ki tm:Int}
theorem rep_ok (h:Ya a){ok:Int}(i:ki=2∨ki=4)(e:1<=fr/\fr<=a.sz)(c:a.id≠fr)(d:1<=tm/\tm<=1073741824)(g:ok=0∨ok=1):MsOk a.id a.sz ⟨ki,a.id,fr,tm,0,0,0,ok,0,[]⟩:=by
 have f:=h.sz;have hi:=h.id;refine ⟨msB_of (by show 1<=ki/\ki<=6;omega) (Z65 (by show 1<=a.id/\a.id<=7;omega) (by show 1<=fr/\fr<=7;omega) c) d ?_ ?_ ?_,rfl,e.2⟩
 ·show Z0i ki tm 0 0=true
  unfold Z0i;rw [ifo,ifo];rfl
 ·show Yt ki 0 ok 0=true
  unfold Yt;rw [ifo,if_pos (by omega),ifo];simp only [Al,Zj];omega
 ·show Xd ki 0 0 tm []=true
  unfold Xd;rw [ifo];rfl
theorem lastT_le (h:Ya a):0<=Y9 a.log/\Y9 a.log<=a.tm/\(Y9 a.log=0↔a.log.length=0):=by
 have c:=h.tm;unfold Y9 Zy;by_cases e:a.log.length=0
 ·rw [if_pos e]
  exact ⟨Int.le_refl _,c.1,by simp [e]⟩
 ·rw [if_neg e,As (by omega)]
  have d:=(h.en _ (Bp (show a.log.length-1<a.log.length by omega))).2;refine ⟨by show 0<=(a.log[a.log.length-1]).t;omega,d.2,?_⟩;show (a.log[a.log.length-1]).t=0↔_;omega
theorem ask_ok (h:Ya a)(k:ki=1∨ki=3)(hd:1<=td/\td<=a.sz)(d:a.id≠td)(g:1<=tm/\tm<=1073741824)(f:a.tm<=tm):MsOk a.id a.sz ⟨ki,a.id,td,tm,a.log.length,Y9 a.log,0,0,0,[]⟩:=by
 have j:=h.sz;have hi:=h.id;have l:=h.len;have c:=lastT_le h;refine ⟨msB_of (by show 1<=ki/\ki<=6;omega) (Z65 (by show 1<=a.id/\a.id<=7;omega) (by show 1<=td/\td<=7;omega) d) g ?_ ?_ ?_,rfl,hd.2⟩
 ·show Z0i ki tm a.log.length (Y9 a.log)=true
  unfold Z0i;rw [if_pos (by omega)];simp only [Al,Zj];refine ⟨by omega,?_⟩;by_cases e:a.log.length=0
  ·rw [c.2.2.2 e,e];rfl
  ·have i:(Y9 a.log == 0)=false:=by have:=mt c.2.2.1 e;simpa using this
   have e2:((a.log.length:Int) == 0)=false:=by simpa using e
   rw [i,e2];rfl
 ·show Yt ki 0 0 0=true
  unfold Yt;rw [ifo,ifo,ifo];rfl
 ·show Xd ki a.log.length (Y9 a.log) tm []=true
  unfold Xd;rw [ifo];rfl
theorem allK_kp (m:Mg)(r:Rn):∀ k,(Rn.allK m k r).n=r.n/\(Rn.allK m k r).code=r.code/\(Rn.allK m k r).drew=r.drew
 | 0=>⟨rfl,rfl,rfl⟩
 | k+1=>by
  have c:=allK_kp m r k;rw [Rn.allK];split
  ·exact c
  ·exact c
theorem allK_out (m:Mg)(r:Rn):∀ k,∀ o∈(Rn.allK m k r).out,o∈r.out∨∃ j:Nat,j<k/\(j:Int)+1≠r.n.id/\o={ m with fr:=r.n.id,td:=(j:Int)+1 }
 | 0=>λo h=>.inl h
 | k+1=>λo h=>by
  have c:=allK_out m r k;rw [Rn.allK] at h;split at h
  ·rcases c o h with h | ⟨j,h1,h2,h3⟩
   ·exact .inl h
   ·exact .inr ⟨j,by omega,h2,h3⟩
  ·rename_i hne
   simp only [Rn.send,Cc,Bd] at h;rcases h with h | h
   ·rcases c o h with h | ⟨j,h1,h2,h3⟩
    ·exact .inl h
    ·exact .inr ⟨j,by omega,h2,h3⟩
   ·exact .inr ⟨k,by omega,hne,by rw [h,(allK_kp m r k).1]⟩
variable {b:Nd}
theorem Kpt.tq (e:Ya b)(f:b.id=a.id)(d:b.sz=a.sz)(h:b.tm=a.tm)(g:b.vo=a.vo)(c:b.log=a.log)(i:b.cm=a.cm):Kpt a b:=
 ⟨e,f,d,by omega,by omega,by rw [c],λ_ _=>g,λ_ _=>c▸List.take_length⟩
variable {n:Nd}
theorem term0 (h:Ya n)(e:n.tm=0):n.log = []:=by
 cases c:n.log with
 | nil=>rfl
 | cons x L=>
  have d:=(h.en x (by rw [c];simp)).2;omega
theorem Z57 (c:msB m=0):(1<=m.tm/\m.tm<=1073741824)/\Z0i m.ki m.tm m.li m.lt=true/\Yt m.ki m.cm m.ok m.hi=true/\Xd m.ki m.li m.lt m.tm m.es=true:=by
 unfold msB Jr at c;split at c
 ·simp at c
 split at c
 ·simp at c
 split at c
 ·simp at c
 rename_i h3;split at c
 ·simp at c
 rename_i h4;split at c
 ·simp at c
 rename_i h5;split at c
 ·simp at c
 rename_i h6;exact ⟨(Zj _ _ _).1 (by simpa using h3),by simpa using h4,by simpa using h5,by simpa using h6⟩
theorem msB_ask (g:msB m=0)(f:m.ki=1∨m.ki=3∨m.ki=5):0<=m.li/\0<=m.lt/\m.lt<=m.tm/\(m.lt=0↔m.li=0):=by
 have c:=(Z57 g).2.1;unfold Z0i at c;rw [if_pos f] at c;simp only [Al,Zj,beq_iff_eq] at c;refine ⟨c.1.1.1,c.1.2.1,c.1.2.2,?_⟩;have d:=c.2;constructor
 ·intro e
  rw [e] at d;simpa using d.symm
 ·intro e
  rw [e] at d;simpa using d
theorem utd0 (h:Ya n)(d:msB m=0)(j:m.ki=1∨m.ki=3)(e:n.tm=0):utd n.log m=true:=by
 have c:=term0 h e;obtain ⟨g,k,i,f⟩:=msB_ask d (by omega);unfold utd;rw [c,show Y9 []=0 from rfl];by_cases e2:m.lt=0
 ·have:=f.1 e2
  simp [e2,this]
 ·have:0<m.lt:=by omega
  simp [this]
theorem preAsk_keeps {dr:Int}(h:Ya n)(e:msB m=0)(j:m.ki=1)(i:m.td=n.id)(c:m.fr<=n.sz):KpR n (Rn.preAsk ⟨n,[],0,0,dr⟩ m):=by
 obtain ⟨t,f,s,l,k,r,p,q⟩:=Z2a m e;have g:=h.tm;have d:=(Z57 e).1;unfold Rn.preAsk;split
 ·exact ⟨Kpt.refl h,(λo ho=>by cases ho),by show (2:Int)≠9;decide⟩
 ·split
  ·refine ⟨Kpt.refl h,λo ho=>?_,by show (0:Int)≠9;decide⟩
   simp only [Rn.send,List.nil_append,Bd] at ho;rw [ho];exact rep_ok h (.inl rfl) ⟨f.1,c⟩ (by omega) d (.inr rfl)
  ·refine ⟨Kpt.refl h,λo ho=>?_,by show (0:Int)≠9;decide⟩
   simp only [Rn.send,List.nil_append,Bd] at ho;rw [ho];refine rep_ok h (.inl rfl) ⟨f.1,c⟩ (by omega) ?_ (.inl rfl);show 1<=n.tm/\n.tm<=1073741824;refine ⟨?_,g.2⟩;rename_i hg;by_cases e0:n.tm=0
   ·exact absurd ⟨show n.tm<m.tm by omega,utd0 h e (.inl j) e0⟩ hg
   ·omega
theorem Z7p {r:Rn}{t:Int}(h:Ya r.n)(s:r.n.tm<t)(p:t<=1073741824):Kpt r.n (r.adopt t).n:=by
 have c:=h.lone
 have d:Ya { r.lone.n with tm:=t,vo:=0 }:=by
  have g:=h.tm;have k:=h.sz;exact ⟨c.sz,c.id,c.el,c.bt,by show 0<=t/\t<=1073741824;omega,by show (0:Int)<=0/\0<=r.n.sz;omega,.inl rfl,c.ro,c.ld,c.r0,(λe=>by cases e),(λe=>by cases e),(λe=>by cases e),c.len,c.pw,λe he=>by have f:=h.en e he;exact ⟨f.1,f.2.1,by show e.t<=t;omega⟩,c.cm,c.nw,c.dl,c.hd,c.g0,(λe=>by rcases e with e | e <;> cases e),c.l0,(λe=>by cases e)⟩
 have l:Ya (r.adopt t).n:=by
  unfold Rn.adopt;split
  ·exact Ya.timer (r:={ r.lone with n:={ r.lone.n with tm:=t,vo:=0 } }) d
  ·exact d
 have j:(r.adopt t).n.id=r.n.id/\(r.adopt t).n.sz=r.n.sz/\(r.adopt t).n.tm=t/\(r.adopt t).n.cm=r.n.cm/\(r.adopt t).n.log=r.n.log:=by
  unfold Rn.adopt;split <;> exact ⟨rfl,rfl,rfl,rfl,rfl⟩
 obtain ⟨o,q,v,u,i⟩:=j;exact ⟨l,o,q,by omega,by omega,by rw [i],λe=>by omega,λe=>by omega⟩
theorem Z4n (r:Rn)(t:Int):(r.adopt t).out=r.out/\(r.adopt t).code=r.code:=by
 unfold Rn.adopt;split <;> exact ⟨rfl,rfl⟩
theorem Kpt.trans {c:Nd}(h:Kpt a b)(k:Kpt b c)(q:0<=a.cm)(r:b.vo=0->a.vo=0∨a.tm<b.tm)(l:a.ro=3->a.tm=b.tm->b.ro=3∨c.log=b.log):Kpt a c:=by
 have p:=h.tm;have e2:=k.tm;have e3:=h.cm;have e4:=k.cm;refine ⟨k.ok,k.id.trans h.id,k.sz.trans h.sz,by omega,by omega,?_,?_,?_⟩
 ·have f:=k.pre
  have i:c.log.take a.cm.toNat=b.log.take a.cm.toNat:=by
   have:=congrArg (List.take a.cm.toNat) f;rw [List.take_take,List.take_take,show min a.cm.toNat b.cm.toNat=a.cm.toNat by omega] at this;exact this
  rw [i,h.pre]
 ·intro e g
  have d:=h.vo (by omega) g;exact (k.vo (by omega) (d▸g)).trans d
 ·intro e j
  have d:=h.lg (by omega) j;rcases l j (by omega) with h6 | h6
  ·have o:=k.lg (by omega) h6
   have i:a.log.length<=b.log.length:=by
    have:=congrArg List.length d;rw [List.length_take] at this;omega
   have f:=congrArg (List.take a.log.length) o;rw [List.take_take,show min a.log.length b.log.length=a.log.length by omega,d] at f;exact f
  ·rw [h6];exact d
end
variable {a:Nd}
theorem Kpt.like {b:Nd}(e:Ya b)(g:b.id=a.id)(d:b.sz=a.sz)(f:a.tm<=b.tm)(h:a.tm=b.tm->a.vo≠0->b.vo=a.vo)(c:b.log=a.log:=by rfl)(i:b.cm=a.cm:=by rfl):Kpt a b:=
 ⟨e,g,d,f,by omega,by rw [c],h,λ_ _=>c▸List.take_length⟩
variable {r:Rn}
theorem Ya.voted (h:Ya r.n){v:Int}(d:1<=v/\v<=r.n.sz)(c:0<r.n.tm):Ya (Rn.timer { r.lone with n:={ r.lone.n with vo:=v } }).n:=by
 have b:=h.lone;refine Ya.timer (r:={ r.lone with n:={ r.lone.n with vo:=v } }) ?_;exact ⟨b.sz,b.id,b.el,b.bt,b.tm,by show 0<=v/\v<=r.n.sz;omega,.inr c,b.ro,b.ld,b.r0,b.r1,(λe=>by cases e),(λe=>by cases e),b.len,b.pw,b.en,b.cm,b.nw,b.dl,b.hd,b.g0,b.g1,b.l0,b.l1⟩
theorem Z76 {t:Int}(h:Ya r.n)(c:t<=1073741824):Kpt r.n (r.higher t).n/\(r.higher t).out=r.out/\(r.higher t).code=r.code/\(r.higher t).n.log=r.n.log/\(r.higher t).n.cm=r.n.cm/\(r.higher t).n.id=r.n.id/\(r.higher t).n.sz=r.n.sz/\t<=(r.higher t).n.tm/\((r.higher t).n.tm=r.n.tm->r.higher t=r):=by
 unfold Rn.higher;split
 ·rename_i hlt
  have b:(r.adopt t).n.id=r.n.id/\(r.adopt t).n.sz=r.n.sz/\(r.adopt t).n.tm=t/\(r.adopt t).n.cm=r.n.cm/\(r.adopt t).n.log=r.n.log:=by
   unfold Rn.adopt;split <;> exact ⟨rfl,rfl,rfl,rfl,rfl⟩
  exact ⟨Z7p h hlt c,(Z4n r t).1,(Z4n r t).2,b.2.2.2.2,b.2.2.2.1,b.1,b.2.1,by omega,λe=>by omega⟩
 ·exact ⟨Kpt.refl h,rfl,rfl,rfl,rfl,rfl,rfl,by omega,λ_=>rfl⟩
theorem voteAsk_keeps {n:Nd}{dr:Int}{m:Mg}(h:Ya n)(q:msB m=0)(hk:m.ki=3)(y:m.td=n.id)(s:m.fr<=n.sz):KpR n (Rn.voteAsk ⟨n,[],0,0,dr⟩ m):=by
 obtain ⟨k1,j,k3,k4,k5,k6,k7,k8⟩:=Z2a m q;have k:=(Z57 q).1;unfold Rn.voteAsk;split
 ·exact ⟨Kpt.refl h,(λo ho=>by cases ho),by show (2:Int)≠9;decide⟩
 ·obtain ⟨g,p,l,q4,u,x,w,q8,q9⟩:=Z76 (r:=⟨n,[],0,0,dr⟩) (t:=m.tm) h k.2
  generalize hR:Rn.higher ⟨n,[],0,0,dr⟩ m.tm=R at *;have b:=g.ok;have aa:=b.tm;have c:R.n.id=n.id:=x;have d:R.n.sz=n.sz:=w;dsimp only;split
  ·rename_i hg
   have z:=b.voted (v:=m.fr) ⟨j.1,by omega⟩ (by omega);refine ⟨Kpt.like z c d g.tm ?_ q4 u,λo ho=>?_,by show R.code≠9;rw [l];show (0:Int)≠9;decide⟩
   ·intro e f
    have i:=g.vo e f;show m.fr=n.vo;rcases hg.2.1 with h8 | h8
    ·rw [h8] at i
     exact absurd i.symm f
    ·rw [<-h8];exact i
   ·simp only [Rn.send,Rn.timer,Rn.lone,p,List.nil_append,Bd] at ho
    rw [ho,c,<-c,<-d];exact rep_ok b (.inr rfl) ⟨j.1,by omega⟩ (by omega) (by omega) (.inr rfl)
  ·refine ⟨g,λo ho=>?_,by show R.code≠9;rw [l];show (0:Int)≠9;decide⟩
   simp only [Rn.send,p,List.nil_append,Bd] at ho;rw [ho,<-c,<-d];exact rep_ok b (.inr rfl) ⟨j.1,by omega⟩ (by omega) (by omega) (.inl rfl)
theorem take_lt (l:List Ent)(n:Nat):(l.take n).length<=n:=by simp;omega
theorem ent_ok (h:Ya a)(m:a.ro=3)(j:Nat)(v:(j:Int)<a.sz)(k:(j:Int)+1≠a.id):MsOk a.id a.sz { Z0k a j with fr:=a.id }:=by
 have hs:=h.sz;have hi:=h.id;have hl:=h.len;have o:=h.tm;have hc:=h.cm;have h3:=h.r3 m;obtain ⟨n,p⟩:=h.l1 m;have b:=p j v;unfold Z41 at b;rw [if_neg k] at b;obtain ⟨⟨z,p2⟩,_⟩:=b;obtain ⟨P,w⟩:∃ P:Nat,a.nx.getD j 0-1=(P:Int):=⟨(a.nx.getD j 0-1).toNat,by omega⟩
 have e:Z0k a j=⟨5,0,(j:Int)+1,a.tm,P,Zy a.log P,a.cm,0,0,(a.log.drop P).take 32⟩:=by
  unfold Z0k;rw [w,Int.toNat_natCast]
 rw [e]
 have l:0<=Zy a.log P/\Zy a.log P<=a.tm/\(Zy a.log P=0↔P=0)/\∀ x∈a.log.drop P,Zy a.log P<=x.t:=by
  unfold Zy;by_cases e0:P=0
  ·rw [if_pos e0]
   refine ⟨Int.le_refl _,o.1,by simp [e0],λx hx=>?_⟩;have:=(h.en x (List.mem_of_mem_drop hx)).2;omega
  ·have c:P-1<a.log.length:=by omega
   rw [if_neg e0,As c];have f:=(h.en _ (Bp c)).2;refine ⟨by show 0<=(a.log[P-1]).t;omega,f.2,by show (a.log[P-1]).t=0↔_;omega,λx hx=>?_⟩;obtain ⟨i,g,rfl⟩:=List.mem_iff_getElem.1 hx;rw [List.getElem_drop];have q:P+i<a.log.length:=by rw [List.length_drop] at g;omega
   exact List.pairwise_iff_getElem.1 h.pw (P-1) (P+i) c q (by omega)
 refine ⟨msB_of (by show 1<=(5:Int)/\(5:Int)<=6;decide) (Z65 (by show 1<=a.id/\a.id<=7;omega) (by show 1<=(j:Int)+1/\(j:Int)+1<=7;omega) (by show a.id≠(j:Int)+1;omega)) (by show 1<=a.tm/\a.tm<=1073741824;omega) ?_ ?_ ?_,rfl,by show (j:Int)+1<=a.sz;omega⟩
 ·show Z0i 5 a.tm P (Zy a.log P)=true
  unfold Z0i;rw [if_pos (by omega)];simp only [Al,Zj];refine ⟨by omega,?_⟩;by_cases e0:P=0
  ·rw [l.2.2.1.2 e0,e0];rfl
  ·have y:(Zy a.log P == 0)=false:=by have:=mt l.2.2.1.1 e0;simpa using this
   have e2:((P:Int) == 0)=false:=by simpa using e0
   rw [y,e2];rfl
 ·show Yt 5 a.cm 0 0=true
  unfold Yt;rw [if_pos rfl,ifo,ifo];simp only [Al,Zj];omega
 ·show Xd 5 P (Zy a.log P) a.tm ((a.log.drop P).take 32)=true
  unfold Xd;rw [if_pos rfl];simp only [Al,decide_eq_true_eq];have u:((a.log.drop P).take 32).length<=a.log.length-P:=by simp;omega
  refine ⟨⟨take_lt _ _,by omega⟩,Z68 _ _ _ ((h.pw.sublist (List.drop_sublist _ _)).sublist (List.take_sublist _ _)) λx hx=>?_⟩;have d:=List.mem_of_mem_take hx;have f:=h.en x (List.mem_of_mem_drop d);exact ⟨f.1,l.2.2.2 x d,f.2.2⟩
end Go.Proofs.YtmmpoppgabadmaaGreat
