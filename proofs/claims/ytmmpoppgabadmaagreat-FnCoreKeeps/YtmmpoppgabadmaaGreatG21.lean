import Derived.Test.YtmmpoppgabadmaaGreatG16
set_option linter.unusedVariables false
set_option linter.unusedSimpArgs false
set_option maxRecDepth 100000
set_option maxHeartbeats 16000000
open Go.Value renaming slice → I,int → Aa,pointer → Ae,agg → Aw
open Go.IntKind renaming i64 → O
open _root_.Option renaming none → Ab,some → Ac
open Go.Proofs.Tryz renaming prog → Ad
open Go.RowKit renaming Hid → Ah,Below → Ai
open Go.Ending renaming returned → Aj
open Go.RowKit.Below renaming heap_setCell → Ak,refl → An
open _root_.Bool renaming and_eq_true → Al
open Go.Calls renaming mono → Am
open _root_.Nat renaming le_refl → Ao,le_trans → Ap,le_of_lt → Be,lt_or_ge → B1
open Go renaming Calls → Ar
open _root_.List renaming getElem?_eq_getElem → As,getD_eq_getElem?_getD → Ba,length_append → Bc,mem_singleton → Bd,length_set → Bg,setIfInBounds_toArray → Bj,set_cons_succ → Bt,getElem?_eq_none → Bv,set_cons_zero → By
open Go.Operand renaming tmp → Ay
namespace Go.Proofs.YtmmpoppgabadmaaGreat
open Go.Proofs.Tryz
open Go.RowKit Go.Maps
def Rn.join (r:Rn)(m:Mg):Rn:=
 if r.n.log.length<m.li.toNat∨(0<m.li/\Zy r.n.log m.li.toNat≠m.lt) then r.send ⟨6,0,m.fr,r.n.tm,m.li,0,0,0,min (r.n.log.length:Int) (m.li-1),[]⟩
 else
  let i:=Y7 r.n.log m.li.toNat m.es
  if i<m.es.length/\m.li+i+1<=r.n.cm then r.stale
  else
   let log:=if i<m.es.length then r.n.log.take (m.li.toNat+i) ++ m.es.drop i else r.n.log
   Rn.send { r with n:={ r.n with log:=log,cm:=max r.n.cm (min m.cm (m.li+m.es.length)) } } ⟨6,0,m.fr,r.n.tm,m.li+m.es.length,0,0,1,0,[]⟩
theorem append_join (r:Rn)(m:Mg):r.append m=if m.tm<r.n.tm then r.send ⟨6,0,m.fr,r.n.tm,m.li,0,0,0,0,[]⟩ else if (r.higher m.tm).n.ro=3 then (r.higher m.tm).stale else Rn.join (Rn.timer { (r.higher m.tm).lone with n:={ (r.higher m.tm).lone.n with ld:=m.fr,hd:=(r.higher m.tm).n.nw } }) m:=rfl
def joB (n:Nd)(m:Mg):Bool:=decide ((n.log.length:Int)<m.li) || (Zy n.log m.li.toNat != m.lt)
theorem joB_iff (n:Nd)(m:Mg)(h:0<=m.li)(a:m.li=0->m.lt=0):joB n m=true↔(n.log.length<m.li.toNat∨(0<m.li/\Zy n.log m.li.toNat≠m.lt)):=by
 unfold joB;rw [Bool.or_eq_true,decide_eq_true_eq,bne_iff_ne];constructor
 ·rintro (h1 | h1)
  ·exact .inl (by omega)
  ·by_cases e:m.li=0
   ·exfalso
    apply h1;rw [e,a e];rfl
   ·exact .inr ⟨by omega,h1⟩
 ·rintro (h1 | h1)
  ·exact .inl (by omega)
  ·exact .inr h1.2
theorem run_sliceLo (u:World)(g o b ec K:Nat)(h:K<b)(d:b<=ec) :
  (Instr.slice 34 (I (Ac ⟨g,o,Ab⟩) b ec) (Ac (Aa O (K:Int))) Ab Ab).run Ad u=.ok (I (Ac ⟨g,o+K*7,Ab⟩) (b-K) (ec-K)) u:=by
 have c:(sizeOf 118).run Ad u=.ok 7 u:=by kernel_rfl
 have a:Tryz.prog.elem 34=118:=by kernel_rfl
 rw [run_slice_l u 34 (Ac ⟨g,o,Ab⟩) b ec (a▸underlying34) O (K:Int) (by omega) (by omega)];rw [a,c];simp only [Result.andThen,sliced];rw [show ((K:Int)).toNat=K by omega,ifo];simp [Z2g]
theorem Es.dropE {w:World}{g o n c:Nat}{l:List Ent}(h:Es w (I (Ac ⟨g,o,Ab⟩) n c) l)(K:Nat)(r:K<l.length)(a:Nat):Es w (I (Ac ⟨g,o+K*7,Ab⟩) (l.drop K).length a) (l.drop K):=by
 obtain ⟨q,m,s,p,e,f⟩:=h;simp only [Value.slice.injEq] at e;obtain ⟨rfl,-,rfl⟩:=e;refine ⟨by rw [List.length_drop];omega,λe he=>m e (List.mem_of_mem_drop he),_,_,rfl,λi hi=>?_⟩;obtain ⟨b,k,e,d⟩:=f 0 (by omega);simp only [Option.some.injEq,Addr.mk.injEq,and_true] at e;obtain ⟨rfl,rfl⟩:=e;refine ⟨g,o+K*7,rfl,λj h=>?_⟩;have:=d (K+j) (by rw [List.length_drop] at h;omega);rw [List.getElem_drop];rw [show o+K*7+j*7=o+(K+j)*7 by omega];exact this
theorem join_any (b:Nat)(r:Rn)(x:CV)(m:Mg)(ea:Option Addr)(ec LI:Nat)(w:World)(B:Nat)(h:Z9 w B b r x)(hc:r.code=0)(hl:x.L.length<=900)(bo:r.n.log.length<=4096)(he:Es w (I ea m.es.length ec) m.es)(c0:∀ k,(Value.slice ea m.es.length ec).ownBlock=Ac k->k<B)(cz:m.es.length<=ec)(cw:m.es.length<=1048576)(c5:m.li=(LI:Int))(dv:LI<=4096)(bz:m.li=0->m.lt=0) :
  Ar Ad 172 #[Ae (Ac ⟨b,0,Ab⟩),Aw (m.arrC (I ea m.es.length ec))] w λe w'=>e=Aj (Aa O (r.join m).code)/\∃ x',Z9 w' B b (r.join m) x'/\Tch b w x w' x':=by
 have c4:=Ap h.lo (Be h.lt);have bv:Ah (∀ z,Ai B w z->Es z (I ea m.es.length ec) m.es):=λz d=>he.elder c0 d
 obtain ⟨a,bq⟩:=exq (m.es.length);have ai:=Z0 bq;rw [<-bq] at cz cw bv ⊢;obtain ⟨la,lc,bw⟩:=h.log.shape;have da:r.n.log.length<=lc:=by have h9:=h.log;rw [bw] at h9;exact h9.capI
 obtain ⟨LN,bu⟩:=exq (r.n.log.length);have ag:=Z0 bu;rw [<-bu] at bw da bo;have cq:=Z0 bw;obtain ⟨W,hW⟩:=exq (w.alloc (.cells (m.arrC (I ea a ec)) 43));have t:Ah (Ai w.heap.size w W):=hW▸Below.alloc0 _
 have ba:Ah (Blk W w.heap.size (m.arrC (I ea a ec)) 43):=hW▸Blk.new _ _ _
 have br:=Z0 (h.below t);have d4:=br.c4;have m4:W.cell? ⟨w.heap.size,4,Ab⟩=Ac (Aa O m.li):=ba.cell 4;have dc:=Z0 (h.hasnt_new (Ao _));have du:=h.lt;have d3:=br.lt;have dw:=ba.lt
 have HJ:Ah (r.join m=if joB r.n m=true then r.send ⟨6,0,m.fr,r.n.tm,m.li,0,0,0,min (LN:Int) (m.li-1),[]⟩ else if Y7 r.n.log LI m.es<a/\m.li+Y7 r.n.log LI m.es+1<=r.n.cm then r.stale else Rn.send { r with n:={ r.n with log:=if Y7 r.n.log LI m.es<a then r.n.log.take (LI+Y7 r.n.log LI m.es) ++ m.es.drop (Y7 r.n.log LI m.es) else r.n.log,cm:=max r.n.cm (min m.cm (m.li+a)) } } ⟨6,0,m.fr,r.n.tm,m.li+a,0,0,1,0,[]⟩):=by
  unfold Ah Rn.join;have e1:m.li.toNat=LI:=by omega
  have e2:=joB_iff r.n m (by omega) bz;by_cases h9:joB r.n m=true
  ·rw [if_pos (e2.1 h9),if_pos h9,bu]
  ·rw [if_neg (λh8=>h9 (e2.2 h8)),if_neg h9,e1,bq]
 obtain ⟨RP,c3⟩:=exq (r.join m);rw [<-c3] at HJ ⊢;have a7:=Z0 c5;have dx:0<=m.li:=by omega
 have dy:m.li<=4096:=by omega
 clear h bw he bq bu c0 c3 bz c5;go_enter func172,ntmps172
 go_upto_region 1 with fail
 rw [<-hW];clear hW
 go_cut [5] (λs5 z=>s5=Ae (Ac ⟨W.heap.size,0,Ab⟩)/\Blk z W.heap.size (mqN 6 0 0 r.n.tm m.li 0 0 0 0 (I Ab 0 0)) 43/\Ai W.heap.size W z)
 case first=>
  go_region_held3 (λw'=>w'.cell? ⟨b,4,Ab⟩=Ac (Aa O r.n.tm)/\w'.cell? ⟨w.heap.size,4,Ab⟩=Ac (Aa O m.li)) (simp [*,go_sem]) (first | fail)
  all_goals (
   go_wp2_with fail
   go_meet
   first
    | exact ⟨rfl,(Blk.new _ _ _).drew,(Below.alloc0 _).drew⟩
    | exact ⟨rfl,Blk.new _ _ _,((An _ _).drew).alloc (Ao _) _⟩
    | exact ⟨rfl,Blk.new _ _ _,Below.alloc0 _⟩)
 case rest=>
  obtain ⟨rfl,cg,a8⟩:=hcut;obtain ⟨V,hV⟩:=exq (wc);rw [<-hV] at cg a8;subst hV;have af:=Z0 a8;have a6:=Z0 cg;have cp:=Z0 (br.below a8);have ax:=Z0 (ba.below a8 ba.lt);have bj:=Z0 (br.hasnt_new (Ao _));have c2:=Z0 dc;have bc:¬ w.heap.size=W.heap.size:=by omega
  clear cg a8 d4 m4;have b2:∀ u:BW V,u.w.cell? ⟨b,12,Ab⟩=Ac (I la LN lc):=λu=>cq.out▸(cp.below u.h).blk.cell 12
  have q4:∀ u:BW V,u.w.cell? ⟨w.heap.size,4,Ab⟩=Ac (Aa O m.li):=λu=>(ax.below u.h ax.lt).cell 4
  have q5:∀ u:BW V,u.w.cell? ⟨w.heap.size,5,Ab⟩=Ac (Aa O m.lt):=λu=>(ax.below u.h ax.lt).cell 5
  have ds:Nonempty (BW V):=⟨⟨V,An _ _⟩⟩;obtain ⟨VB,b3⟩:=exq (joB r.n m);rw [<-b3] at HJ;have a9:Ah (VB=(decide ((LN:Int)<m.li) || (Zy r.n.log LI != m.lt))):=by unfold Ah;rw [b3,ag.out,show LI=m.li.toNat from by have:=a7.out;omega];rfl
  clear b3
  have b7:Ah (LI<=LN->∀ z,Ai V.heap.size V z->Ar Ad 180 #[I la LI lc] z λe w'=>e=Aj (Aa O (Zy r.n.log LI))/\w'=z):=λhle z d=>by
   rw [<-Z7b _ _ (ag.out▸hle)];refine Z1r _ _ _ (Es.takeI (n:=LN) ?_ LI (ag.out▸hle));rw [<-cq.out];exact (cp.below d).es (ag.out▸bo)
  go_upto_region 2 with fail
  go_cut [38] (λs z=>s=.bool VB/\Ai V.heap.size V z)
  case first=>
   by_cases h1:(LN:Int)<m.li
   ·have b8:=decide_eq_true h1
    refine rqx ?_
    repeat go_big_quiet_step (fail)
    refine wpQuiet_nil ?_;intro w5 a1
    go_wp2_with fail
    go_meet;exact ⟨by rw [a9.out,b8];rfl,a1⟩
   ·have b8:=decide_eq_false h1
    have c6:=Z0 (b7 (by have:=a7.out;omega));have g2:m.li<=(lc:Int):=by omega
    have g3:m.li.toNat=LI:=by have:=a7.out;omega
    clear b7;refine rqx ?_
    repeat go_big_quiet_step ((go_at_call 180;refine Am (c6 _ (BW.h _)) ?_;rintro e w9 ⟨rfl,dt⟩;have cx:=dt.symm;subst cx;exact ⟨rfl,⟨_,rfl⟩⟩))
    refine wpQuiet_nil ?_;intro w5 a1
    go_wp2_with fail
    go_meet;exact ⟨by rw [a9.out,b8];rfl,a1⟩
  case rest=>
   obtain ⟨rfl,a4⟩:=hcut;obtain ⟨w6,c7⟩:=exq (wc);rw [<-c7] at a4;subst c7;have bn:=Z0 a4;have a0:=Z0 (cp.below a4);have aa:=Z0 (ax.below a4 ax.lt);have az:=Z0 (a6.below a4 a6.lt);have bx:Ah (Tch b V x w6 x):=Tch.below0 _ _ bn;have ct:Ah (∀ z R X l k h9,Z9 z B b R X->X.L.length<=900->Ar Ad 165 #[Ae (Ac ⟨b,0,Ab⟩),Aa O m.fr,Aw (mqN 6 0 0 r.n.tm l 0 0 k h9 (I Ab 0 0))] z λe w'=>e=Aj (.tuple #[])/\∃ v y,Z9 w' B b (R.send ⟨6,0,m.fr,r.n.tm,l,0,0,k,h9,[]⟩) (X.sent v y)/\Tch b z X w' (X.sent v y)):=λz R X l k h9 d hX=>Z2x b R X ⟨6,0,0,r.n.tm,l,0,0,k,h9,[]⟩ m.fr Ab 0 z B d (Zh.nil _ _) (λk e=>by cases e)
   clear b2 q4 q5 ds b7 a4;have G1:=Z0 trivial;have bp:=Z0 hc;by_cases hv:VB=true
   ·have ac:=Z0 (HJ.trans (if_pos hv))
    rw [hv];have b2:∀ u:BW w6,u.w.cell? ⟨b,12,Ab⟩=Ac (I la LN lc):=λu=>cq.out▸(a0.below u.h).blk.cell 12
    have q4:∀ u:BW w6,u.w.cell? ⟨w.heap.size,4,Ab⟩=Ac (Aa O m.li):=λu=>(aa.below u.h aa.lt).cell 4
    have dk:Nonempty (BW w6):=⟨⟨w6,An _ _⟩⟩;have d1:=wrx (m.li-1)
    have be:(if m.li-1<(LN:Int) then m.li-1 else (LN:Int))=min (LN:Int) (m.li-1):=by split <;> omega
    obtain ⟨MN,ah⟩:=exq (min (LN:Int) (m.li-1));rw [<-ah] at be ac;have cu:=Z0 (a0.entNe az)
    have bh:Ah (∀ z,Ai w6.heap.size w6 z->z.cell? ⟨W.heap.size,8,Ab⟩=Ac (Aa O 0)/\z.frozen? ⟨W.heap.size,8,Ab⟩=false/\Z9 (z.setCell ⟨W.heap.size,8,Ab⟩ (Aa O MN)) B b r x/\Tch b W x (z.setCell ⟨W.heap.size,8,Ab⟩ (Aa O MN)) x/\Blk (z.setCell ⟨W.heap.size,8,Ab⟩ (Aa O MN)) W.heap.size (mqN 6 0 0 r.n.tm m.li 0 0 0 MN (I Ab 0 0)) 43/\Blk (z.setCell ⟨W.heap.size,8,Ab⟩ (Aa O MN)) w.heap.size (m.arrC (I ea a ec)) 43):=λz d=>by
     have hT:=(Tch.head af bx).tail d;refine ⟨(az.below d az.lt).cell 8,(az.below d az.lt).free 8,(a0.below d).setOut _ 8 _ bj cu,?_,(az.below d az.lt).set 8 _,(aa.below d aa.lt).set_other _ bc⟩;exact ⟨hT.os,hT.tape,hT.output,by have:=hT.size;simp [World.setCell];omega,λk hk hn=>(Ak _ _ _ _ (by simp only;omega)).trans (hT.block k hk hn),hT.at'⟩
    clear HJ hv a9 ah
    go_upto_region 3 with fail
    go_cut [] (λz=>Z9 z B b r x/\Tch b W x z x/\Blk z W.heap.size (mqN 6 0 0 r.n.tm m.li 0 0 0 MN (I Ab 0 0)) 43/\Blk z w.heap.size (m.arrC (I ea a ec)) 43)
    case first=>
     refine rlx ?_;simp only [List.dropLast_cons_cons,List.dropLast_singleton]
     repeat go_big_quiet_step (fail)
     refine wpQuiet_nil ?_;intro wl ad;obtain ⟨e1,e2,e3,e4,e5,e6⟩:=bh.out wl ad;refine J8 (Ay 49) (Ay 48) rfl rfl rfl e1 e2 rfl ?_;have HF:Ah _:=And.intro e3 (And.intro e4 (And.intro e5 e6));clear e1 e2 e3 e4 e5 e6
     go_wp2_with fail
     go_meet;exact HF
    case rest=>
     obtain ⟨p,f,j,i⟩:=hcut;obtain ⟨wn,au⟩:=exq (wc);rw [<-au] at j i p f;subst au;have bk:=Z0 j;have bd:=Z0 p;have bm:=Z0 f;have s1:wn.cell? ⟨w.heap.size,1,Ab⟩=Ac (Aa O m.fr):=i.cell 1;clear j i p f b2 q4 dk
     go_wp2_with (first
      |(have ae:=G1;refine Zd 43 (Ay 5) rfl ?_;clear ae;refine Z7 rfl 43 (Ay 5) rfl W.heap.size rfl bk underlying43 rfl Yc rfl ?_;clear G1)
      |(go_at_call 165;refine Am (ct _ _ _ _ _ _ bd hl) ?_;rintro e wz ⟨rfl,vz,yz,d,tz⟩;have HZ:Ah (Z9 wz B b RP (x.sent vz yz)):=(ac.out▸d);have TZ:=Z0 (Tch.head t (bm.trans tz));clear d tz))
     go_ret;exact ⟨ac.out▸congrArg (λc=>Ending.returned (Aa O c)) bp.symm,_,HZ.out,TZ.out⟩
   have ca:VB=false:=by simpa using hv
   have a2:Ah _:=HJ.trans (if_neg hv)
   have c1:LI<=LN:=by
    have h9:=a9.out;rw [ca] at h9;have h8:=Bool.or_eq_false_iff.1 h9.symm;have h7:=of_decide_eq_false h8.1;have:=a7.out;omega
   obtain ⟨K,hK⟩:=exq (Y7 r.n.log LI m.es);rw [<-hK] at a2;have d2:K<=a:=by rw [hK,ai.out];exact Z8j _ _ _
   have dn:LI+K<=LN:=by rw [hK,ag.out];exact parts_le _ _ _ (ag.out▸c1)
   have ce:Ah (Ar Ad 181 #[Ae (Ac ⟨b,0,Ab⟩),Aw (m.arrC (I ea a ec))] w6 λe w'=>e=Aj (Aa O (K:Int))/\Ai w6.heap.size w6 w'):=by
    unfold Ah;rw [hK];have h9:=known_any b r x m ea ec LI w6 B a0 (ag.out▸bo) (by have h8:=bv.out w6 ((t.mono c4).trans (((af.mono (by have:=t.size;omega)).trans (bn.mono (by have:=t.size;have:=af.size;omega)))));rw [ai.out] at h8;exact h8) (ai.out▸cw) a7 (ag.out▸c1);rw [<-ai.out] at h9;exact h9
   rw [ca];clear HJ hv ca a9 hK;have cn:Ah (∀ z,Ai w6.heap.size w6 z->Z9 z B b r x/\Blk z w.heap.size (m.arrC (I ea a ec)) 43/\Tch b V x z x/\z.cell? ⟨w.heap.size,9,Ab⟩=Ac (I ea a ec)/\z.cell? ⟨w.heap.size,4,Ab⟩=Ac (Aa O m.li)/\z.cell? ⟨b,8,Ab⟩=Ac (Aa O r.n.cm)):=λz d=>⟨a0.below d,aa.below d aa.lt,bx.tail d,(aa.below d aa.lt).cell 9,(aa.below d aa.lt).cell 4,(a0.below d).blk.cell 8⟩
   have a3:IntKind.i64.wrap (m.li+(K:Int))=m.li+(K:Int):=wry
   by_cases a5:K<a
   ·have dj:decide ((K:Int)<(a:Int))=true:=decide_eq_true (by omega)
    by_cases bi:m.li+(K:Int)<r.n.cm
    ·have ac:=Z0 (a2.trans (if_pos ⟨a5,by omega⟩))
     have dd:=decide_eq_true bi;clear a2 bi
     go_wp2_with (first
      |(have ae:=G1;refine Zd 43 (Ay 3) rfl ?_;clear ae;refine Z7 rfl 43 (Ay 3) rfl w.heap.size rfl aa underlying43 rfl Yc rfl ?_;clear G1)
      |(go_at_call 181;refine Am ce ?_;rintro e w7 ⟨rfl,am⟩;obtain ⟨h7,-,t7,e9,e4,e8⟩:=cn.out w7 am;have H7:Ah _:=h7;have T7:Ah _:=t7;clear am h7 t7))
     go_ret;exact ⟨by rw [ac.out];rfl,x,ac.out▸H7.codeQ 3,Tch.head (t.trans (af.mono t.size)) T7.out⟩
    ·have dd:=decide_eq_false bi
     have db:¬(K<a/\m.li+(K:Int)+1<=r.n.cm):=λh9=>bi (by omega)
     obtain ⟨R2,bg⟩:∃ R2:Rn,R2={ r with n:={ r.n with log:=r.n.log.take (LI+K) ++ m.es.drop K } }:=⟨_,rfl⟩
     have ac:Ah (RP=Rn.send { R2 with n:={ R2.n with cm:=max r.n.cm (min m.cm (m.li+(a:Int))) } } ⟨6,0,m.fr,r.n.tm,m.li+a,0,0,1,0,[]⟩):=by
      unfold Ah;rw [bg];exact (a2.trans (if_neg db)).trans (by rw [if_pos a5])
     have c8:Ah (R2.n.cm=r.n.cm):=by unfold Ah;rw [bg]
     have bp:Ah (R2.code=0):=bg▸hc
     have dm:∃ g o,ea=Ac ⟨g,o,Ab⟩:=by
      obtain ⟨_,_,a',c',e1,dg⟩:=bv.out w (An _ _);simp only [Value.slice.injEq] at e1;obtain ⟨rfl,-,rfl⟩:=e1;obtain ⟨g,o,e2,-⟩:=dg 0 (by rw [<-ai.out];omega);exact ⟨g,o,e2⟩
     obtain ⟨eg,eo,rfl⟩:=dm;have d5:=λu=>run_sliceLo u eg eo a ec K a5 cz
     have dq:Ah (∀ z,Ai w6.heap.size w6 z->Ar Ad 182 #[Ae (Ac ⟨b,0,Ab⟩),Aa O (m.li+(K:Int)),I (Ac ⟨eg,eo+K*7,Ab⟩) (a-K) (ec-K)] z λe w'=>e=Aj (.tuple #[])/\∃ v,Z9 w' B b R2 { x with vl:=v,kp:=((LI+K:Nat):Int) }/\Tch b z x w' { x with vl:=v,kp:=((LI+K:Nat):Int) }):=λz d=>by
      have dp:Ai B w z:=(t.mono c4).trans (((af.mono (by have:=t.size;omega)).trans (bn.mono (by have:=t.size;have:=af.size;omega))).trans (d.mono (by have:=t.size;have:=af.size;have:=bn.size;omega)));have h9:=replace_any b r x (LI+K) ⟨eg,eo+K*7,Ab⟩ (ec-K) (m.es.drop K) z B (a0.below d) (ag.out▸bo) (ag.out▸dn) ((bv z dp).dropE K (ai.out▸a5) _) (by rw [List.length_drop,<-ai.out];omega) (by rw [List.length_drop,<-ai.out];omega);rw [List.length_drop,<-ai.out] at h9;rw [bg];have e1:m.li+(K:Int)=((LI+K:Nat):Int):=by have:=a7.out;push_cast;omega
      rw [e1];exact h9
     clear a2 bi db bg
     go_upto_region 12 with (first
      |(have ae:=G1;refine Zd 43 (Ay 3) rfl ?_;clear ae;refine Z7 rfl 43 (Ay 3) rfl w.heap.size rfl aa underlying43 rfl Yc rfl ?_;clear G1)
      |(go_at_call 181;refine Am ce ?_;rintro e w7 ⟨rfl,am⟩;obtain ⟨h7,-,t7,e9,e4,e8⟩:=cn.out w7 am;have H7:Ah _:=h7;have T7:Ah _:=t7;have dh:=Z0 am;clear am h7 t7)
      |(go_at_call 182;refine Am (dq _ dh) ?_;rintro e w8 ⟨rfl,v8,h8,t8⟩;have ch:Ah _:=h8;have b0:Ah _:=T7.out.trans t8;clear h8 t8))
     obtain ⟨X2,cj⟩:∃ X2:CV,X2={ x with vl:=v8,kp:=((LI+K:Nat):Int) }:=⟨_,rfl⟩;rw [<-cj] at ch b0;have bb:=Z0 ch;have an:=Z0 b0;have cc:Ah (X2.L.length<=900):=cj▸hl
     clear cj ch b0 e9 e4 e8;have G1:=Z0 trivial;have q:=Z0 (an.blk a6 bj);have ao:=Z0 (an.blk ax c2);have di:=q.lt;have z4:w8.cell? ⟨w.heap.size,4,Ab⟩=Ac (Aa O m.li):=ao.cell 4;have z9:w8.cell? ⟨w.heap.size,9,Ab⟩=Ac (I (Ac ⟨eg,eo,Ab⟩) a ec):=ao.cell 9;have y7:w8.cell? ⟨W.heap.size,7,Ab⟩=Ac (Aa O 0):=q.cell 7;have y4:w8.cell? ⟨W.heap.size,4,Ab⟩=Ac (Aa O m.li):=q.cell 4;have cf:=q.free 7;have co:=q.free 4;have av:=Z0 (an.hasnt a6.lt bj);have aw:=Z0 (bb.entNe q);have cy:IntKind.i64.wrap (m.li+(a:Int))=m.li+(a:Int):=wry
     have cr:=Z0 (Tch.head af an)
     go_cut [] (λz=>Blk z W.heap.size (mqN 6 0 0 r.n.tm (m.li+(a:Int)) 0 0 1 0 (I Ab 0 0)) 43/\Blk z w.heap.size (m.arrC (I (Ac ⟨eg,eo,Ab⟩) a ec)) 43/\Z9 z B b R2 X2/\Tch b W x z X2)
     case first=>
      have HF:Ah (∀ z,Ai w8.heap.size w8 z->Blk ((z.setCell ⟨W.heap.size,7,Ab⟩ (Aa O 1)).setCell ⟨W.heap.size,4,Ab⟩ (Aa O (m.li+(a:Int)))) W.heap.size (mqN 6 0 0 r.n.tm (m.li+(a:Int)) 0 0 1 0 (I Ab 0 0)) 43/\Blk ((z.setCell ⟨W.heap.size,7,Ab⟩ (Aa O 1)).setCell ⟨W.heap.size,4,Ab⟩ (Aa O (m.li+(a:Int)))) w.heap.size (m.arrC (I (Ac ⟨eg,eo,Ab⟩) a ec)) 43/\Z9 ((z.setCell ⟨W.heap.size,7,Ab⟩ (Aa O 1)).setCell ⟨W.heap.size,4,Ab⟩ (Aa O (m.li+(a:Int)))) B b R2 X2/\Tch b W x ((z.setCell ⟨W.heap.size,7,Ab⟩ (Aa O 1)).setCell ⟨W.heap.size,4,Ab⟩ (Aa O (m.li+(a:Int)))) X2):=λz d=>by
       have hR:=q.below d q.lt;have hM:=ao.below d ao.lt;refine ⟨(hR.set 7 _).set 4 _,(hM.set_other _ bc).set_other _ bc,((bb.below d).setOut _ 7 _ av aw).setOut _ 4 _ av aw,?_⟩;have hT:=cr.tail d;exact ⟨hT.os,hT.tape,hT.output,by have:=hT.size;simp [World.setCell];omega,λk hk hn=>((Ak _ _ _ _ (by simp only;omega)).trans (Ak _ _ _ _ (by simp only;omega))).trans (hT.block k hk hn),hT.at'⟩
      go_region
      all_goals go_wp2_with fail
      all_goals (
       go_meet
       first
        | exact HF _ (An _ _)
        | exact HF _ ((An _ _).drew))
     case rest=>
      obtain ⟨j,i,p,f⟩:=hcut;obtain ⟨wk,a3⟩:=exq (wc);rw [<-a3] at j i p f;subst a3;have aj:=Z0 j;have aq:=Z0 i;have ak:=Z0 p;have b6:=Z0 f;have v8:∀ u:BW wk,u.w.cell? ⟨b,8,Ab⟩=Ac (Aa O r.n.cm):=λu=>by first | exact (ak.below u.h).blk.cell 8 | (rw [<-c8.out];exact (ak.below u.h).blk.cell 8)
      have v6:∀ u:BW wk,u.w.cell? ⟨w.heap.size,6,Ab⟩=Ac (Aa O m.cm):=λu=>(aq.below u.h aq.lt).cell 6
      have v4:∀ u:BW wk,u.w.cell? ⟨W.heap.size,4,Ab⟩=Ac (Aa O (m.li+(a:Int))):=λu=>(aj.below u.h aj.lt).cell 4
      have cd:Nonempty (BW wk):=⟨⟨wk,An _ _⟩⟩;have be:(if m.li+(a:Int)<m.cm then m.li+(a:Int) else m.cm)=min m.cm (m.li+(a:Int)):=by split <;> omega
      obtain ⟨MN,ah⟩:=exq (min m.cm (m.li+(a:Int)));obtain ⟨CX,al⟩:=exq (max r.n.cm MN);have de:(if r.n.cm<MN then MN else r.n.cm)=CX:=by rw [al];split <;> omega
      have cv:(if MN<r.n.cm then r.n.cm else MN)=CX:=by rw [al];split <;> omega
      rw [<-ah] at be;have ar:Ah (RP=Rn.send { R2 with n:={ R2.n with cm:=CX } } ⟨6,0,m.fr,r.n.tm,m.li+a,0,0,1,0,[]⟩):=by unfold Ah;rw [al,ah];exact ac
      have bh:Ah (∀ z,Ai wk.heap.size wk z->z.cell? ⟨b,8,Ab⟩=Ac (Aa O r.n.cm)/\z.frozen? ⟨b,8,Ab⟩=false/\Z9 (z.setCell ⟨b,8,Ab⟩ (Aa O CX)) B b { R2 with n:={ R2.n with cm:=CX } } X2/\Tch b W x (z.setCell ⟨b,8,Ab⟩ (Aa O CX)) X2/\Blk (z.setCell ⟨b,8,Ab⟩ (Aa O CX)) W.heap.size (mqN 6 0 0 r.n.tm (m.li+(a:Int)) 0 0 1 0 (I Ab 0 0)) 43/\Blk (z.setCell ⟨b,8,Ab⟩ (Aa O CX)) w.heap.size (m.arrC (I (Ac ⟨eg,eo,Ab⟩) a ec)) 43):=λz d=>
       ⟨v8 ⟨z,d⟩,(ak.below d).blk.free 8,(ak.below d).set 8 _ rfl rfl rfl rfl rfl rfl rfl rfl rfl rfl Iff.rfl,(b6.tail d).trans (Tch.set _ _ _ _ _),(aj.below d aj.lt).set_other _ (by simp only;omega),(aq.below d aq.lt).set_other _ (by simp only;omega)⟩
      clear j i p f z4 z9 y7 y4 cf co ah al ac
      go_upto_region 13 with fail
      go_cut [] (λz=>Z9 z B b { R2 with n:={ R2.n with cm:=CX } } X2/\Tch b W x z X2/\Blk z W.heap.size (mqN 6 0 0 r.n.tm (m.li+(a:Int)) 0 0 1 0 (I Ab 0 0)) 43/\Blk z w.heap.size (m.arrC (I (Ac ⟨eg,eo,Ab⟩) a ec)) 43)
      case first=>
       refine rlx ?_;simp only [List.dropLast_cons_cons,List.dropLast_singleton]
       repeat go_big_quiet_step (fail)
       refine wpQuiet_nil ?_;intro wl ad;obtain ⟨e1,e2,e3,e4,e5,e6⟩:=bh.out wl ad;refine J8 (Ay 103) (Ay 100) rfl rfl rfl e1 e2 rfl ?_;have HF:Ah _:=And.intro e3 (And.intro e4 (And.intro e5 e6));clear e1 e2 e3 e4 e5 e6
       go_wp2_with fail
       go_meet;exact HF
      case rest=>
       obtain ⟨p,f,j,i⟩:=hcut;obtain ⟨wn,au⟩:=exq (wc);rw [<-au] at j i p f;subst au;have bk:=Z0 j;have bd:=Z0 p;have bm:=Z0 f;have s1:wn.cell? ⟨w.heap.size,1,Ab⟩=Ac (Aa O m.fr):=i.cell 1;clear j i p f v8 v6 v4 cd
       go_wp2_with (first
        |(have ae:=G1;refine Zd 43 (Ay 5) rfl ?_;clear ae;refine Z7 rfl 43 (Ay 5) rfl W.heap.size rfl bk underlying43 rfl Yc rfl ?_;clear G1)
        |(go_at_call 165;refine Am (ct _ _ _ _ _ _ bd cc) ?_;rintro e wz ⟨rfl,vz,yz,d,tz⟩;have HZ:Ah (Z9 wz B b RP (X2.sent vz yz)):=(ar.out▸d);have TZ:=Z0 (Tch.head t (bm.trans tz));clear d tz))
       go_ret;exact ⟨ar.out▸congrArg (λc=>Ending.returned (Aa O c)) bp.symm,_,HZ.out,TZ.out⟩
   ·have dj:decide ((K:Int)<(a:Int))=false:=decide_eq_false (by omega)
    have ac:Ah (RP=Rn.send { r with n:={ r.n with cm:=max r.n.cm (min m.cm (m.li+(a:Int))) } } ⟨6,0,m.fr,r.n.tm,m.li+a,0,0,1,0,[]⟩):=by
     unfold Ah;exact (a2.trans (if_neg (λh9=>a5 h9.1))).trans (by rw [if_neg a5])
    clear a2
    go_upto_region 12 with (first
     |(have ae:=G1;refine Zd 43 (Ay 3) rfl ?_;clear ae;refine Z7 rfl 43 (Ay 3) rfl w.heap.size rfl aa underlying43 rfl Yc rfl ?_;clear G1)
     |(go_at_call 181;refine Am ce ?_;rintro e w8 ⟨rfl,am⟩;obtain ⟨h7,-,t7,e9,e4,e8⟩:=cn.out w8 am;have bb:=Z0 h7;have an:=Z0 t7;clear am h7 t7))
    have cc:=Z0 hl;clear e8;have G1:=Z0 trivial;have q:=Z0 (an.blk a6 bj);have ao:=Z0 (an.blk ax c2);have di:=q.lt;have z4:w8.cell? ⟨w.heap.size,4,Ab⟩=Ac (Aa O m.li):=ao.cell 4;have z9:w8.cell? ⟨w.heap.size,9,Ab⟩=Ac (I ea a ec):=ao.cell 9;have y7:w8.cell? ⟨W.heap.size,7,Ab⟩=Ac (Aa O 0):=q.cell 7;have y4:w8.cell? ⟨W.heap.size,4,Ab⟩=Ac (Aa O m.li):=q.cell 4;have cf:=q.free 7;have co:=q.free 4;have av:=Z0 (an.hasnt a6.lt bj);have aw:=Z0 (bb.entNe q);have cy:IntKind.i64.wrap (m.li+(a:Int))=m.li+(a:Int):=wry
    have cr:=Z0 (Tch.head af an)
    go_cut [] (λz=>Blk z W.heap.size (mqN 6 0 0 r.n.tm (m.li+(a:Int)) 0 0 1 0 (I Ab 0 0)) 43/\Blk z w.heap.size (m.arrC (I ea a ec)) 43/\Z9 z B b r x/\Tch b W x z x)
    case first=>
     have HF:Ah (∀ z,Ai w8.heap.size w8 z->Blk ((z.setCell ⟨W.heap.size,7,Ab⟩ (Aa O 1)).setCell ⟨W.heap.size,4,Ab⟩ (Aa O (m.li+(a:Int)))) W.heap.size (mqN 6 0 0 r.n.tm (m.li+(a:Int)) 0 0 1 0 (I Ab 0 0)) 43/\Blk ((z.setCell ⟨W.heap.size,7,Ab⟩ (Aa O 1)).setCell ⟨W.heap.size,4,Ab⟩ (Aa O (m.li+(a:Int)))) w.heap.size (m.arrC (I ea a ec)) 43/\Z9 ((z.setCell ⟨W.heap.size,7,Ab⟩ (Aa O 1)).setCell ⟨W.heap.size,4,Ab⟩ (Aa O (m.li+(a:Int)))) B b r x/\Tch b W x ((z.setCell ⟨W.heap.size,7,Ab⟩ (Aa O 1)).setCell ⟨W.heap.size,4,Ab⟩ (Aa O (m.li+(a:Int)))) x):=λz d=>by
      have hR:=q.below d q.lt;have hM:=ao.below d ao.lt;refine ⟨(hR.set 7 _).set 4 _,(hM.set_other _ bc).set_other _ bc,((bb.below d).setOut _ 7 _ av aw).setOut _ 4 _ av aw,?_⟩;have hT:=cr.tail d;exact ⟨hT.os,hT.tape,hT.output,by have:=hT.size;simp [World.setCell];omega,λk hk hn=>((Ak _ _ _ _ (by simp only;omega)).trans (Ak _ _ _ _ (by simp only;omega))).trans (hT.block k hk hn),hT.at'⟩
     go_region
     all_goals go_wp2_with fail
     all_goals (
      go_meet
      first
       | exact HF _ (An _ _)
       | exact HF _ ((An _ _).drew))
    case rest=>
     obtain ⟨j,i,p,f⟩:=hcut;obtain ⟨wk,a3⟩:=exq (wc);rw [<-a3] at j i p f;subst a3;have aj:=Z0 j;have aq:=Z0 i;have ak:=Z0 p;have b6:=Z0 f;have v8:∀ u:BW wk,u.w.cell? ⟨b,8,Ab⟩=Ac (Aa O r.n.cm):=λu=>by first | exact (ak.below u.h).blk.cell 8 | (rw [<-c8.out];exact (ak.below u.h).blk.cell 8)
     have v6:∀ u:BW wk,u.w.cell? ⟨w.heap.size,6,Ab⟩=Ac (Aa O m.cm):=λu=>(aq.below u.h aq.lt).cell 6
     have v4:∀ u:BW wk,u.w.cell? ⟨W.heap.size,4,Ab⟩=Ac (Aa O (m.li+(a:Int))):=λu=>(aj.below u.h aj.lt).cell 4
     have cd:Nonempty (BW wk):=⟨⟨wk,An _ _⟩⟩;have be:(if m.li+(a:Int)<m.cm then m.li+(a:Int) else m.cm)=min m.cm (m.li+(a:Int)):=by split <;> omega
     obtain ⟨MN,ah⟩:=exq (min m.cm (m.li+(a:Int)));obtain ⟨CX,al⟩:=exq (max r.n.cm MN);have de:(if r.n.cm<MN then MN else r.n.cm)=CX:=by rw [al];split <;> omega
     have cv:(if MN<r.n.cm then r.n.cm else MN)=CX:=by rw [al];split <;> omega
     rw [<-ah] at be;have ar:Ah (RP=Rn.send { r with n:={ r.n with cm:=CX } } ⟨6,0,m.fr,r.n.tm,m.li+a,0,0,1,0,[]⟩):=by unfold Ah;rw [al,ah];exact ac
     have bh:Ah (∀ z,Ai wk.heap.size wk z->z.cell? ⟨b,8,Ab⟩=Ac (Aa O r.n.cm)/\z.frozen? ⟨b,8,Ab⟩=false/\Z9 (z.setCell ⟨b,8,Ab⟩ (Aa O CX)) B b { r with n:={ r.n with cm:=CX } } x/\Tch b W x (z.setCell ⟨b,8,Ab⟩ (Aa O CX)) x/\Blk (z.setCell ⟨b,8,Ab⟩ (Aa O CX)) W.heap.size (mqN 6 0 0 r.n.tm (m.li+(a:Int)) 0 0 1 0 (I Ab 0 0)) 43/\Blk (z.setCell ⟨b,8,Ab⟩ (Aa O CX)) w.heap.size (m.arrC (I ea a ec)) 43):=λz d=>
      ⟨v8 ⟨z,d⟩,(ak.below d).blk.free 8,(ak.below d).set 8 _ rfl rfl rfl rfl rfl rfl rfl rfl rfl rfl Iff.rfl,(b6.tail d).trans (Tch.set _ _ _ _ _),(aj.below d aj.lt).set_other _ (by simp only;omega),(aq.below d aq.lt).set_other _ (by simp only;omega)⟩
     clear j i p f z4 z9 y7 y4 cf co ah al ac
     go_upto_region 13 with fail
     go_cut [] (λz=>Z9 z B b { r with n:={ r.n with cm:=CX } } x/\Tch b W x z x/\Blk z W.heap.size (mqN 6 0 0 r.n.tm (m.li+(a:Int)) 0 0 1 0 (I Ab 0 0)) 43/\Blk z w.heap.size (m.arrC (I ea a ec)) 43)
     case first=>
      refine rlx ?_;simp only [List.dropLast_cons_cons,List.dropLast_singleton]
      repeat go_big_quiet_step (fail)
      refine wpQuiet_nil ?_;intro wl ad;obtain ⟨e1,e2,e3,e4,e5,e6⟩:=bh.out wl ad;refine J8 (Ay 103) (Ay 100) rfl rfl rfl e1 e2 rfl ?_;have HF:Ah _:=And.intro e3 (And.intro e4 (And.intro e5 e6));clear e1 e2 e3 e4 e5 e6
      go_wp2_with fail
      go_meet;exact HF
     case rest=>
      obtain ⟨p,f,j,i⟩:=hcut;obtain ⟨wn,au⟩:=exq (wc);rw [<-au] at j i p f;subst au;have bk:=Z0 j;have bd:=Z0 p;have bm:=Z0 f;have s1:wn.cell? ⟨w.heap.size,1,Ab⟩=Ac (Aa O m.fr):=i.cell 1;clear j i p f v8 v6 v4 cd
      go_wp2_with (first
       |(have ae:=G1;refine Zd 43 (Ay 5) rfl ?_;clear ae;refine Z7 rfl 43 (Ay 5) rfl W.heap.size rfl bk underlying43 rfl Yc rfl ?_;clear G1)
       |(go_at_call 165;refine Am (ct _ _ _ _ _ _ bd cc) ?_;rintro e wz ⟨rfl,vz,yz,d,tz⟩;have HZ:Ah (Z9 wz B b RP (x.sent vz yz)):=(ar.out▸d);have TZ:=Z0 (Tch.head t (bm.trans tz));clear d tz))
      go_ret;exact ⟨ar.out▸congrArg (λc=>Ending.returned (Aa O c)) bp.symm,_,HZ.out,TZ.out⟩
end Go.Proofs.YtmmpoppgabadmaaGreat
namespace Go.Proofs.YtmmpoppgabadmaaGreat
open Go.Proofs.Tryz
open Go.RowKit Go.Maps
theorem Z7s (b:Nat)(r:Rn)(x:CV)(m:Mg)(ea:Option Addr)(ec LI:Nat)(w:World)(B:Nat)(h:Z9 w B b r x)(hc:r.code=0)(hl:x.L.length<=900)(hb:NdB r.n)(hd : -(2^63)<=r.draw)(hD:r.draw<2^63)(he:Es w (I ea m.es.length ec) m.es)(ao:∀ k,(Value.slice ea m.es.length ec).ownBlock=Ac k->k<B)(ba:m.es.length<=ec)(bw:m.es.length<=1048576)(a9:m.li=(LI:Int))(a6:LI<=4096)(ak:m.li=0->m.lt=0) :
  Ar Ad 134 #[Ae (Ac ⟨b,0,Ab⟩),Aw (m.arrC (I ea m.es.length ec))] w λe w'=>e=Aj (Aa O (r.append m).code)/\∃ x',Z9 w' B b (r.append m) x'/\Tch b w x w' x':=by
 have bp:=Ap h.lo (Be h.lt);have az:=Z0 λz R X hz h1 h2 h3 h4=>join_any b R X m ea ec LI z B hz h1 h2 h3 (he.elder ao h4) ao ba bw a9 a6 ak
 obtain ⟨EN,a1⟩:=exq (m.es.length);rw [<-a1] at az ⊢;obtain ⟨W,hW⟩:=exq (w.alloc (.cells (m.arrC (I ea EN ec)) 43));have ae:Ah (Ai w.heap.size w W):=hW▸Below.alloc0 _
 have f:Ah (Blk W w.heap.size (m.arrC (I ea EN ec)) 43):=hW▸Blk.new _ _ _
 have ad:=Z0 (h.below ae);have bk:=Z0 (h.hasnt_new (Ao _));have ax:Ah (∀ z,Ai W.heap.size W z->Z9 z B b r x/\Tch b W x z x/\Blk z w.heap.size (m.arrC (I ea EN ec)) 43):=λz hz=>⟨ad.below hz,Tch.below0 _ _ hz,f.below hz f.lt⟩
 have a7:=Z0 λz x' (ht:Tch b W x z x')=>ht.blk f bk
 have bg:=Z0 λz x' (ht:Tch b W x z x')=>(ae.mono bp).trans (ad.below_of ht)
 have q3:∀ u:BW W,u.w.cell? ⟨w.heap.size,3,Ab⟩=Ac (Aa O m.tm):=λu=>(f.below u.h f.lt).cell 3
 have q1:∀ u:BW W,u.w.cell? ⟨w.heap.size,1,Ab⟩=Ac (Aa O m.fr):=λu=>(f.below u.h f.lt).cell 1
 have qi:∀ u:BW W,u.w.cell? ⟨w.heap.size,4,Ab⟩=Ac (Aa O m.li):=λu=>(f.below u.h f.lt).cell 4
 have q4:=λu:BW W=>(ad.below u.h).c4
 have av:Nonempty (BW W):=⟨⟨W,An _ _⟩⟩;have ai:Ah _:=append_join r m;clear he ao a1 a9 ak;by_cases h1:m.tm<r.n.tm
 ·have HQ:=Z0 (ai.trans (if_pos h1))
  have HK:Ah ((r.append m).code=0):=HQ.out▸hc
  have bd:=decide_eq_true h1
  have be:Ah (∀ z,Ai W.heap.size W z->Ar Ad 165 #[Ae (Ac ⟨b,0,Ab⟩),Aa O m.fr,Aw (mqN 6 0 0 r.n.tm m.li 0 0 0 0 (I Ab 0 0))] z λe w'=>e=Aj (.tuple #[])/\∃ v y,Z9 w' B b (r.append m) (x.sent v y)/\Tch b z x w' (x.sent v y)):=λz hz=>by
   rw [HQ.out];exact Z2x b r x ⟨6,0,0,r.n.tm,m.li,0,0,0,0,[]⟩ m.fr Ab 0 z B (ad.below hz) (Zh.nil _ _) (λk e=>by cases e)
  rw [HK.out];generalize r.append m=RP at *;clear h ai h1;go_enter func134,ntmps134
  go_upto_region 1 with fail
  rw [<-hW];clear hW
  go_cut [12] (λs z=>s=.bool true/\Ai W.heap.size W z)
  case first=>
   refine rqx ?_
   repeat go_big_quiet_step (fail)
   refine wpQuiet_nil ?_;intro w5 aa
   go_wp2_with fail
   go_meet;exact ⟨rfl,aa⟩
  case rest=>
   obtain ⟨rfl,t⟩:=hcut;obtain ⟨q,af⟩:=exq (wc);rw [<-af] at t;subst af;have a:=Z0 t;have s1:∀ u:BW q,u.w.cell? ⟨w.heap.size,1,Ab⟩=Ac (Aa O m.fr):=λu=>q1 ⟨u.w,a.trans (u.h.mono a.size)⟩
   have si:∀ u:BW q,u.w.cell? ⟨w.heap.size,4,Ab⟩=Ac (Aa O m.li):=λu=>qi ⟨u.w,a.trans (u.h.mono a.size)⟩
   have s4:∀ u:BW q,u.w.cell? ⟨b,4,Ab⟩=Ac (Aa O r.n.tm):=λu=>q4 ⟨u.w,a.trans (u.h.mono a.size)⟩
   have au:Nonempty (BW q):=⟨⟨q,An _ _⟩⟩;clear q3 q1 qi q4 av t
   go_upto_region 2 with fail
   refine rlx ?_;simp only [List.dropLast_cons_cons,List.dropLast_singleton]
   repeat go_big_quiet_step (fail)
   refine wpQuiet_nil ?_;intro w7 g;refine Yg (N:=165) rfl (λ_ _=>by go_simp) #[Ae (Ac ⟨b,0,Ab⟩),Aa O m.fr,Aw (mqN 6 0 0 r.n.tm m.li 0 0 0 0 (I Ab 0 0))] (by simp only [List.map_toArray,List.map_cons,List.map_nil];rfl) ?_;have o:=Z0 (a.trans (g.mono a.size));refine Am (be w7 o) ?_;rintro e w8 ⟨rfl,v8,m8,h8,t8⟩;refine ⟨_,rfl,?_⟩;have H8:Ah _:=h8;have T8:=Z0 (Tch.head ae (Tch.head o t8));clear h8 t8
   go_wp2_with fail
   go_ret;exact ⟨rfl,_,H8.out,T8.out⟩
 ·have d:Ah _:=ai.trans (if_neg h1)
  have bd:=decide_eq_false h1;obtain ⟨c,ac⟩:=exq (r.higher m.tm);rw [<-ac] at d;have ah:Ah (c=if r.n.tm<m.tm then r.adopt m.tm else r):=ac;have al:Ah (NdB c.n):=ac▸hb.higher _
  have a0:Ah (c.draw=r.draw):=ac▸Z2q _ _
  have bh:Ah (c.code=0):=by unfold Ah;rw [ac,Z78];exact hc
  have bu:=Z0 λz hz=>Z6w b r x m.tm z B (ad.below hz) hd hD hb.nw0 hb.nw1
  obtain ⟨RP,a3⟩:=exq (r.append m);rw [<-a3] at d ⊢;clear h ai h1 ac a3;go_enter func134,ntmps134
  go_upto_region 1 with fail
  rw [<-hW];clear hW
  go_cut [12] (λs z=>s=.bool false/\Ai W.heap.size W z)
  case first=>
   refine rqx ?_
   repeat go_big_quiet_step (fail)
   refine wpQuiet_nil ?_;intro w5 aa
   go_wp2_with fail
   go_meet;exact ⟨rfl,aa⟩
  case rest=>
   obtain ⟨rfl,t⟩:=hcut;obtain ⟨q,af⟩:=exq (wc);rw [<-af] at t;subst af;have a:=Z0 t;have s3:∀ u:BW q,u.w.cell? ⟨w.heap.size,3,Ab⟩=Ac (Aa O m.tm):=λu=>q3 ⟨u.w,a.trans (u.h.mono a.size)⟩
   have s4:∀ u:BW q,u.w.cell? ⟨b,4,Ab⟩=Ac (Aa O r.n.tm):=λu=>q4 ⟨u.w,a.trans (u.h.mono a.size)⟩
   have au:Nonempty (BW q):=⟨⟨q,An _ _⟩⟩;clear q3 q1 qi q4 av t
   go_upto_region 4 with fail
   refine rqx ?_
   repeat go_big_quiet_step (fail)
   refine wpQuiet_nil ?_;intro w7 g;have o:=Z0 (a.trans (g.mono a.size));have n3:w7.cell? ⟨w.heap.size,3,Ab⟩=Ac (Aa O m.tm):=(ax w7 o).2.2.cell 3;clear s3 s4 au g
   go_upto_if 32 with fail
   go_cut [] (λz=>∃ j,Z9 z B b c j/\Tch b W x z j/\j.L=x.L)
   case first=>
    by_cases ht:r.n.tm<m.tm
    ·have ag:=decide_eq_true ht
     have an:=Z0 (ah.trans (if_pos ht));rw [ag];clear ht ag ah
     go_wp2_with (first
      |(go_at_call 170;refine Am (bu _ o) ?_;rintro e w3 ⟨rfl,h2,t2⟩;have H2:Ah _:=h2;have T2:=Z0 (Tch.head o t2);clear h2 t2))
     go_meet;exact ⟨x.lone,an.out▸H2,T2.out,rfl⟩
    ·have ag:=decide_eq_false ht
     have an:=Z0 (ah.trans (if_neg ht));rw [ag];clear ht ag ah
     go_wp2_with fail
     go_meet;exact ⟨x,an.out▸(ax w7 o).1,Tch.below0 _ _ o,rfl⟩
   case rest=>
    obtain ⟨j,hC,hT,hX⟩:=hcut;obtain ⟨w8,ar⟩:=exq (wc);rw [<-ar] at hC hT;subst ar;have aw:=Z0 hC;have a2:=Z0 hT;have bv:Ah (j.L.length<=900):=hX▸hl
    have bc:=Z0 (a7 w8 j hT);have d6:=hC.c6;have n1:w8.cell? ⟨w.heap.size,1,Ab⟩=Ac (Aa O m.fr):=bc.cell 1;clear hC hT hX n3;by_cases ab:c.n.ro=3
    ·have HR:=Z0 (d.trans (if_pos ab))
     have bb:(c.n.ro == 3)=true:=by simpa using ab
     clear d ab
     go_wp2_with fail
     go_ret;exact ⟨by rw [HR.out];rfl,j,HR.out▸aw.codeQ 3,Tch.head ae a2⟩
    ·obtain ⟨R2,am⟩:∃ R2:Rn,R2={ c.lone with n:={ c.lone.n with ld:=m.fr } }:=⟨_,rfl⟩
     obtain ⟨R3,i⟩:∃ R3:Rn,R3={ c.lone with n:={ c.lone.n with ld:=m.fr,hd:=c.n.nw } }:=⟨_,rfl⟩;have HR:Ah (RP=R3.timer.join m):=i▸d.trans (if_neg ab)
     have bb:(c.n.ro == 3)=false:=by simpa using ab
     have bi:Ah (Ar Ad 155 #[Ae (Ac ⟨b,0,Ab⟩),Aa O m.fr] w8 λe w'=>e=Aj (.tuple #[])/\Z9 w' B b R2 j.lone/\Tch b w8 j w' j.lone):=am▸Z2c b c j m.fr w8 B aw
     have bm:Ah (∀ z,Z9 z B b R2 j.lone->z.cell? ⟨b,9,Ab⟩=Ac (Aa O c.n.nw)/\(∃ u,z.cell? ⟨b,11,Ab⟩=Ac u)/\z.frozen? ⟨b,11,Ab⟩=false/\Z9 (z.setCell ⟨b,11,Ab⟩ (Aa O c.n.nw)) B b R3 j.lone/\Tch b z j.lone (z.setCell ⟨b,11,Ab⟩ (Aa O c.n.nw)) j.lone):=λz hz=>by
      have e9:=hz.blk.cell 9;rw [am] at e9 hz;refine ⟨e9,⟨_,hz.blk.cell 11⟩,hz.blk.free 11,?_,Tch.set _ _ _ _ _⟩;rw [i];exact hz.set 11 _ rfl rfl rfl rfl rfl rfl rfl rfl rfl rfl Iff.rfl
     have bq:=Z0 λz hz=>Z09 b R3 j.lone z B hz (by rw [i];show _<=c.draw;rw [a0.out];exact hd) (by rw [i];show c.draw<_;rw [a0.out];exact hD) (i▸al.nw0) (i▸al.nw1)
     have aj:Ah (R3.timer.code=0/\R3.timer.n.log.length<=4096):=i▸⟨bh,al.ln⟩
     clear d ab am i;have G1:=Z0 trivial
     go_wp2_with (first
      |(go_at_call 155;refine Am bi ?_;rintro e w9 ⟨rfl,h9,t9⟩;obtain ⟨e9,⟨ev,e11⟩,ef,ay,a4⟩:=bm.out w9 h9;have bn:Ah _:=ay;have bx:Ah (Tch b W x _ j.lone):=(a2.trans t9).trans a4;clear h9 t9 ay a4)
      |(go_at_call 156;refine Am (bq _ bn) ?_;rintro e wa ⟨rfl,ha,ta⟩;have br:=Z0 ha;have aq:=Z0 (bx.trans ta);have a8:=Z0 (a7 wa _ aq);have bo:=Z0 (bg wa _ aq);clear ha ta)
      |(have bj:=a8;have hG:=G1;refine Zd 43 (Ay 3) rfl ?_;clear bj hG;refine Z7 rfl 43 (Ay 3) rfl w.heap.size rfl a8 underlying43 rfl Yc rfl ?_;clear G1)
      |(go_at_call 172;refine Am (az _ _ _ br aj.1 bv aj.2 bo) ?_;rintro e wb ⟨rfl,xb,a5,tb⟩;have HZ:Ah _:=a5;have TZ:Ah _:=Tch.head ae (aq.trans tb);clear a5 tb))
     go_ret;exact ⟨by rw [HR.out];rfl,_,HR.out▸HZ,TZ.out⟩
end Go.Proofs.YtmmpoppgabadmaaGreat
namespace Go.Proofs.YtmmpoppgabadmaaGreat
open Go.Proofs.Tryz
open Go.RowKit Go.Maps
def Rn.seen (r:Rn)(m:Mg):Rn:={ r with n:={ r.n with se:=r.n.se.set (m.fr-1).toNat r.n.nw } }
def Rn.taken (r:Rn)(m:Mg)(MT NX:Int):Rn:={ r with n:={ r.n with mt:=r.n.mt.set (m.fr-1).toNat MT,nx:=r.n.nx.set (m.fr-1).toNat NX } }
def Rn.agree (r:Rn):Rn:={ r with n:={ r.n with cm:=(Yx r.n r.n.cm.toNat r.n.log.length:Int) } }
theorem appReplyI_eq (r:Rn)(m:Mg)(b:r.n.ro=3)(a:m.tm=r.n.tm):r.appReply m=if m.ok=0 then (r.seen m).back m else if (r.n.log.length:Int)<m.li then (r.seen m).stale else
  if max (r.n.nx.getD (m.fr-1).toNat 0) (max (r.n.mt.getD (m.fr-1).toNat 0) m.li+1)<=r.n.log.length then (((r.seen m).taken m (max (r.n.mt.getD (m.fr-1).toNat 0) m.li) (max (r.n.nx.getD (m.fr-1).toNat 0) (max (r.n.mt.getD (m.fr-1).toNat 0) m.li+1))).agree).sendE (m.fr-1).toNat else ((r.seen m).taken m (max (r.n.mt.getD (m.fr-1).toNat 0) m.li) (max (r.n.nx.getD (m.fr-1).toNat 0) (max (r.n.mt.getD (m.fr-1).toNat 0) m.li+1))).agree:=by
 unfold Rn.appReply;rw [ifo,ifo];rfl
theorem Z82 (r:Rn)(m:Mg)(h:r.n.ro≠3∨m.tm≠r.n.tm):r.appReply m=r.takeTerm m.tm:=by
 unfold Rn.appReply Rn.takeTerm;by_cases a:r.n.tm<m.tm
 ·rw [if_pos a,if_pos a]
 ·rw [if_neg a,if_neg a,if_pos (h.imp id (λh=>by omega))]
theorem Z4p (b:Nat)(r:Rn)(x:CV)(m:Mg)(J:Nat)(ea:Option Addr)(en ec:Nat)(w:World)(B:Nat)(h:Z9 w B b r x)(hc:r.code=0)(hl:x.L.length<=900)(hb:NdB r.n)(hd : -(2^63)<=r.draw)(hD:r.draw<2^63)(hJ:m.fr=(J:Int)+1)(bx:(J:Int)+1<=r.n.sz)(cy:(J:Int)+1≠r.n.id)(bq:r.n.ro=3->LdM r.n r.n.sz.toNat)(ch:0<=r.n.cm)(dp:0<=m.li)(dh:m.li<=4096)(dd:0<=m.hi)(c8:m.hi<=4096)(b8:LogR r.n) :
  Ar Ad 135 #[Ae (Ac ⟨b,0,Ab⟩),Aw (m.arrC (I ea en ec))] w λe w'=>e=Aj (Aa O (r.appReply m).code)/\∃ x',Z9 w' B b (r.appReply m) x'/\Tch b w x w' x':=by
 obtain ⟨W,hW⟩:=exq (w.alloc (.cells (m.arrC (I ea en ec)) 43));have ai:Ah (Ai w.heap.size w W):=hW▸Below.alloc0 _
 have af:Ah (Blk W w.heap.size (m.arrC (I ea en ec)) 43):=hW▸Blk.new _ _ _
 have ah:=Z0 (h.below ai);have dq:=Z0 (h.hasnt_new (Ao _));have de:=hb.ln;have z1:=h.ci.sz1;have q6:=λu:BW W=>(ah.below u.h).c6
 have q4:=λu:BW W=>(ah.below u.h).c4
 have q3:∀ u:BW W,u.w.cell? ⟨w.heap.size,3,Ab⟩=Ac (Aa O m.tm):=λu=>(af.below u.h af.lt).cell 3
 have cv:Nonempty (BW W):=⟨⟨W,An _ _⟩⟩;by_cases bd:r.n.ro≠3∨m.tm≠r.n.tm
 ·have HQ:=Z0 (Z82 r m bd)
  have cu:=Z0 λz hz=>Z3l b r x m.tm z B (ah.below hz) hd hD hb.nw0 hb.nw1 hc
  have dm:Ah (∀ z,Ai W.heap.size W z->z.cell? ⟨w.heap.size,3,Ab⟩=Ac (Aa O m.tm)):=λz hz=>(af.below hz af.lt).cell 3
  rw [HQ.out];generalize r.takeTerm m.tm=RP at *;clear h HQ hJ bx cy bq;go_enter func135,ntmps135
  go_upto_region 1 with fail
  rw [<-hW];clear hW
  go_cut [21] (λs z=>s=.bool true/\Ai W.heap.size W z)
  case first=>
   cases h1:(r.n.ro != 3)
   ·have h2:(m.tm != r.n.tm)=true:=by
     have h3:r.n.ro=3:=by simpa using h1
     have:=bd.resolve_left (λh=>h h3);simpa using this
    refine rqx ?_
    repeat go_big_quiet_step (fail)
    refine wpQuiet_nil ?_;intro w5 j
    go_wp2_with fail
    go_meet;exact ⟨rfl,j⟩
   ·skip
    refine rqx ?_
    repeat go_big_quiet_step (fail)
    refine wpQuiet_nil ?_;intro w5 j
    go_wp2_with fail
    go_meet;exact ⟨rfl,j⟩
  case rest=>
   obtain ⟨rfl,ab⟩:=hcut;obtain ⟨w6,av⟩:=exq (wc);rw [<-av] at ab;subst av;have t:=Z0 ab;have p3:=dm.out w6 ab;have c4:Ah _:=cu.out w6 ab;clear q6 q4 q3 cv ab cu
   go_wp2_with (first
    |(go_at_call 166;refine Am c4 ?_;rintro e w7 ⟨rfl,x7,h7,t7⟩;have H7:Ah _:=h7;have T7:Ah _:=Tch.head ai (Tch.head t t7);clear h7 t7))
   go_ret;exact ⟨rfl,_,H7.out,T7.out⟩
 have ad:r.n.ro=3:=by omega
 have bu:m.tm=r.n.tm:=by omega
 have an:=bq ad;have br:(m.fr-1).toNat=J:=by omega
 have k:Ah _:=appReplyI_eq r m ad bu;obtain ⟨q,hq⟩:=Option.isSome_iff_exists.1 ((h.pk m.fr).2 ⟨ad,by omega,by omega,by omega⟩);have HQ:=Z0 hq;obtain ⟨NX,ak⟩:=exq (r.n.nx.getD (m.fr-1).toNat 0);obtain ⟨MT,a3⟩:=exq (r.n.mt.getD (m.fr-1).toNat 0);rw [<-ak,<-a3] at k;have ay:J<r.n.nx.length:=by rw [an.ldb.nxl];omega
 have be:J<r.n.mt.length:=by rw [an.mtl];omega
 have au:1<=NX/\NX<=(r.n.log.length:Int)+1:=by
  obtain ⟨P,h1,h2⟩:=an.ldb.nx J ay (by omega);rw [ak,br,Ba,As ay,h2];show 1<=(P:Int)+1/\(P:Int)+1<=_;omega
 have a9:0<=MT/\MT<NX:=by
  have h9:=an.mt J be ay (by omega);rw [ak,a3,br,Ba,As be,Ba,As ay];exact h9
 obtain ⟨o,az⟩:=exq (r.seen m);rw [<-az] at k
 have cc:Ah (∀ z,Z9 z B b r x->z.cell? ⟨b,9,Ab⟩=Ac (Aa O r.n.nw)/\(∃ u,z.cell? ⟨q,2,Ab⟩=Ac u)/\z.frozen? ⟨q,2,Ab⟩=false/\Z9 (z.setCell ⟨q,2,Ab⟩ (Aa O r.n.nw)) B b o x/\Tch b z x (z.setCell ⟨q,2,Ab⟩ (Aa O r.n.nw)) x):=λz hz=>by
  have h9:=hz.seP HQ r.n.nw;refine ⟨hz.blk.cell 9,⟨_,(hz.pf _ _ HQ).1.cell 2⟩,(hz.pf _ _ HQ).1.free 2,?_,h9.2⟩;rw [az];exact h9.1
 have ax:Ah (1<=m.fr/\m.fr<=r.n.sz/\m.fr≠r.n.id):=by unfold Ah;omega
 have dj:=wf3 (x:=m.fr) (by omega) (by omega);have d1:(r.n.ro != 3)=false:=by simp [ad]
 have dw:(m.tm != r.n.tm)=false:=by simp [bu]
 have bp:Ah (∀ z x',Tch b W x z x'->Blk z w.heap.size (m.arrC (I ea en ec)) 43):=λz x' ht=>ht.blk af dq
 have cg:Ah (o.code=0):=az▸hc
 have c:Ah (o.n.ro=3/\o.n.log=r.n.log/\o.n.nx=r.n.nx/\o.n.mt=r.n.mt/\o.n.sz=r.n.sz/\o.n.id=r.n.id/\o.n.tm=r.n.tm/\o.n.cm=r.n.cm/\o.n.nw=r.n.nw/\NdB o.n):=by
  unfold Ah;rw [az];exact ⟨ad,rfl,rfl,rfl,rfl,rfl,rfl,rfl,rfl,⟨hb.nw0,hb.nw1,hb.hd0,hb.hd1,hb.sz0,hb.sz1,hb.id0,hb.id1,hb.ln⟩⟩
 have ar:Ah (r.n.nx.length=r.n.sz.toNat/\r.n.mt.length=r.n.sz.toNat):=⟨(h.ci.ld ad).1.1,(h.ci.ld ad).1.2.1⟩;have ca:=Z0 b8;have b6:Ah (∀ z,Z9 z B b r x->(Instr.lookup 78 (.map (Ac x.pm)) (Aa O m.fr) false).run Ad z=.ok (Ae (Ac ⟨q,0,Ab⟩)) z):=λz hz=>Z58 _ underlying78 (zeroPt _) hz.pm dj _ (by rw [HQ.out];rfl)
 have i:Ah (NX=o.n.nx.getD (m.fr-1).toNat 0/\MT=o.n.mt.getD (m.fr-1).toNat 0):=by unfold Ah;rw [c.out.2.2.1,c.out.2.2.2.1];exact ⟨ak,a3⟩
 obtain ⟨RP,b2⟩:=exq (r.appReply m);rw [<-b2] at k ⊢;clear h hq ak a3 az an bq bd ad bu b2 br ay be b8 hJ bx cy;go_enter func135,ntmps135
 go_upto_region 1 with fail
 rw [<-hW];clear hW
 go_cut [21] (λs z=>s=.bool false/\Ai W.heap.size W z)
 case first=>
  refine rqx ?_
  repeat go_big_quiet_step (fail)
  refine wpQuiet_nil ?_;intro w5 j
  go_wp2_with fail
  go_meet;exact ⟨rfl,j⟩
 case rest=>
  obtain ⟨rfl,ab⟩:=hcut;obtain ⟨w6,av⟩:=exq (wc);rw [<-av] at ab;subst av;have t:=Z0 ab;have du:=λu:BW w6=>(ah.below (t.trans (u.h.mono t.size))).c19
  have s1:∀ u:BW w6,u.w.cell? ⟨w.heap.size,1,Ab⟩=Ac (Aa O m.fr):=λu=>(af.below (t.trans (u.h.mono t.size)) af.lt).cell 1
  have c7:∀ u:BW w6,(Instr.lookup 78 (.map (Ac x.pm)) (Aa O m.fr) false).run Ad u.w=.ok (Ae (Ac ⟨q,0,Ab⟩)) u.w:=λu=>b6 u.w (ah.below (t.trans (u.h.mono t.size)))
  have dt:Nonempty (BW w6):=⟨⟨w6,An _ _⟩⟩;clear q6 q4 q3 cv ab
  go_upto_region 3 with fail
  go_cut [5] (λs z=>s=Ae (Ac ⟨q,0,Ab⟩)/\Ai w6.heap.size w6 z)
  case first=>
   refine rqx ?_
   repeat go_big_quiet_step (fail)
   refine wpQuiet_nil ?_;intro w7 bh
   go_wp2_with fail
   go_meet;exact ⟨rfl,bh⟩
  case rest=>
   obtain ⟨rfl,bk⟩:=hcut;obtain ⟨w7,cw⟩:=exq (wc);rw [<-cw] at bk;subst cw;have cn:=Z0 (t.trans (bk.mono t.size));obtain ⟨e9,⟨ev,e2⟩,ef,b7,cx⟩:=cc.out w7 (ah.below cn);have aw:Ah _:=b7;have a4:Ah (Tch b W x _ x):=Tch.head cn cx;clear bk b7 cx du s1 c7 dt
   go_upto_region 5 with fail
   generalize w7.setCell ⟨q,2,Ab⟩ (Aa O r.n.nw)=w8 at *;have aj:=Z0 (bp w8 x a4);have n7:=aj.cell 7;have G1:=Z0 trivial;by_cases ag:m.ok=0
   ·have HR:=Z0 (k.trans (if_pos ag))
    have dc:(m.ok == 0)=true:=by simpa using ag
    have cz:Ah (Ar Ad 173 #[Ae (Ac ⟨b,0,Ab⟩),Aw (m.arrC (I ea en ec)),Ae (Ac ⟨q,0,Ab⟩)] w8 λe w'=>e=Aj (Aa O RP.code)/\∃ x',Z9 w' B b RP x'/\Tch b w8 x w' x'):=by
     unfold Ah;rw [HR.out];refine stepBack_any b o x m ea en ec q w8 B aw cg hl c.2.2.2.2.2.2.2.2.2 c.1 HQ ?_ ?_ ?_ ?_ dd c8 dp dh
     ·rw [<-i.out.1];exact au.1
     ·rw [<-i.out.1,c.out.2.1];exact au.2
     ·rw [<-i.out.2];exact a9.1
     ·rw [<-i.out.1,<-i.out.2];exact a9.2
    clear ag HR k
    go_wp2_with (first
     |(have c5:=G1;refine Zd 43 (Ay 3) rfl ?_;clear c5;refine Z7 rfl 43 (Ay 3) rfl w.heap.size rfl aj underlying43 rfl Yc rfl ?_;clear G1)
     |(go_at_call 173;refine Am cz ?_;rintro e w9 ⟨rfl,x9,h9,t9⟩;have H9:Ah _:=h9;have T9:Ah _:=Tch.head ai (a4.trans t9);clear h9 t9))
    go_ret;exact ⟨rfl,_,H9.out,T9.out⟩
   have dc:(m.ok == 0)=false:=by simpa using ag
   have l:Ah _:=k.trans (if_neg ag);obtain ⟨la,lc,a6⟩:=aw.log.shape;rw [c.out.2.1] at a6;obtain ⟨LN,bw⟩:=exq (r.n.log.length);rw [<-bw] at l a6 de au;have bm:=Z0 bw;have cp:=Z0 a6;have dn:∀ u:BW w8,u.w.cell? ⟨w.heap.size,4,Ab⟩=Ac (Aa O m.li):=λu=>(aj.below u.h aj.lt).cell 4
   have ct:∀ u:BW w8,u.w.cell? ⟨b,12,Ab⟩=Ac (I la LN lc):=λu=>cp.out▸(aw.below u.h).blk.cell 12
   have c1:Nonempty (BW w8):=⟨⟨w8,An _ _⟩⟩;clear k ag a6 bw n7;by_cases aq:(LN:Int)<m.li
   ·have HR:=Z0 (l.trans (if_pos aq))
    have db:=decide_eq_true aq;have n7:=aj.cell 7;clear l
    go_upto_region 7 with fail
    refine rqx ?_
    repeat go_big_quiet_step (fail)
    refine wpQuiet_nil ?_;intro w9 aa
    go_wp2_with fail
    go_ret;exact ⟨by rw [HR.out];rfl,x,HR.out▸(aw.below aa).codeQ 3,Tch.head ai (a4.tail aa)⟩
   have db:=decide_eq_false aq;have d:Ah _:=l.trans (if_neg aq);obtain ⟨y,a7⟩:=exq (max MT m.li);rw [<-a7] at d;obtain ⟨N2,a0⟩:=exq (max NX (y+1));rw [<-a0] at d;have d2:(if MT<m.li then m.li else MT)=y:=by rw [a7];split <;> omega
   have dz:(if m.li<MT then MT else m.li)=y:=by rw [a7];split <;> omega
   have d3:(if NX<y+1 then y+1 else NX)=N2:=by rw [a0];split <;> omega
   have dx:(if y+1<NX then NX else y+1)=N2:=by rw [a0];split <;> omega
   have dv:0<=y/\y<=(LN:Int)/\y<N2/\1<=N2/\N2<=(LN:Int)+1:=by omega
   have d4:=wrx (y+1)
   obtain ⟨R2,a2⟩:∃ R2:Rn,R2={ o with n:={ o.n with mt:=o.n.mt.set (m.fr-1).toNat y } }:=⟨_,rfl⟩;obtain ⟨p,a1⟩:=exq (o.taken m y N2);rw [<-a1] at d
   have b0:Ah (∀ z,Z9 z B b o x->z.cell? ⟨q,1,Ab⟩=Ac (Aa O MT)/\z.frozen? ⟨q,1,Ab⟩=false/\Z9 (z.setCell ⟨q,1,Ab⟩ (Aa O y)) B b R2 x/\Tch b z x (z.setCell ⟨q,1,Ab⟩ (Aa O y)) x):=λz hz=>by
    have h9:=hz.mtP HQ y;refine ⟨i.out.2▸(hz.pf _ _ HQ).1.cell 1,(hz.pf _ _ HQ).1.free 1,?_,h9.2⟩;rw [a2];exact h9.1
   have bj:Ah (∀ z,Z9 z B b R2 x->z.cell? ⟨q,0,Ab⟩=Ac (Aa O NX)/\z.cell? ⟨q,1,Ab⟩=Ac (Aa O y)/\z.frozen? ⟨q,0,Ab⟩=false/\Z9 (z.setCell ⟨q,0,Ab⟩ (Aa O N2)) B b p x/\Tch b z x (z.setCell ⟨q,0,Ab⟩ (Aa O N2)) x):=λz hz=>by
    have h9:=hz.nxP HQ N2;have h8:=(hz.pf _ _ HQ).1;have e0:=h8.cell 0;have e1:=h8.cell 1;rw [a2] at e0 e1;refine ⟨i.out.1▸e0,?_,h8.free 0,?_,h9.2⟩
    ·rw [e1]
     show Ac (Value.int O ((o.n.mt.set (m.fr-1).toNat y).getD (m.fr-1).toNat 0))=_;rw [J2 _ _ _ (by rw [c.out.2.2.2.1,ar.out.2];have:=ax.out;omega)]
    ·have h7:=h9.1
     rw [a1];rw [a2] at h7;exact h7
   have a:Ah (p.n.ro=3/\p.n.log=r.n.log/\p.n.sz=r.n.sz/\p.n.id=r.n.id/\p.n.cm=r.n.cm/\p.n.tm=r.n.tm/\p.n.nx.getD (m.fr-1).toNat 0=N2/\p.code=0):=by
    unfold Ah;rw [a1];refine ⟨c.1,c.2.1,c.2.2.2.2.1,c.2.2.2.2.2.1,c.2.2.2.2.2.2.2.1,c.2.2.2.2.2.2.1,?_,cg.out⟩;show (o.n.nx.set (m.fr-1).toNat N2).getD (m.fr-1).toNat 0=N2;rw [J2 _ _ _ (by rw [c.out.2.2.1,ar.out.1];have:=ax.out;omega)]
   have c6:=Z0 λz hz=>commit_any b p x z B hz a.1 (by rw [a.out.2.1];have:=bm.out;omega) (a.out.2.2.2.2.1▸ch) ⟨a.out.2.1▸ca.rise,by rw [a.out.2.1,a.out.2.2.2.2.2.1];exact ca.top⟩
   have b3:Ah (∀ z,Z9 z B b p.agree x->z.cell? ⟨q,0,Ab⟩=Ac (Aa O N2)/\z.cell? ⟨b,12,Ab⟩=Ac (I la LN lc)):=λz hz=>by
    have e0:=(hz.pf _ _ HQ).1.cell 0;refine ⟨?_,cp.out▸hz.blk.cell 12⟩;rw [e0];show Ac (Value.int O (p.n.nx.getD (m.fr-1).toNat 0))=_;rw [a.out.2.2.2.2.2.2.1]
   have bi:Ah (N2<=(LN:Int)->∀ z,Z9 z B b p.agree x->Ar Ad 157 #[Ae (Ac ⟨b,0,Ab⟩),Aa O m.fr] z λe w'=>e=Aj (.tuple #[])/\∃ v m',Z9 w' B b (p.agree.sendE (m.fr-1).toNat) (x.sent v m')/\Tch b z x w' (x.sent v m')):=λhle z hz=>Z0p b p.agree x m.fr (N2-1).toNat z B hz a.1 ax.1 (by show m.fr<=p.n.sz;rw [a.out.2.2.1];exact ax.2.1) (by show m.fr≠p.n.id;rw [a.out.2.2.2.1];exact ax.2.2) (by show p.n.nx.getD (m.fr-1).toNat 0=_;rw [a.out.2.2.2.2.2.2.1];omega) (by show _<=p.n.log.length;rw [a.out.2.1];have:=bm.out;omega) (by show p.n.log.length<=4096;rw [a.out.2.1];have:=bm.out;omega)
   have n7:=aj.cell 7;clear l aq a7 a0 a2 a1 cc i
   go_upto_region 7 with fail
   go_cut [56] (λs z=>s=.bool false/\Ai w8.heap.size w8 z)
   case first=>
    refine rqx ?_
    repeat go_big_quiet_step (fail)
    refine wpQuiet_nil ?_;intro w9 aa
    go_wp2_with fail
    go_meet;exact ⟨rfl,aa⟩
   case rest=>
    obtain ⟨rfl,a8⟩:=hcut;obtain ⟨w9,ce⟩:=exq (wc);rw [<-ce] at a8;subst ce;have cd:=Z0 (aw.below a8);have co:=Z0 (a4.tail a8);have cq:=Z0 (bp w9 x co);have v1:∀ u:BW w9,u.w.cell? ⟨q,1,Ab⟩=Ac (Aa O MT):=λu=>(b0 u.w (cd.below u.h)).1
    have v4:∀ u:BW w9,u.w.cell? ⟨w.heap.size,4,Ab⟩=Ac (Aa O m.li):=λu=>(cq.below u.h cq.lt).cell 4
    have ds:Nonempty (BW w9):=⟨⟨w9,An _ _⟩⟩;clear a8 dn ct c1 n7
    go_upto_region 9 with fail
    go_cut [] (λz=>Z9 z B b R2 x/\Tch b W x z x)
    case first=>
     refine rlx ?_;simp only [List.dropLast_cons_cons,List.dropLast_singleton]
     repeat go_big_quiet_step (fail)
     refine wpQuiet_nil ?_;intro wa ao;obtain ⟨e1,e2,e3,e4⟩:=b0.out wa (cd.below ao);refine J8 (Ay 66) (Ay 64) rfl rfl rfl e1 e2 rfl ?_;have HF:Ah _:=e3;have bo:Ah (Tch b W x _ x):=(co.tail ao).trans e4;clear e1 e2 e3 e4
     go_wp2_with fail
     go_meet;exact ⟨HF,bo.out⟩
    case rest=>
     obtain ⟨hC,hT⟩:=hcut;obtain ⟨wb,cr⟩:=exq (wc);rw [<-cr] at hC hT;subst cr;have bg:=Z0 hC;have c2:=Z0 hT;have x0:∀ u:BW wb,u.w.cell? ⟨q,0,Ab⟩=Ac (Aa O NX):=λu=>(bj u.w (bg.below u.h)).1
     have x1:∀ u:BW wb,u.w.cell? ⟨q,1,Ab⟩=Ac (Aa O y):=λu=>(bj u.w (bg.below u.h)).2.1
     have di:Nonempty (BW wb):=⟨⟨wb,An _ _⟩⟩;clear hC hT v1 v4 ds
     go_upto_region 10 with fail
     go_cut [] (λz=>Z9 z B b p x/\Tch b W x z x)
     case first=>
      refine rlx ?_;simp only [List.dropLast_cons_cons,List.dropLast_singleton]
      repeat go_big_quiet_step (fail)
      refine wpQuiet_nil ?_;intro wd al;obtain ⟨e1,e0,e2,e3,e4⟩:=bj.out wd (bg.below al);refine J8 (Ay 79) (Ay 77) rfl rfl rfl e1 e2 rfl ?_;have HF:Ah _:=e3;have bo:Ah (Tch b W x _ x):=(c2.tail al).trans e4;clear e1 e0 e2 e3 e4
      go_wp2_with fail
      go_meet;exact ⟨HF,bo.out⟩
     case rest=>
      obtain ⟨hC,hT⟩:=hcut;obtain ⟨we,bz⟩:=exq (wc);rw [<-bz] at hC hT;subst bz;have da:=Z0 hC;have dk:=Z0 hT;clear hC hT x0 x1 di
      go_upto_region 12 with (first
       |(go_at_call 174;refine Am (c6 _ da) ?_;rintro e wf ⟨rfl,hf,tf⟩;have a5:=Z0 hf;have bn:=Z0 (dk.trans tf);clear hf tf))
      have y0:∀ u:BW wf,u.w.cell? ⟨q,0,Ab⟩=Ac (Aa O N2):=λu=>(b3 u.w (a5.below u.h)).1
      have dy:∀ u:BW wf,u.w.cell? ⟨b,12,Ab⟩=Ac (I la LN lc):=λu=>(b3 u.w (a5.below u.h)).2
      have d0:Nonempty (BW wf):=⟨⟨wf,An _ _⟩⟩;have cj:=Z0 (bp wf x bn);by_cases am:N2<=(LN:Int)
      ·have c3:=decide_eq_true am
       have HR:=Z0 (d.trans (if_pos am));have bv:Ah (RP.code=0):=HR.out▸a.2.2.2.2.2.2.2
       have cf:Ah _:=bi.out am;rw [<-HR.out] at cf;have dg:Ah (∀ z,Ai wf.heap.size wf z->z.cell? ⟨w.heap.size,1,Ab⟩=Ac (Aa O m.fr)):=λz hz=>(cj.below hz cj.lt).cell 1
       clear d HR bi;refine rqx ?_
       repeat go_big_quiet_step (fail)
       refine wpQuiet_nil ?_;intro wg f;have g1:=dg.out wg f;have c0:=Z0 (a5.below f)
       go_wp2_with (first
        |(go_at_call 157;refine Am (cf _ c0) ?_;rintro e wh ⟨rfl,vh,mh,hh,th⟩;have Hh:Ah _:=hh;have Th:Ah _:=Tch.head ai ((bn.tail f).trans th);clear hh th))
       go_ret;exact ⟨by rw [bv.out];rfl,_,Hh.out,Th.out⟩
      ·have c3:=decide_eq_false am
       have HR:=Z0 (d.trans (if_neg am));have bv:Ah (RP.code=0):=HR.out▸a.2.2.2.2.2.2.2
       clear d bi;refine rqx ?_
       repeat go_big_quiet_step (fail)
       refine wpQuiet_nil ?_;intro wg f
       go_wp2_with fail
       go_ret;exact ⟨by rw [bv.out];rfl,x,HR.out▸a5.below f,Tch.head ai (bn.tail f)⟩
end Go.Proofs.YtmmpoppgabadmaaGreat
namespace Go.Proofs.YtmmpoppgabadmaaGreat
open Go.Proofs.Tryz
open Go.RowKit Go.Maps
theorem msB_more (m:Mg)(h:msB m=0):(m.ok=0∨m.ok=1)/\(m.li=0->m.lt=0):=by
 unfold msB Jr at h;split at h
 ·simp at h
 split at h
 ·simp at h
 split at h
 ·simp at h
 rename_i h3;split at h
 ·simp at h
 rename_i h4;split at h
 ·simp at h
 rename_i h5;have a:Z0i m.ki m.tm m.li m.lt=true:=by simpa using h4
 have c:Yt m.ki m.cm m.ok m.hi=true:=by simpa using h5
 unfold Yt at c;simp only [Al,Zj] at c;unfold Z0i at a;constructor
 ·have b:(if m.ki=2∨m.ki=4∨m.ki=6 then (1:Int) else 0)<=1:=by split <;> omega
  omega
 ·intro e
  split at a
  ·simp only [Al,beq_iff_eq] at a
   have b:=a.2;rw [e] at b;simpa using b
  ·split at a
   ·simp only [Al,beq_iff_eq] at a
    exact a.2
   ·simp only [Al,beq_iff_eq] at a
    exact a.2
theorem take_any (b:Nat)(r:Rn)(x:CV)(m:Mg)(ea:Option Addr)(ec:Nat)(w:World)(B:Nat)(h:Z9 w B b r x)(hc:r.code=0)(hl:x.L.length<=900)(hb:NdB r.n)(hd : -(2^63)<=r.draw)(hD:r.draw<2^63)(ba:0<=r.n.tm)(bk:r.n.tm<=1073741824)(he:Es w (I ea m.es.length ec) m.es)(au:∀ k,(Value.slice ea m.es.length ec).ownBlock=Ac k->k<B)(a2:m.es.length<=ec)(aq:m.es.length<=1048576)(a8:r.n.ro=3->LdM r.n r.n.sz.toNat)(a4:0<=r.n.cm)(bv:LogR r.n) :
  Ar Ad 84 #[Ae (Ac ⟨b,0,Ab⟩),Aw (m.arrC (I ea m.es.length ec))] w λe w'=>e=Aj (Aa O (r.message (decide (msB m≠0)) m).code)/\∃ x',Z9 w' B b (r.message (decide (msB m≠0)) m) x'/\Tch b w x w' x':=by
 have bd:=Ap h.lo (Be h.lt);have HQ:Ah (r.message (decide (msB m≠0)) m=_):=Z8b r m;have be:Ah (∀ z,Ai B w z->Es z (I ea m.es.length ec) m.es):=λz hz=>he.elder au hz
 have bu:=Z0 au;obtain ⟨EN,ax⟩:=exq (m.es.length);have aa:=Z0 ax;rw [<-ax] at a2 aq ⊢;obtain ⟨W,hW⟩:=exq (w.alloc (.cells (m.arrC (I ea EN ec)) 43));have t:Ah (Ai w.heap.size w W):=hW▸Below.alloc0 _
 have i:Ah (Blk W w.heap.size (m.arrC (I ea EN ec)) 43):=hW▸Blk.new _ _ _
 have ay:=Z0 (h.below t);have al:Ah (∀ z,Ai W.heap.size W z->Ar Ad 129 #[Aw (m.arrC (I ea EN ec))] z λe w'=>e=Aj (Aa O (msB m))/\Ai z.heap.size z w'):=λz hz=>Z6a m.ki m.fr m.td m.tm m.li m.lt m.cm m.ok m.hi _ m.es z (by have h9:=be.out z ((t.mono bd).trans (hz.mono (by have:=t.size;omega)));rw [<-aa.out] at h9;exact h9) (aa.out▸aq)
 have q2:∀ u:BW W,u.w.cell? ⟨w.heap.size,2,Ab⟩=Ac (Aa O m.td):=λu=>(i.below u.h i.lt).cell 2
 have q1:∀ u:BW W,u.w.cell? ⟨w.heap.size,1,Ab⟩=Ac (Aa O m.fr):=λu=>(i.below u.h i.lt).cell 1
 have p0:=λu:BW W=>(ay.below u.h).c0
 have p1:=λu:BW W=>(ay.below u.h).c1
 have qm:∀ u:BW W,Sem.run Ad (loadVar 43 ⟨w.heap.size,0,Ab⟩) u.w=.ok (Aw (m.arrC (I ea EN ec))) u.w:=λu=>Z0e (i.below u.h i.lt) 43 underlying43 rfl Yc
 have bw:Nonempty (BW W):=⟨⟨W,An _ _⟩⟩;obtain ⟨RP,a6⟩:=exq (r.message (decide (msB m≠0)) m);rw [<-a6] at HQ ⊢;obtain ⟨VB,ao⟩:=exq (mgB r.n m);rw [<-ao] at HQ;have f:Ah (VB=((msB m != 0) || (m.td != r.n.id) || decide (r.n.sz<m.fr))):=ao;obtain ⟨MS,aw⟩:=exq (msB m);have br:=Z0 aw;rw [<-aw] at al f;clear h he au ax a6 ao aw;go_enter func84,ntmps84
 go_upto_region 1 with fail
 rw [<-hW];clear hW
 go_cut [27] (λs z=>s=.bool VB/\Ai W.heap.size W z)
 case first=>
  cases h1:(MS != 0)
  ·cases h2:(m.td != r.n.id)
   ·rw [h1,h2] at f
    refine rqx ?_
    repeat (first | (go_big_quiet_want;refine Jp (W:=W) 43 (Ay 3) rfl rfl qm ?_;go_big_quiet_on;simp only [Act.put,Bj,By,Bt]) | go_big_quiet_step ((go_at_call 129;exact bwx (al _ (BW.h _)))))
    refine wpQuiet_nil ?_;intro w5 c
    go_wp2_with fail
    go_meet;exact ⟨by rw [f.out];simp,c⟩
   ·rw [h1,h2] at f
    refine rqx ?_
    repeat (first | (go_big_quiet_want;refine Jp (W:=W) 43 (Ay 3) rfl rfl qm ?_;go_big_quiet_on;simp only [Act.put,Bj,By,Bt]) | go_big_quiet_step ((go_at_call 129;exact bwx (al _ (BW.h _)))))
    refine wpQuiet_nil ?_;intro w5 c
    go_wp2_with fail
    go_meet;exact ⟨by rw [f.out];rfl,c⟩
  ·rw [h1] at f
   refine rqx ?_
   repeat (first | (go_big_quiet_want;refine Jp (W:=W) 43 (Ay 3) rfl rfl qm ?_;go_big_quiet_on;simp only [Act.put,Bj,By,Bt]) | go_big_quiet_step ((go_at_call 129;exact bwx (al _ (BW.h _)))))
   refine wpQuiet_nil ?_;intro w5 c
   go_wp2_with fail
   go_meet;exact ⟨by rw [f.out];rfl,c⟩
 case rest=>
  obtain ⟨rfl,v⟩:=hcut;obtain ⟨w6,bg⟩:=exq (wc);rw [<-bg] at v;subst bg;have bq:=Z0 v;have p:=Z0 (ay.below v);have o:=Z0 (i.below v i.lt);have l:Ah (Tch b w x w6 x):=Tch.head t (Tch.below0 _ _ v);have n0:w6.cell? ⟨w.heap.size,0,Ab⟩=Ac (Aa O m.ki):=o.cell 0;clear q2 q1 p0 p1 qm bw v;by_cases hv:VB=true
  ·have q:=Z0 (HQ.trans (if_pos hv))
   rw [hv];clear HQ hv f
   go_wp2_with fail
   go_ret;exact ⟨by rw [q.out];rfl,x,q.out▸p.codeQ 1,l.out⟩
  have ar:VB=false:=by simpa using hv
  have ak:Ah _:=HQ.trans (if_neg hv);have h9:=f.out;rw [ar] at h9;have h8:=Bool.or_eq_false_iff.1 h9.symm;have g:=Bool.or_eq_false_iff.1 h8.1;have av:msB m=0:=by rw [<-br.out];simpa using g.1
  have bn:m.td=r.n.id:=by simpa using g.2
  have a9:m.fr<=r.n.sz:=by have:=of_decide_eq_false h8.2;omega
  obtain ⟨b8,bc,b7,a5,bj,b6,a0,bh⟩:=Z2a m av;obtain ⟨bo,a3⟩:=msB_more m av;have a7:=Z0 (Z8l b r x m ea EN ec w6 B p hc hl hb);have bm:=Z0 (Z6p b r x m ea EN ec w6 B p hc hl hb hd hD ba bk bc.1 a9);have bb:=Z0 (Z7h b r x m ea EN ec w6 B p hc hl hb hd hD);have a1:=Z0 (Z5n b r x m ea EN ec w6 B p hc hl hb hd hD ba bk bc.1 a9 bo)
  have bi:Ah (Ar Ad 134 #[Ae (Ac ⟨b,0,Ab⟩),Aw (m.arrC (I ea EN ec))] w6 λe w'=>e=Aj (Aa O (r.append m).code)/\∃ x',Z9 w' B b (r.append m) x'/\Tch b w6 x w' x'):=by
   have h9:=Z7s b r x m ea ec m.li.toNat w6 B p hc hl hb hd hD (be w6 ((t.mono bd).trans (bq.mono (by have:=t.size;omega)))) bu (aa.out▸a2) (aa.out▸aq) (by omega) (by omega) a3;rw [<-aa.out] at h9;exact h9
  have az:=Z0 (Z4p b r x m (m.fr-1).toNat ea EN ec w6 B p hc hl hb hd hD (by omega) (by omega) (by omega) a8 a4 a5 bj a0 bh bv);rw [ar];clear HQ hv ar f h9 h8 g av bn a8;have y:=Z0 trivial;by_cases ac:m.ki=1
  ·have q:=Z0 (ak.trans (if_pos ac))
   have am:(m.ki == 1)=true:=by simpa using ac
   rw [<-q.out] at a7;clear ak ac
   go_wp2_with (first
    |(have d:=y;refine Zd 43 (Ay 3) rfl ?_;clear d;refine Z7 rfl 43 (Ay 3) rfl w.heap.size rfl o underlying43 rfl Yc rfl ?_;clear y)
    |(go_at_call 130;refine Am a7 ?_;rintro e w7 ⟨rfl,x7,g,j⟩;have H7:Ah _:=g;have T7:Ah _:=l.trans j;clear g j))
   go_ret;exact ⟨rfl,_,H7.out,T7.out⟩
  have bx:(m.ki == 1)=false:=by simpa using ac
  have ah:Ah _:=ak.trans (if_neg ac);clear ak;by_cases af:m.ki=2
  ·have q:=Z0 (ah.trans (if_pos af))
   have am:(m.ki == 2)=true:=by simpa using af
   rw [<-q.out] at bm;clear ah af
   go_wp2_with (first
    |(have d:=y;refine Zd 43 (Ay 3) rfl ?_;clear d;refine Z7 rfl 43 (Ay 3) rfl w.heap.size rfl o underlying43 rfl Yc rfl ?_;clear y)
    |(go_at_call 131;refine Am bm ?_;rintro e w7 ⟨rfl,x7,g,j⟩;have H7:Ah _:=g;have T7:Ah _:=l.trans j;clear g j))
   go_ret;exact ⟨rfl,_,H7.out,T7.out⟩
  have b0:(m.ki == 2)=false:=by simpa using af
  have aj:Ah _:=ah.trans (if_neg af);clear ah;by_cases ag:m.ki=3
  ·have q:=Z0 (aj.trans (if_pos ag))
   have am:(m.ki == 3)=true:=by simpa using ag
   rw [<-q.out] at bb;clear aj ag
   go_wp2_with (first
    |(have d:=y;refine Zd 43 (Ay 3) rfl ?_;clear d;refine Z7 rfl 43 (Ay 3) rfl w.heap.size rfl o underlying43 rfl Yc rfl ?_;clear y)
    |(go_at_call 132;refine Am bb ?_;rintro e w7 ⟨rfl,x7,g,j⟩;have H7:Ah _:=g;have T7:Ah _:=l.trans j;clear g j))
   go_ret;exact ⟨rfl,_,H7.out,T7.out⟩
  have b3:(m.ki == 3)=false:=by simpa using ag
  have an:Ah _:=aj.trans (if_neg ag);clear aj;by_cases ae:m.ki=4
  ·have q:=Z0 (an.trans (if_pos ae))
   have am:(m.ki == 4)=true:=by simpa using ae
   rw [<-q.out] at a1;clear an ae
   go_wp2_with (first
    |(have d:=y;refine Zd 43 (Ay 3) rfl ?_;clear d;refine Z7 rfl 43 (Ay 3) rfl w.heap.size rfl o underlying43 rfl Yc rfl ?_;clear y)
    |(go_at_call 133;refine Am a1 ?_;rintro e w7 ⟨rfl,x7,g,j⟩;have H7:Ah _:=g;have T7:Ah _:=l.trans j;clear g j))
   go_ret;exact ⟨rfl,_,H7.out,T7.out⟩
  have bz:(m.ki == 4)=false:=by simpa using ae
  have ai:Ah _:=an.trans (if_neg ae);clear an;by_cases ab:m.ki=5
  ·have q:=Z0 (ai.trans (if_pos ab))
   have am:(m.ki == 5)=true:=by simpa using ab
   rw [<-q.out] at bi;clear ai ab
   go_wp2_with (first
    |(have d:=y;refine Zd 43 (Ay 3) rfl ?_;clear d;refine Z7 rfl 43 (Ay 3) rfl w.heap.size rfl o underlying43 rfl Yc rfl ?_;clear y)
    |(go_at_call 134;refine Am bi ?_;rintro e w7 ⟨rfl,x7,g,j⟩;have H7:Ah _:=g;have T7:Ah _:=l.trans j;clear g j))
   go_ret;exact ⟨rfl,_,H7.out,T7.out⟩
  have b2:(m.ki == 5)=false:=by simpa using ab
  have bp:Ah _:=ai.trans (if_neg ab);clear ai;have q:=Z0 bp;rw [<-q.out] at az
  go_wp2_with (first
   |(have d:=y;refine Zd 43 (Ay 3) rfl ?_;clear d;refine Z7 rfl 43 (Ay 3) rfl w.heap.size rfl o underlying43 rfl Yc rfl ?_;clear y)
   |(go_at_call 135;refine Am az ?_;rintro e w7 ⟨rfl,x7,g,j⟩;have H7:Ah _:=g;have T7:Ah _:=l.trans j;clear g j))
  go_ret;exact ⟨rfl,_,H7.out,T7.out⟩
end Go.Proofs.YtmmpoppgabadmaaGreat
namespace Go.Proofs.YtmmpoppgabadmaaGreat
open Go.Proofs.Tryz
open Go.RowKit
section
def StI (n:Nd)(s:List Int):Prop:=s.length=n.st.length/\∀ j:Nat,s.getD j 0=n.st.getD j 0∨((j:Int)+1≠n.id/\s.getD j 0=n.nw)
theorem StI.refl (n:Nd):StI n n.st:=⟨rfl,λ_=>.inl rfl⟩
theorem Z0w (l:List Int)(i j:Nat)(x:Int):(l.set i x).getD j 0=if i=j/\i<l.length then x else l.getD j 0:=by
 rw [Ba,List.getElem?_set];by_cases h:i=j
 ·subst h
  rw [if_pos rfl];by_cases a:i<l.length
  ·rw [if_pos a,if_pos ⟨rfl,a⟩];rfl
  ·rw [if_neg a,if_neg (λq=>a q.2),Ba,Bv (by omega)]
 ·rw [if_neg h,if_neg (λq=>h q.1),Ba]
variable {n:Nd}{s:List Int}
theorem StI.set (h:StI n s){i:Nat}(hi:(i:Int)+1≠n.id):StI n (s.set i n.nw):=by
 refine ⟨by rw [Bg];exact h.1,λj=>?_⟩;rw [Z0w];by_cases a:i=j/\i<s.length
 ·rw [if_pos a]
  exact .inr ⟨by rw [<-a.1];exact hi,rfl⟩
 ·rw [if_neg a]
  exact h.2 j
theorem Ya.sent (h:Ya n)(d:n.ro=3)(c:StI n s):Ya { n with st:=s }:=by
 have g:=h.nw;refine ⟨h.sz,h.id,h.el,h.bt,h.tm,h.vo,h.vt,h.ro,h.ld,h.r0,h.r1,h.r2,h.r3,h.len,h.pw,h.en,h.cm,h.nw,h.dl,h.hd,h.g0,h.g1,λe=>absurd d e,λ_=>?_⟩;obtain ⟨b,f⟩:=h.l1 d;refine ⟨⟨b.1,b.2.1,b.2.2.1,by show (s.length:Int)=n.sz;rw [c.1];exact b.2.2.2⟩,λj hj=>?_⟩;have a:=f j hj;unfold Z41 at a ⊢;show if (j:Int)+1=n.id then _/\_/\_/\s.getD j 0=0 else _/\_/\_/\(0<=s.getD j 0/\s.getD j 0<=n.nw)
 by_cases e:(j:Int)+1=n.id
 ·rw [if_pos e] at a ⊢
  rcases c.2 j with h8 | h8
  ·rw [h8];exact a
  ·exact absurd e h8.1
 ·rw [if_neg e] at a ⊢
  rcases c.2 j with h8 | h8
  ·rw [h8];exact a
  ·exact ⟨a.1,a.2.1,a.2.2.1,by rw [h8.2];omega⟩
structure SndI (r r':Rn):Prop where
 n:∃ s,StI r.n s/\r'.n={ r.n with st:=s }
 code:r'.code=r.code
 out:∀ o∈r'.out,o∈r.out∨MsOk r.n.id r.n.sz o
theorem SndI.refl (r:Rn):SndI r r:=⟨⟨r.n.st,StI.refl _,rfl⟩,rfl,λo h=>.inl h⟩
variable {r r':Rn}
theorem SndI.sendE (h:SndI r r')(b:Ya r.n)(k:r.n.ro=3){j:Nat}(i:(j:Int)<r.n.sz)(a:(j:Int)+1≠r.n.id):SndI r (r'.sendE j):=by
 obtain ⟨⟨s,e,c⟩,f,g⟩:=h;refine ⟨⟨s.set j r.n.nw,e.set a,?_⟩,f,λo h=>?_⟩
 ·show { r'.n with st:=r'.n.st.set j r'.n.nw }=_
  rw [c]
 ·have d:=h
  rcases List.mem_append.1 d with h8 | h8
  ·exact g o h8
  ·rw [Bd] at h8
   rw [c] at h8;rw [h8];exact .inr (ent_ok b k j i a)
theorem beatK_snd (a:Ya r.n)(b:r.n.ro=3):∀ k:Nat,(k:Int)<=r.n.sz->SndI r (r.beatK k)
 | 0,_=>SndI.refl r
 | k+1,hk=>by
  have c:=beatK_snd a b k (by omega);rw [Rn.beatK];split
  ·rename_i hc
   exact c.sendE a b (by omega) hc.1
  ·exact c
theorem sendK_snd (a:Ya r.n)(b:r.n.ro=3):∀ k:Nat,(k:Int)<=r.n.sz->SndI r (r.sendK k)
 | 0,_=>SndI.refl r
 | k+1,hk=>by
  have c:=sendK_snd a b k (by omega);rw [Rn.sendK];split
  ·exact c
  ·rename_i hc
   exact c.sendE a b (by omega) hc
theorem Z75 (a:Ya r.n)(b:r.n.ro=3):SndI r r.sendAll:=sendK_snd a b _ (by have:=a.sz;omega)
theorem SndI.kept {a:Nd}(h:SndI r r')(b:KpR a r)(e:r.n.ro=3):KpR a r':=by
 obtain ⟨⟨s,d,f⟩,c,g⟩:=h;have k:=b.k;refine ⟨?_,λo h=>?_,c▸b.c9⟩
 ·rw [f]
  exact ⟨k.ok.sent e d,k.id,k.sz,k.tm,k.cm,k.pre,k.vo,k.lg⟩
 ·rcases g o h with h | h
  ·exact b.out o h
  ·rw [<-k.id,<-k.sz];exact h
theorem Ya.later (h:Ya n)(i:n.nw<1099511627776):Ya { n with nw:=n.nw+1 }:=by
 have d:=h.nw;have c:=h.dl;have g:=h.hd;refine ⟨h.sz,h.id,h.el,h.bt,h.tm,h.vo,h.vt,h.ro,h.ld,h.r0,h.r1,h.r2,h.r3,h.len,h.pw,h.en,h.cm,by show 0<=n.nw+1/\n.nw+1<=_;omega,by show 0<=n.dl/\n.dl<=n.nw+1+2*n.el;omega,by show 0<=n.hd/\n.hd<=n.nw+1;omega,h.g0,h.g1,h.l0,λe=>?_⟩;obtain ⟨f,b⟩:=h.l1 e;refine ⟨f,λj hj=>?_⟩;have a:=b j hj;unfold Z41 at a ⊢;show if (j:Int)+1=n.id then _ else _/\_/\(0<=n.se.getD j 0/\n.se.getD j 0<=n.nw+1)/\(0<=n.st.getD j 0/\n.st.getD j 0<=n.nw+1)
 by_cases e2:(j:Int)+1=n.id
 ·rw [if_pos e2] at a ⊢
  exact a
 ·rw [if_neg e2] at a ⊢
  exact ⟨a.1,a.2.1,by omega,by omega⟩
theorem Ya.asking (h:Ya r.n):Ya { r.lone.timer.n with ro:=1,gr:=[r.n.id] }:=by
 have a:=(Ya.timer (r:=r.lone) h.lone);have c:=h.sz;exact ⟨a.sz,a.id,a.el,a.bt,a.tm,a.vo,a.vt,by show (0:Int)<=1/\(1:Int)<=3;decide,a.ld,(λe=>by cases e),λ_=>rfl,(λe=>by cases e),(λe=>by cases e),a.len,a.pw,a.en,a.cm,a.nw,a.dl,a.hd,λe=>absurd (.inl rfl) e,λ_=>⟨List.pairwise_singleton _ _,λy hy=>by rw [Bd] at hy;rw [hy];exact h.id,by show r.n.id∈[r.n.id];simp,by show ((1:Nat):Int)<=r.n.sz / 2;omega⟩,(λ_=>⟨rfl,rfl,rfl,rfl⟩),(λe=>by cases e)⟩
theorem tick_keeps {dr:Int}(h:Ya n):KpR n (Rn.tick ⟨n,[],0,0,dr⟩):=by
 have f:=h.nw;have d:=h.tm;have e:=h.sz;unfold Rn.tick;split
 ·exact ⟨Kpt.refl h,(λo ho=>by cases ho),by show (7:Int)≠9;decide⟩
 ·rename_i hne
  have a:=h.later (by have:n.nw≠1099511627776:=hne;omega);have c:Kpt n { n with nw:=n.nw+1 }:=Kpt.like a rfl rfl (Int.le_refl _) (λ_ _=>rfl);have lt:KpR n (Rn.lone ⟨{ n with nw:=n.nw+1 },[],0,0,dr⟩).timer:=⟨Kpt.like (Ya.timer (r:=Rn.lone ⟨{ n with nw:=n.nw+1 },[],0,0,dr⟩) (Ya.lone (r:=⟨{ n with nw:=n.nw+1 },[],0,0,dr⟩) a)) rfl rfl (Int.le_refl _) (λ_ _=>rfl),(λo ho=>by cases ho),by show (0:Int)≠9;decide⟩;dsimp only;split
  ·rename_i h3
   split
   ·exact (beatK_snd (r:=⟨{ n with nw:=n.nw+1 },[],0,0,dr⟩) a h3 n.sz.toNat (by show ((n.sz.toNat:Nat):Int)<=n.sz;omega)).kept ⟨c,(λo ho=>by cases ho),by show (0:Int)≠9;decide⟩ h3
   ·exact lt
  ·split
   ·exact ⟨c,(λo ho=>by cases ho),by show (0:Int)≠9;decide⟩
   ·split
    ·exact lt
    ·rename_i hmax
     have b:n.tm≠1073741824:=hmax;have i:=Ya.asking (r:=⟨{ n with nw:=n.nw+1 },[],0,0,dr⟩) a;obtain ⟨g,e2,e3⟩:=allK_kp _ _ n.sz.toNat;refine ⟨?_,λo ho=>?_,?_⟩
     ·rw [g]
      exact Kpt.like i rfl rfl (Int.le_refl _) (λ_ _=>rfl)
     ·rcases allK_out _ _ _ o ho with h9 | ⟨j,h1,h2,h3⟩
      ·cases h9
      ·rw [h3]
       exact ask_ok h (.inl rfl) (by omega) (λq=>h2 q.symm) (by show 1<=n.tm+1/\n.tm+1<=1073741824;omega) (by show n.tm<=n.tm+1;omega)
     ·rw [e2]
      show (0:Int)≠9;decide
end
section
variable {r:Rn}
theorem Z05 {a:Nd}(k:Kpt a r.n)(c:r.out = []):KpR a r.stale:=⟨k,(λo h=>by have b:o∈r.out:=h;rw [c] at b;cases b),by show (3:Int)≠9;decide⟩
variable {n:Nd}{dr t:Int}
theorem Z3z (h:Ya n)(a:n.tm<t)(b:t<=1073741824):KpR n (Rn.adopt ⟨n,[],0,0,dr⟩ t):=
 ⟨Z7p (r:=⟨n,[],0,0,dr⟩) h a b,(λo ho=>by rw [(Z4n _ t).1] at ho;cases ho),by rw [(Z4n _ t).2];show (0:Int)≠9;decide⟩
theorem Z7z (h:Ya n)(a:t<=1073741824):KpR n (Rn.takeTerm ⟨n,[],0,0,dr⟩ t):=by
 unfold Rn.takeTerm;split
 ·rename_i hlt
  exact Z3z h hlt a
 ·exact Z05 (r:=⟨n,[],0,0,dr⟩) (Kpt.refl h) rfl
theorem Ya.granted (h:Ya n){fr:Int}(a:n.ro=1∨n.ro=2)(b:¬ Xx (Zx n.gr fr n.sz.toNat).length n.sz=true):Ya { n with gr:=Zx n.gr fr n.sz.toNat }:=by
 have d:=h.id;refine ⟨h.sz,h.id,h.el,h.bt,h.tm,h.vo,h.vt,h.ro,h.ld,h.r0,h.r1,h.r2,h.r3,h.len,h.pw,h.en,h.cm,h.nw,h.dl,h.hd,λe=>absurd a e,λ_=>⟨Z1f _ _ _,λy hy=>?_,?_,?_⟩,h.l0,h.l1⟩
 ·have f:=((Ji _ fr y n.sz.toNat).1 hy).1
  show 1<=y/\y<=n.sz;omega
 ·show n.id∈Zx n.gr fr n.sz.toNat
  exact (Ji _ fr _ n.sz.toNat).2 ⟨by omega,.inr (h.g1 a).2.2.1⟩
 ·show ((Zx n.gr fr n.sz.toNat).length:Int)<=n.sz / 2
  unfold Xx at b;rw [decide_eq_true_eq] at b;omega
theorem Ya.candid (h:Ya r.n)(c:r.n.ro=1)(f:r.n.tm<1073741824):Ya (Rn.timer { r with n:={ r.n with tm:=r.n.tm+1,vo:=r.n.id,ro:=2,gr:=[r.n.id] } }).n:=by
 have b:=h.sz;have d:=h.id;have a:=h.tm;refine Ya.timer (r:={ r with n:={ r.n with tm:=r.n.tm+1,vo:=r.n.id,ro:=2,gr:=[r.n.id] } }) ?_;exact ⟨h.sz,h.id,h.el,h.bt,by show 0<=r.n.tm+1/\r.n.tm+1<=1073741824;omega,by show 0<=r.n.id/\r.n.id<=r.n.sz;omega,.inr (by show 0<r.n.tm+1;omega),by show (0:Int)<=2/\(2:Int)<=3;decide,h.ld,(λe=>by cases e),(λe=>by cases e),λ_=>⟨h.r1 c,by show 0<r.n.tm+1;omega,rfl⟩,(λe=>by cases e),h.len,h.pw,λe he=>⟨(h.en e he).1,(h.en e he).2.1,by show e.t<=r.n.tm+1;have:=(h.en e he).2.2;omega⟩,h.cm,h.nw,h.dl,h.hd,λe=>absurd (.inr rfl) e,λ_=>⟨List.pairwise_singleton _ _,λy hy=>by rw [Bd] at hy;rw [hy];exact h.id,by show r.n.id∈[r.n.id];simp,by show ((1:Nat):Int)<=r.n.sz / 2;omega⟩,λ_=>h.l0 (by omega),(λe=>by cases e)⟩
variable {m:Mg}
theorem Z81 (h:Ya n)(l:msB m=0)(g:m.fr<=n.sz):KpR n (Rn.preReply ⟨n,[],0,0,dr⟩ m):=by
 have b:=(Z57 l).1;unfold Rn.preReply;split
 ·exact Z7z h b.2
 ·split
  ·exact Z05 (r:=⟨n,[],0,0,dr⟩) (Kpt.refl h) rfl
  ·rename_i hg
   have a:n.ro=1:=Classical.not_not.1 λq=>hg (.inl q)
   have i:m.tm=n.tm+1:=Classical.not_not.1 λq=>hg (.inr (.inl q))
   dsimp only;split
   ·have d:=Ya.candid (r:=⟨n,[],0,0,dr⟩) h a (by show n.tm<1073741824;omega)
    obtain ⟨k,e2,e3⟩:=allK_kp _ _ n.sz.toNat;refine ⟨?_,λo ho=>?_,?_⟩
    ·rw [k]
     exact Kpt.like d rfl rfl (by show n.tm<=n.tm+1;omega) (λe=>by have p:n.tm=n.tm+1:=e;omega)
    ·rcases allK_out _ _ _ o ho with h9 | ⟨j,h1,h2,h3⟩
     ·cases h9
     ·rw [h3]
      exact ask_ok h (.inr rfl) (by omega) (λq=>h2 q.symm) (by show 1<=n.tm+1/\n.tm+1<=1073741824;omega) (by show n.tm<=n.tm+1;omega)
    ·rw [e2]
     show (0:Int)≠9;decide
   ·rename_i hmj
    exact ⟨Kpt.like (h.granted (.inl a) hmj) rfl rfl (Int.le_refl _) (λ_ _=>rfl),(λo ho=>by cases ho),by show (0:Int)≠9;decide⟩
theorem Z5f (id:Int)(k:Nat)(x:Int)(j:Nat)(a:j<k):(Zw id k x).getD j 0=if (j:Int)+1=id then 0 else x:=by
 unfold Zw;rw [Ba,List.getElem?_map,List.getElem?_range a];rfl
theorem Ya.grow (h:Ya n)(j:n.log.length<4096){e:Ent}(f:entB e=true)(d:e.t=n.tm)(i:0<n.tm) :
  (n.log ++ [e]).length<=4096/\(n.log ++ [e]).Pairwise (λa c=>a.t<=c.t)/\(∀ x∈n.log ++ [e],entB x=true/\1<=x.t/\x.t<=n.tm)/\n.cm<=((n.log ++ [e]).length:Int)/\(n.log ++ [e]).take n.cm.toNat=n.log.take n.cm.toNat/\(n.log ++ [e]).take n.log.length=n.log:=by
 have g:=h.cm;refine ⟨by simp;omega,?_,λx hx=>?_,by simp;omega,?_,?_⟩
 ·rw [List.pairwise_append]
  refine ⟨h.pw,List.pairwise_singleton _ _,λa ha b hb=>?_⟩;rw [Bd] at hb;rw [hb,d];exact (h.en a ha).2.2
 ·rcases List.mem_append.1 hx with hx | hx
  ·exact h.en x hx
  ·rw [Bd] at hx
   rw [hx];exact ⟨f,by omega,by omega⟩
 ·rw [List.take_append_of_le_length (by omega)]
 ·rw [List.take_append_of_le_length (Ao _),List.take_length]
theorem entB_noop (h:1<=t/\t<=1073741824):entB ⟨t,0,0,0,⟨#[]⟩,⟨#[]⟩,⟨#[]⟩⟩=true:=by
 unfold entB;rw [Al,Zj];exact ⟨h,rfl⟩
def leadN (n:Nd)(l:List Ent):Nd:={ n with nx:=Zw n.id n.sz.toNat ((n.log.length:Int)+1),mt:=Zw n.id n.sz.toNat 0,se:=Zw n.id n.sz.toNat n.nw,st:=Zw n.id n.sz.toNat n.nw,gr:=[],ld:=n.id,ro:=3,log:=l }
theorem leadN_ok (h:Ya n)(o:n.ro=2){l:List Ent}(i:l.length<=4096)(f:l.Pairwise (λa c=>a.t<=c.t))(k:∀ x∈l,entB x=true/\1<=x.t/\x.t<=n.tm)(q:n.cm<=l.length)(s:n.log.length<=l.length):Ya (leadN n l):=by
 have p:=h.id;have g:=h.nw;obtain ⟨r1,r2,r3⟩:=h.r2 o;refine ⟨h.sz,h.id,h.el,h.bt,h.tm,h.vo,h.vt,by show (0:Int)<=3/\(3:Int)<=3;decide,by show 0<=n.id/\n.id<=n.sz;omega,(λe=>by cases e),(λe=>by cases e),(λe=>by cases e),λ_=>⟨rfl,r2,r3⟩,i,f,k,⟨h.cm.1,q⟩,h.nw,h.dl,h.hd,λ_=>rfl,(λe=>by rcases e with e | e <;> cases e),λe=>absurd rfl e,λ_=>⟨⟨?_,?_,?_,?_⟩,λj hj=>?_⟩⟩
 ·show ((Zw n.id n.sz.toNat ((n.log.length:Int)+1)).length:Int)=n.sz
  rw [Xk];omega
 ·show ((Zw n.id n.sz.toNat 0).length:Int)=n.sz
  rw [Xk];omega
 ·show ((Zw n.id n.sz.toNat n.nw).length:Int)=n.sz
  rw [Xk];omega
 ·show ((Zw n.id n.sz.toNat n.nw).length:Int)=n.sz
  rw [Xk];omega
 ·have b:j<n.sz.toNat:=by have:(j:Int)<n.sz:=hj;omega
  unfold Z41;show if (j:Int)+1=n.id then (Zw n.id n.sz.toNat ((n.log.length:Int)+1)).getD j 0=0/\(Zw n.id n.sz.toNat 0).getD j 0=0/\(Zw n.id n.sz.toNat n.nw).getD j 0=0/\(Zw n.id n.sz.toNat n.nw).getD j 0=0 else (1<=(Zw n.id n.sz.toNat ((n.log.length:Int)+1)).getD j 0/\(Zw n.id n.sz.toNat ((n.log.length:Int)+1)).getD j 0<=(l.length:Int)+1)/\(0<=(Zw n.id n.sz.toNat 0).getD j 0/\(Zw n.id n.sz.toNat 0).getD j 0<=(Zw n.id n.sz.toNat ((n.log.length:Int)+1)).getD j 0-1)/\(0<=(Zw n.id n.sz.toNat n.nw).getD j 0/\(Zw n.id n.sz.toNat n.nw).getD j 0<=n.nw)/\(0<=(Zw n.id n.sz.toNat n.nw).getD j 0/\(Zw n.id n.sz.toNat n.nw).getD j 0<=n.nw)
  rw [Z5f _ _ _ _ b,Z5f _ _ _ _ b,Z5f _ _ _ _ b];by_cases e:(j:Int)+1=n.id
  ·rw [if_pos e,if_pos e,if_pos e,if_pos e]
   exact ⟨rfl,rfl,rfl,rfl⟩
  ·rw [if_neg e,if_neg e,if_neg e,if_neg e]
   omega
theorem lead_keeps (h:Ya n)(a:n.ro=2):KpR n (Rn.lead ⟨n,[],0,0,dr⟩):=by
 have b:=h.tm;obtain ⟨r1,r2,r3⟩:=h.r2 a
 have d:∀ l:List Ent,Ya (leadN n l)->n.cm<=(l.length:Int)->l.take n.cm.toNat=n.log.take n.cm.toNat->KpR n (Rn.sendAll ⟨leadN n l,[],0,0,dr⟩):=λl hl hc hp=>
  (Z75 (r:=⟨leadN n l,[],0,0,dr⟩) hl rfl).kept ⟨⟨hl,rfl,rfl,Int.le_refl _,Int.le_refl _,hp,λ_ _=>rfl,λ_ e=>by rw [a] at e;cases e⟩,(λo ho=>by cases ho),by show (0:Int)≠9;decide⟩ rfl
 have e:Rn.lead ⟨n,[],0,0,dr⟩=Rn.sendAll ⟨leadN n (if n.log.length<4096 then n.log ++ [⟨n.tm,0,0,0,⟨#[]⟩,⟨#[]⟩,⟨#[]⟩⟩] else n.log),[],0,0,dr⟩:=rfl;rw [e];split
 ·rename_i hl
  obtain ⟨g1,g,i,c,f,j⟩:=h.grow hl (entB_noop (t:=n.tm) ⟨by omega,b.2⟩) rfl r2;exact d _ (leadN_ok h a g1 g i c (by simp)) c f
 ·exact d _ (leadN_ok h a h.len h.pw h.en h.cm.2 (Ao _)) h.cm.2 rfl
theorem Z7f (h:Ya n)(c:msB m=0)(d:m.fr<=n.sz):KpR n (Rn.voteReply ⟨n,[],0,0,dr⟩ m):=by
 have b:=(Z57 c).1;unfold Rn.voteReply;split
 ·rename_i hlt
  exact Z3z h hlt b.2
 ·split
  ·exact Z05 (r:=⟨n,[],0,0,dr⟩) (Kpt.refl h) rfl
  ·rename_i hg
   have a:=Classical.not_not.1 λq=>hg (.inl q)
   dsimp only;split
   ·exact lead_keeps h a
   ·rename_i hmj
    exact ⟨Kpt.like (h.granted (.inr a) hmj) rfl rfl (Int.le_refl _) (λ_ _=>rfl),(λo ho=>by cases ho),by show (0:Int)≠9;decide⟩
theorem propose_keeps {cl sq op:Int}{k v o:ByteArray}(h:Ya n):KpR n (Rn.propose ⟨n,[],0,0,dr⟩ (decide (Z13 cl sq op k.size v.size o.size≠0∨op=0)) cl sq op k v o):=by
 have d:=h.tm;unfold Rn.propose;split
 ·exact ⟨Kpt.refl h,(λo ho=>by cases ho),by show (6:Int)≠9;decide⟩
 rename_i hb;split
 ·exact ⟨Kpt.refl h,(λo ho=>by cases ho),by show (4:Int)≠9;decide⟩
 rename_i hr;split
 ·exact ⟨Kpt.refl h,(λo ho=>by cases ho),by show (5:Int)≠9;decide⟩
 rename_i hl;have b:n.ro=3:=Classical.not_not.1 hr;have g:n.log.length<4096:=by have:¬ 4096<=n.log.length:=hl;omega
 have f:=Classical.not_not.1 λq=>hb (decide_eq_true (.inl q))
 obtain ⟨r1,r2,r3⟩:=h.r3 b;obtain ⟨g1,u,l,s,i,p⟩:=h.grow g (e:=⟨n.tm,cl,sq,op,k,v,o⟩) (by unfold entB;rw [Al,Zj];exact ⟨⟨by show 1<=n.tm;omega,d.2⟩,by rw [f];rfl⟩) rfl r2
 have c:Ya { n with log:=n.log ++ [⟨n.tm,cl,sq,op,k,v,o⟩] }:=by
  refine ⟨h.sz,h.id,h.el,h.bt,h.tm,h.vo,h.vt,h.ro,h.ld,h.r0,h.r1,h.r2,h.r3,g1,u,l,⟨h.cm.1,s⟩,h.nw,h.dl,h.hd,h.g0,h.g1,h.l0,λe=>⟨(h.l1 e).1,λj hj=>?_⟩⟩;have a:=(h.l1 e).2 j hj;unfold Z41 at a ⊢;show if (j:Int)+1=n.id then _ else (1<=n.nx.getD j 0/\n.nx.getD j 0<=((n.log ++ [(⟨n.tm,cl,sq,op,k,v,o⟩:Ent)]).length:Int)+1)/\_
  by_cases e2:(j:Int)+1=n.id
  ·rw [if_pos e2] at a ⊢
   exact a
  ·rw [if_neg e2] at a ⊢
   exact ⟨⟨a.1.1,by rw [Bc,List.length_singleton];have w:=a.1.2;omega⟩,a.2⟩
 exact (Z75 (r:=⟨{ n with log:=n.log ++ [⟨n.tm,cl,sq,op,k,v,o⟩] },[],0,0,dr⟩) c b).kept ⟨⟨c,rfl,rfl,Int.le_refl _,Int.le_refl _,i,λ_ _=>rfl,λ_ _=>p⟩,(λo ho=>by cases ho),by show (0:Int)≠9;decide⟩ b
end
section
variable {fr:Int}
theorem rep6_ok {a:Nd}(h:Ya a){tm li ok hi:Int}(g:1<=fr/\fr<=a.sz)(b:a.id≠fr)(c:1<=tm/\tm<=1073741824)(f:0<=li/\li<=4096)(e:ok=0/\(0<=hi/\hi<=4096)∨ok=1/\hi=0):MsOk a.id a.sz ⟨6,a.id,fr,tm,li,0,0,ok,hi,[]⟩:=by
 have i:=h.sz;have d:=h.id;refine ⟨msB_of (by show 1<=(6:Int)/\(6:Int)<=6;decide) (Z65 (by show 1<=a.id/\a.id<=7;omega) (by show 1<=fr/\fr<=7;omega) b) c ?_ ?_ ?_,rfl,g.2⟩
 ·show Z0i 6 tm li 0=true
  unfold Z0i;rw [ifo,if_pos rfl];simp only [Al,Zj];exact ⟨f,rfl⟩
 ·show Yt 6 0 ok hi=true
  unfold Yt;rcases e with ⟨rfl,h9⟩ | ⟨rfl,rfl⟩
  ·rw [ifo,if_pos (by omega),if_pos ⟨rfl,rfl⟩]
   simp only [Al,Zj];omega
  ·rfl
 ·show Xd 6 li 0 tm []=true
  unfold Xd;rw [ifo];rfl
theorem Z72 (log:List Ent):∀(es:List Ent) (p:Nat),p<=log.length->Y7 log p es<=es.length/\p+Y7 log p es<=log.length/\∀ k,k<Y7 log p es->(log[p+k]?.map (·.t))=(es[k]?.map (·.t))
 | [],p,hp=>⟨Ao _,hp,λk hk=>by simp [Y7] at hk⟩
 | e :: es,p,hp=>by
  rw [Y7];split
  ·rename_i hq
   have a:p<log.length:=by
    rcases B1 p log.length with h | h
    ·exact h
    ·rw [Bv h] at hq
     cases hq
   obtain ⟨d,c,b⟩:=Z72 _ es (p+1) a;refine ⟨by simp;omega,by omega,λk hk=>?_⟩
   cases k with
   | zero=>rw [Nat.add_zero,hq];rfl
   | succ k=>
    rw [show p+(k+1)=p+1+k by omega,b k (by omega)];rfl
  ·exact ⟨Nat.zero_le _,by omega,λk hk=>by omega⟩
variable {n:Nd}{m:Mg}
theorem app_log (h:Ya n)(hp:m.li.toNat<=n.log.length)(h0:0<=m.li)(o:0<m.li->Zy n.log m.li.toNat=m.lt)(v:Jq m.tm m.lt m.es=true)(z:m.tm=n.tm)(aa:m.li+m.es.length<=4096)(i:Nat)(hi:i=Y7 n.log m.li.toNat m.es) :
  (n.log.take (m.li.toNat+i) ++ m.es.drop i).length<=4096/\(n.log.take (m.li.toNat+i) ++ m.es.drop i).Pairwise (λa c=>a.t<=c.t)/\(∀ x∈n.log.take (m.li.toNat+i) ++ m.es.drop i,entB x=true/\1<=x.t/\x.t<=n.tm)/\((n.log.take (m.li.toNat+i) ++ m.es.drop i).length:Int)=m.li+m.es.length/\m.li.toNat+i<=n.log.length/\i<=m.es.length:=by
 obtain ⟨r,p,s⟩:=Z72 _ m.es m.li.toNat hp;rw [<-hi] at r p s;obtain ⟨u,w⟩:=Z6q _ m.es m.lt v
 have q:(n.log.take (m.li.toNat+i) ++ m.es.drop i).length=m.li.toNat+m.es.length:=by
  rw [Bc,List.length_take,List.length_drop];omega
 refine ⟨by omega,?_,λx hx=>?_,by omega,p,r⟩
 ·rw [List.pairwise_append]
  refine ⟨h.pw.sublist (List.take_sublist _ _),u.sublist (List.drop_sublist _ _),λx hx y hy=>?_⟩;obtain ⟨a,ha,rfl⟩:=List.mem_iff_getElem.1 hx;obtain ⟨b,d,rfl⟩:=List.mem_iff_getElem.1 hy;rw [List.length_take] at ha;rw [List.length_drop] at d;rw [List.getElem_take,List.getElem_drop];have j:a<n.log.length:=by omega
  have k:i+b<m.es.length:=by omega
  by_cases hc:m.li.toNat<=a
  ·have l:=s (a-m.li.toNat) (by omega)
   rw [show m.li.toNat+(a-m.li.toNat)=a by omega,As j,As (show a-m.li.toNat<m.es.length by omega)] at l;have g:(n.log[a]).t=(m.es[a-m.li.toNat]).t:=Option.some.inj l;rw [g];exact List.pairwise_iff_getElem.1 u (a-m.li.toNat) (i+b) (by omega) k (by omega)
  ·have g:=o (by omega)
   unfold Zy at g;rw [ifo,As (show m.li.toNat-1<n.log.length by omega)] at g;have h7:(n.log[m.li.toNat-1]).t=m.lt:=g;have h6:=(w _ (List.getElem_mem k)).1
   have h5:(n.log[a]).t<=(n.log[m.li.toNat-1]).t:=by
    by_cases e:a=m.li.toNat-1
    ·subst e;exact Int.le_refl _
    ·exact List.pairwise_iff_getElem.1 h.pw a (m.li.toNat-1) j (by omega) (by omega)
   omega
 ·rcases List.mem_append.1 hx with hx | hx
  ·exact h.en x (List.mem_of_mem_take hx)
  ·have f:=List.mem_of_mem_drop hx
   have d:=Z69 _ _ _ v x f;have l:=(w x f).2;refine ⟨d,?_,by omega⟩;unfold entB at d;rw [Al,Zj] at d;exact d.1.1
theorem Ya.heard {r:Rn}(h:Ya r.n)(d:1<=fr/\fr<=r.n.sz)(b:fr≠r.n.id):Ya (Rn.timer { r.lone with n:={ r.lone.n with ld:=fr,hd:=r.n.nw } }).n:=by
 have a:=h.lone;have c:=h.nw;refine Ya.timer (r:={ r.lone with n:={ r.lone.n with ld:=fr,hd:=r.n.nw } }) ?_;exact ⟨a.sz,a.id,a.el,a.bt,a.tm,a.vo,a.vt,a.ro,by show 0<=fr/\fr<=r.n.sz;omega,λ_=>b,(λe=>by cases e),(λe=>by cases e),(λe=>by cases e),a.len,a.pw,a.en,a.cm,a.nw,a.dl,by show 0<=r.n.nw/\r.n.nw<=r.n.nw;omega,a.g0,a.g1,a.l0,a.l1⟩
theorem Ya.relog (h:Ya n)(j:n.ro=0){l:List Ent}{c:Int}(d:l.length<=4096)(b:l.Pairwise (λa c=>a.t<=c.t))(f:∀ x∈l,entB x=true/\1<=x.t/\x.t<=n.tm)(g:0<=c/\c<=l.length):Ya { n with log:=l,cm:=c }:=
 ⟨h.sz,h.id,h.el,h.bt,h.tm,h.vo,h.vt,h.ro,h.ld,h.r0,h.r1,h.r2,h.r3,d,b,f,g,h.nw,h.dl,h.hd,h.g0,h.g1,h.l0,λe=>by have i:n.ro=3:=e;omega⟩
theorem app_tail {a:Rn}(hd:Ya a.n)(af:0<=n.cm/\n.cm<=n.log.length)(ab:n.log.length<=4096)(w:1<=m.fr)(k3:m.fr≠n.id)(y:0<=m.li)(k5:m.li<=4096)(ad:m.fr<=n.sz)(aa:1<=m.tm/\m.tm<=1073741824)(t:m.li+m.es.length<=4096)(s:Jq m.tm m.lt m.es=true)(ae:0<=m.cm)(z1:a.n.id=n.id)(l:a.n.sz=n.sz)(z3:a.n.tm=m.tm)(p:a.n.log=n.log)(z6:a.n.cm=n.cm)(r:a.out = [])(v:a.code≠9)(x:a.n.ro=0)(g:Kpt n a.n)(u:n.tm=a.n.tm->n.ro=3->False) :
  KpR n (if a.n.log.length<m.li.toNat∨(0<m.li/\Zy a.n.log m.li.toNat≠m.lt) then a.send ⟨6,0,m.fr,a.n.tm,m.li,0,0,0,min (a.n.log.length:Int) (m.li-1),[]⟩
   else if Y7 a.n.log m.li.toNat m.es<m.es.length/\m.li+Y7 a.n.log m.li.toNat m.es+1<=a.n.cm then a.stale
   else Rn.send { a with n:={ a.n with log:=if Y7 a.n.log m.li.toNat m.es<m.es.length then a.n.log.take (m.li.toNat+Y7 a.n.log m.li.toNat m.es) ++ m.es.drop (Y7 a.n.log m.li.toNat m.es) else a.n.log,cm:=max a.n.cm (min m.cm (m.li+m.es.length)) } } ⟨6,0,m.fr,a.n.tm,m.li+m.es.length,0,0,1,0,[]⟩):=by
 split
 ·rename_i hg
  have ac:0<m.li:=by
   rcases hg with hg | hg
   ·omega
   ·exact hg.1
  refine ⟨g,λo ho=>?_,v⟩;simp only [Rn.send,r,List.nil_append,Bd] at ho;rw [ho,<-z1,<-l];exact rep6_ok hd ⟨w,by omega⟩ (by omega) (by omega) ⟨y,k5⟩ (.inl ⟨rfl,by omega,by rw [p];omega⟩)
 ·rename_i hg
  have g1:m.li.toNat<=a.n.log.length:=by
   rcases B1 a.n.log.length m.li.toNat with q | q
   ·exact absurd (.inl q) hg
   ·exact q
  have g2:=λq=>Classical.not_not.1 λq2=>hg (.inr ⟨q,q2⟩)
  obtain ⟨a1,a2,a3,a4,z,a6⟩:=app_log hd g1 y g2 s z3.symm t _ rfl;generalize Y7 a.n.log m.li.toNat m.es=i at *
  have d:∀(N:Nd),N.id=n.id->∀ o∈(Rn.send { a with n:=N } ⟨6,0,m.fr,a.n.tm,m.li+m.es.length,0,0,1,0,[]⟩).out,MsOk n.id n.sz o:=λN k o ho=>by
   simp only [Rn.send,r,List.nil_append,Bd] at ho;rw [ho,k,<-z1,<-l];exact rep6_ok hd ⟨w,by omega⟩ (by omega) (by omega) (by omega) (.inr ⟨rfl,rfl⟩)
  have b:n.cm<=max a.n.cm (min m.cm (m.li+m.es.length))/\0<=max a.n.cm (min m.cm (m.li+m.es.length)):=by omega
  split
  ·exact Z05 g r
  ·rename_i hg3
   have j:n.tm=a.n.tm->n.ro=3->∀ {P:Prop},P:=λe e3=>(u e e3).elim
   by_cases f:i<m.es.length
   ·have hc:n.cm<=m.li+i:=by
     have h9:=λq=>hg3 ⟨f,q⟩
     omega
    rw [if_pos f];have k:=hd.relog x (c:=max a.n.cm (min m.cm (m.li+m.es.length))) a1 a2 a3 ⟨b.2,by rw [a4];omega⟩;refine ⟨⟨k,z1,l,g.tm,b.1,?_,λe hv=>g.vo e hv,λe e3=>j e e3⟩,d _ z1,v⟩;show (a.n.log.take (m.li.toNat+i) ++ m.es.drop i).take n.cm.toNat=_;rw [List.take_append_of_le_length (by rw [List.length_take];omega),List.take_take,show min n.cm.toNat (m.li.toNat+i)=n.cm.toNat by omega,p]
   ·rw [if_neg f]
    have k:=hd.relog x (c:=max a.n.cm (min m.cm (m.li+m.es.length))) hd.len hd.pw hd.en ⟨b.2,by rw [p] at z ⊢;omega⟩;exact ⟨⟨k,z1,l,g.tm,b.1,by show a.n.log.take n.cm.toNat=_;rw [p],λe hv=>g.vo e hv,λe e3=>j e e3⟩,d _ z1,v⟩
theorem append_keeps {dr:Int}(h:Ya n)(hm:msB m=0)(hk:m.ki=5)(ag:m.td=n.id)(d:m.fr<=n.sz):KpR n (Rn.append ⟨n,[],0,0,dr⟩ m):=by
 obtain ⟨k1,k2,k3,k4,k5,k6,k7,k8⟩:=Z2a m hm;obtain ⟨j,ad,b,a⟩:=Z57 hm;have ae:=h.tm;have v:=h.cm;have y:=h.len;unfold Xd at a;rw [if_pos hk] at a;simp only [Al,decide_eq_true_eq] at a;obtain ⟨⟨af,u⟩,s⟩:=a;unfold Yt at b;simp only [Al,Zj] at b;have w:=b.1.1.1;unfold Rn.append;split
 ·rename_i hlo
  have i:m.tm<n.tm:=hlo;refine ⟨Kpt.refl h,λo ho=>?_,by show (0:Int)≠9;decide⟩;simp only [Rn.send,List.nil_append,Bd] at ho;rw [ho];exact rep6_ok h ⟨k2.1,d⟩ (by omega) (by omega) ⟨k4,k5⟩ (.inl ⟨rfl,by decide⟩)
 ·rename_i hlo
  have i:¬ m.tm<n.tm:=hlo
  have p:(Rn.higher ⟨n,[],0,0,dr⟩ m.tm).n.tm=m.tm:=by
   unfold Rn.higher;split
   ·unfold Rn.adopt
    split <;> rfl
   ·rename_i q
    have q':¬ n.tm<m.tm:=q;show n.tm=m.tm;omega
  obtain ⟨l,q2,q3,q4,q5,q6,q7,q8,q9⟩:=Z76 (r:=⟨n,[],0,0,dr⟩) (t:=m.tm) h j.2;generalize hR:Rn.higher ⟨n,[],0,0,dr⟩ m.tm=R at *;have ac:=l.ok;have x:R.n.id=n.id:=q6;have z:R.n.sz=n.sz:=q7;have c:R.out = []:=q2;have f:R.n.log=n.log:=q4;have g:R.n.cm=n.cm:=q5;have aa:R.code≠9:=by rw [q3];show (0:Int)≠9;decide
  dsimp only;split
  ·exact Z05 l c
  ·rename_i hr3
   have ab:n.tm=R.n.tm->n.ro=3->False:=λe e3=>hr3 (by rw [q9 e.symm];exact e3)
   have hd:=ac.heard (fr:=m.fr) ⟨k2.1,by omega⟩ (by omega);generalize hR2:Rn.timer { R.lone with n:={ R.lone.n with ld:=m.fr,hd:=R.n.nw } }=R2 at *;have z1:R2.n.id=n.id:=hR2▸x
   have z2:R2.n.sz=n.sz:=hR2▸z
   have k:R2.n.tm=R.n.tm:=by rw [<-hR2];rfl
   have z4:R2.n.vo=R.n.vo:=by rw [<-hR2];rfl
   have z5:R2.n.log=n.log:=hR2▸f
   have z6:R2.n.cm=n.cm:=hR2▸g
   have z7:R2.out = []:=hR2▸c
   have z8:R2.code≠9:=hR2▸aa
   have z9:R2.n.ro=0:=by rw [<-hR2];rfl
   have kk:=Kpt.like hd z1 z2 (k▸l.tm) (λe hv=>z4▸l.vo (e.trans k) hv) z5 z6;exact app_tail hd v y k2.1 (by omega) k4 k5 d j u s w z1 z2 (k.trans p) z5 z6 z7 z8 z9 kk (λe e3=>ab (e.trans k) e3)
end
section
theorem Z4r (n:Nd)(lo:Nat):∀ k,lo<=Yx n lo k/\Yx n lo k<=max lo k
 | 0=>⟨Ao _,by rw [Yx];omega⟩
 | k+1=>by
  have a:=Z4r n lo k;rw [Yx];split
  ·omega
  ·split
   ·omega
   ·omega
variable {n:Nd}{f:Nat}{x y c:Int}
theorem Ya.told (h:Ya n)(i:n.ro=3)(t:(f:Int)<n.sz)(b:(f:Int)+1≠n.id)(s:1<=x/\x<=(n.log.length:Int)+1)(p:0<=y/\y<=x-1)(o:0<=c/\c<=n.log.length):Ya { n with nx:=n.nx.set f x,mt:=n.mt.set f y,se:=n.se.set f n.nw,cm:=c }:=by
 have d:=h.nw;obtain ⟨⟨l1,r,l3,l4⟩,k⟩:=h.l1 i;refine ⟨h.sz,h.id,h.el,h.bt,h.tm,h.vo,h.vt,h.ro,h.ld,h.r0,h.r1,h.r2,h.r3,h.len,h.pw,h.en,o,h.nw,h.dl,h.hd,h.g0,h.g1,λe=>absurd i e,λ_=>⟨⟨?_,?_,?_,l4⟩,λj hj=>?_⟩⟩
 ·show ((n.nx.set f x).length:Int)=n.sz
  rw [Bg];exact l1
 ·show ((n.mt.set f y).length:Int)=n.sz
  rw [Bg];exact r
 ·show ((n.se.set f n.nw).length:Int)=n.sz
  rw [Bg];exact l3
 ·have a:=k j hj
  unfold Z41 at a ⊢;show if (j:Int)+1=n.id then (n.nx.set f x).getD j 0=0/\(n.mt.set f y).getD j 0=0/\(n.se.set f n.nw).getD j 0=0/\n.st.getD j 0=0 else (1<=(n.nx.set f x).getD j 0/\(n.nx.set f x).getD j 0<=(n.log.length:Int)+1)/\(0<=(n.mt.set f y).getD j 0/\(n.mt.set f y).getD j 0<=(n.nx.set f x).getD j 0-1)/\(0<=(n.se.set f n.nw).getD j 0/\(n.se.set f n.nw).getD j 0<=n.nw)/\(0<=n.st.getD j 0/\n.st.getD j 0<=n.nw)
  by_cases e:f=j
  ·subst e
   rw [if_neg b] at a ⊢;rw [Z0w,Z0w,Z0w,if_pos ⟨rfl,by omega⟩,if_pos ⟨rfl,by omega⟩,if_pos ⟨rfl,by omega⟩];exact ⟨s,p,⟨d.1,Int.le_refl _⟩,a.2.2.2⟩
  ·have g:∀(l:List Int) (z:Int),(l.set f z).getD j 0=l.getD j 0:=λl z=>by rw [Z0w,if_neg (λq=>e q.1)]
   rw [g,g,g];exact a
theorem set_getD (l:List Int)(f:Nat):l.set f (l.getD f 0)=l:=by
 apply List.ext_getElem?;intro i;rw [List.getElem?_set];by_cases e:f=i
 ·subst e
  rw [if_pos rfl];by_cases h:f<l.length
  ·rw [if_pos h,Ba,As h];rfl
  ·rw [if_neg h,Bv (by omega)]
 ·rw [if_neg e]
theorem Z6d (h:Ya n)(b:Ya { n with nx:=n.nx.set f x,mt:=n.mt.set f y,se:=n.se.set f n.nw,cm:=c })(a:n.cm<=c):Kpt n { n with nx:=n.nx.set f x,mt:=n.mt.set f y,se:=n.se.set f n.nw,cm:=c }:=
 ⟨b,rfl,rfl,Int.le_refl _,a,rfl,λ_ _=>rfl,λ_ _=>List.take_length⟩
variable {dr:Int}{m:Mg}
theorem Z88 (h:Ya n)(v:msB m=0)(ab:m.td=n.id)(aa:m.fr<=n.sz):KpR n (Rn.appReply ⟨n,[],0,0,dr⟩ m):=by
 obtain ⟨k1,k2,k3,k4,k5,k6,k7,k8⟩:=Z2a m v;have l:=(Z57 v).1;have j:=h.cm;unfold Rn.appReply;split
 ·rename_i hlt
  exact Z3z h hlt l.2
 ·split
  ·exact Z05 (r:=⟨n,[],0,0,dr⟩) (Kpt.refl h) rfl
  ·rename_i hg
   have e:n.ro=3:=Classical.not_not.1 λq=>hg (.inl q)
   dsimp only;obtain ⟨f,hf⟩:=exq ((m.fr-1).toNat);rw [<-hf];have a:(f:Int)<n.sz:=by omega
   have b:(f:Int)+1≠n.id:=by omega
   have k:=(h.l1 e).2 f a;unfold Z41 at k;rw [if_neg b] at k;obtain ⟨z,p2,p3,p4⟩:=k;have p:=h.told e a b z p2 j;have g:=Z6d h p (Int.le_refl _);rw [set_getD,set_getD] at g;split
   ·split
    ·exact Z05 (r:=⟨{ n with se:=n.se.set f n.nw },[],0,0,dr⟩) g rfl
    ·rename_i hli
     have i:=h.told e (f:=f) (x:=max (n.mt.getD f 0+1) (min m.hi (m.li-1)+1)) (y:=n.mt.getD f 0) (c:=n.cm) a b (by omega) (by omega) j;have d:=Z6d h i (Int.le_refl _);rw [set_getD] at d i;exact ((SndI.refl ⟨{ n with nx:=n.nx.set f (max (n.mt.getD f 0+1) (min m.hi (m.li-1)+1)),se:=n.se.set f n.nw },[],0,0,dr⟩).sendE i e a b).kept ⟨d,(λo ho=>by cases ho),by show (0:Int)≠9;decide⟩ e
   ·split
    ·exact Z05 (r:=⟨{ n with se:=n.se.set f n.nw },[],0,0,dr⟩) g rfl
    ·rename_i hll
     obtain ⟨C,hC⟩:=exq (Yx { n with se:=n.se.set f n.nw,mt:=n.mt.set f (max (n.mt.getD f 0) m.li),nx:=n.nx.set f (max (n.nx.getD f 0) (max (n.mt.getD f 0) m.li+1)) } n.cm.toNat n.log.length);have s:=Z4r { n with se:=n.se.set f n.nw,mt:=n.mt.set f (max (n.mt.getD f 0) m.li),nx:=n.nx.set f (max (n.nx.getD f 0) (max (n.mt.getD f 0) m.li+1)) } n.cm.toNat n.log.length;rw [<-hC] at s ⊢;have i:=h.told e (f:=f) (x:=max (n.nx.getD f 0) (max (n.mt.getD f 0) m.li+1)) (y:=max (n.mt.getD f 0) m.li) (c:=(C:Int)) a b (by omega) (by omega) (by omega);have d:=Z6d h i (by omega);have w:KpR n ⟨{ n with nx:=n.nx.set f (max (n.nx.getD f 0) (max (n.mt.getD f 0) m.li+1)),mt:=n.mt.set f (max (n.mt.getD f 0) m.li),se:=n.se.set f n.nw,cm:=(C:Int) },[],0,0,dr⟩:=⟨d,(λo ho=>by cases ho),by show (0:Int)≠9;decide⟩;split
     ·exact ((SndI.refl _).sendE i e a b).kept w e
     ·exact w
theorem message_keeps (h:Ya n):KpR n (Rn.message ⟨n,[],0,0,dr⟩ (decide (msB m≠0)) m):=by
 unfold Rn.message;split
 ·exact ⟨Kpt.refl h,(λo ho=>by cases ho),by show (1:Int)≠9;decide⟩
 rename_i hb;have d:=Classical.not_not.1 λq=>hb (.inl (decide_eq_true q))
 have b:m.td=n.id:=Classical.not_not.1 λq=>hb (.inr (.inl q))
 have a:m.fr<=n.sz:=by
  have e:¬ n.sz<m.fr:=λq=>hb (.inr (.inr q))
  omega
 split
 ·exact preAsk_keeps h d ‹_› b a
 split
 ·exact Z81 h d a
 split
 ·exact voteAsk_keeps h d ‹_› b a
 split
 ·exact Z7f h d a
 split
 ·exact append_keeps h d ‹_› b a
 ·exact Z88 h d b a
theorem step_keeps (h:Yb n=0)(dr ki:Int)(m:Mg)(cl sq op:Int)(k v o:ByteArray):KpR n (Z2j n dr ki m cl sq op k v o):=by
 have a:=(Jm n).1 h;unfold Z2j;rw [if_pos h];unfold Z8w;dsimp only;split
 ·exact tick_keeps a
 split
 ·exact message_keeps a
 split
 ·exact propose_keeps a
 ·exact ⟨Kpt.refl a,(λo ho=>by cases ho),by show (8:Int)≠9;decide⟩
end
end Go.Proofs.YtmmpoppgabadmaaGreat
namespace Go.Proofs.YtmmpoppgabadmaaGreat
open Go.Proofs.Tryz
open Go.RowKit Go.Maps
end Go.Proofs.YtmmpoppgabadmaaGreat
