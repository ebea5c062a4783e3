import Derived.Test.YtmmpoppgabadmaaGreatG02
import Derived.BigQuiet
import Derived.Deep.QuietTactic
import Derived.Deep.RegionHeld3
import Derived.Laws.StructEq
set_option linter.unusedVariables false
set_option linter.unusedSimpArgs false
set_option maxRecDepth 100000
set_option maxHeartbeats 16000000
open Go.Value renaming slice → I,int → Aa,pointer → Ae,agg → Aw,string → Az,oneCell' → Bh
open Go.IntKind renaming i64 → O
open _root_.Option renaming none → Ab,some → Ac
open Go.Proofs.Tryz renaming prog → Ad
open Go renaming Value → Af,World → Ag,Calls → Ar,bodyPost_ret → A8
open Go.RowKit renaming Hid → Ah,Below → Ai,intOf → B0
open Go.Ending renaming returned → Aj
open _root_.Bool renaming and_eq_true → Al
open Go.RowKit.Below renaming refl → An
open _root_.Nat renaming le_refl → Ao,zero_le → Bb,lt_of_lt_of_le → Bk
open _root_.List renaming getElem?_eq_getElem → As,map_toArray → Bm,getElem_mem → Bp,map_cons → Bq,map_nil → Bu
open Go.Obj renaming cells → At
open Go.World renaming setCell → Bx
namespace Go.Proofs.YtmmpoppgabadmaaGreat
open Go.Proofs.Tryz
open Go.RowKit
theorem parts_step (log:List Ent)(p:Nat)(es:List Ent)(k:Nat)(a:k<es.length):Y7 log (p+k) (es.drop k)=if (log[p+k]?.map (·.t))=Ac (es[k]).t then Y7 log (p+(k+1)) (es.drop (k+1))+1 else 0:=by
 rw [List.drop_eq_getElem_cons a,Y7,Nat.add_assoc]
theorem l4parts_any (n:Nd)(m:Mg)(i ea:Option Addr)(l ec:Nat)(v13 v14 v15 v16 v17:Af)(w:Ag)(hl:Es w (I i n.log.length l) n.log)(he:Es w (I ea m.es.length ec) m.es)(ae:Z1n v13)(ah:Z1n v14)(ac:Z1n v15)(ad:Z1n v16)(ag:Z1n v17)(an:n.log.length<=100000)(aq:m.es.length<=100000)(y:0<=m.li)(aj:m.li<=100000) :
  Ar Ad 151 #[Aw (n.arrC (I i n.log.length l) v13 v14 v15 v16 v17),Aw (m.arrC (I ea m.es.length ec))] w λe w'=>e=Aj (Aa O (Y7 n.log m.li.toNat m.es:Nat))/\Ai w.heap.size w w':=by
 obtain ⟨a13,q,c13,rfl⟩:=ae;obtain ⟨a14,v,c14,rfl⟩:=ah;obtain ⟨a15,r,c15,rfl⟩:=ac;obtain ⟨a16,aa,c16,rfl⟩:=ad;obtain ⟨a17,u,c17,rfl⟩:=ag;obtain ⟨p,hp⟩:∃ p:Nat,m.li=p:=⟨m.li.toNat,by omega⟩;rw [show m.li.toNat=p by omega];obtain ⟨W,g⟩:=exq ((w.alloc (At (n.arrC (I i n.log.length l) (I a13 q c13) (I a14 v c14) (I a15 r c15) (I a16 aa c16) (I a17 u c17)) 36)).alloc (At (m.arrC (I ea m.es.length ec)) 43));have c:Ah (Ai w.heap.size w W):=g▸baq.alloc (by simp) _
 have al:W.heap.size=w.heap.size+2:=by rw [g];simp
 have BN:Ah (Blk W w.heap.size (n.arrC (I i n.log.length l) (I a13 q c13) (I a14 v c14) (I a15 r c15) (I a16 aa c16) (I a17 u c17)) 36):=g▸(Blk.new _ _ _).alloc _
 have BM:Ah (Blk W (w.heap.size+1) (m.arrC (I ea m.es.length ec)) 43):=g▸Blk.new' _ _ _ (by simp)
 have HL:Ah (∀ z,Ai W.heap.size W z->Es z (I i n.log.length l) n.log):=λz hz=>hl.below (c.out.trans (hz.mono (by omega)))
 have HE:Ah (∀ z,Ai W.heap.size W z->Es z (I ea m.es.length ec) m.es):=λz hz=>he.below (c.out.trans (hz.mono (by omega)))
 have HX:Ah (∀ z,Ai W.heap.size W z->z.cell? ⟨w.heap.size,12,Ab⟩=Ac (I i n.log.length l)/\z.cell? ⟨w.heap.size+1,4,Ab⟩=Ac (Aa O (p:Int))/\z.cell? ⟨w.heap.size+1,9,Ab⟩=Ac (I ea m.es.length ec)):=λz hz=>⟨(BN.out.below hz).cell 12,hp▸(BM.out.below hz).cell 4,(BM.out.below hz).cell 9⟩
 have HS:Ah (∀ k (hk:k<m.es.length),Y7 n.log (p+k) (m.es.drop k)=if (n.log[p+k]?.map (·.t))=Ac (m.es[k]).t then Y7 n.log (p+(k+1)) (m.es.drop (k+1))+1 else 0):=λk hk=>parts_step _ _ _ k hk
 obtain ⟨A,hA⟩:=exq (Y7 n.log p m.es);have HA:Ah (A=0+Y7 n.log (p+0) (m.es.drop 0)):=by unfold Ah;rw [hA];simp
 rw [<-hA];have ax:p<=100000:=by omega
 clear hl he hA hp y aj BN BM;go_enter func151,ntmps151;go_wp2;rw [<-g];clear g
 go_loopw [5,6] (λiv _ wr=>∃ k:Nat,k<=m.es.length/\iv=Aa O (k:Int)/\A=k+Y7 n.log (p+k) (m.es.drop k)/\Ai W.heap.size W wr) (λiv _ _=>m.es.length-(B0 iv).toNat)
 case atStart=>exact ⟨0,Bb _,rfl,HA.out,An _ _⟩
 case round=>
  obtain ⟨k,hk,rfl,ab,hB⟩:=hrel;have d:Ah _:=ab;have j:=Z0 hB;obtain ⟨ak,y4,y9⟩:=HX.out wr hB;clear ab hB;by_cases x:k<m.es.length
  ·have ai:((k:Int)<(m.es.length:Int)):=by omega
   have ar:IntKind.i64.wrap ((p:Int)+(k:Int))=(p:Int)+k:=wry
   have aw:IntKind.i64.wrap ((p:Int)+(k:Int)+1)=(p:Int)+k+1:=wry
   have au:IntKind.i64.wrap ((p:Int)+(k:Int)+1-1)=(p:Int)+k:=wry
   have a:=HS.out k x;by_cases s:p+k<n.log.length
   ·obtain ⟨lb,lo,rfl,ct⟩:=Z3d (HL wr j) (p+k) s
    obtain ⟨eb,eo,rfl,ce⟩:=Z3d (HE wr j) k x;rw [As s] at a;have hd1:decide ((n.log.length:Int)<(p:Int)+k+1)=false:=decide_eq_false (by omega);have ao:(p:Int)+(k:Int)<(n.log.length:Int):=by omega
    have y:(0:Int)<=(p:Int)+(k:Int):=by omega
    have am:((p:Int)+(k:Int)).toNat=p+k:=by omega
    have av:(0:Int)<=(k:Int):=by omega
    by_cases b:(n.log[p+k]).t=(m.es[k]).t
    ·rw [Option.map_some,if_pos (by rw [b])] at a
     have f:Ah (A=(k+1)+Y7 n.log (p+(k+1)) (m.es.drop (k+1))):=by have:=d.out;unfold Ah;omega
     have af:((n.log[p+k]).t != (m.es[k]).t)=false:=by simpa using b
     generalize (n.log[p+k]).t=T1 at *;generalize (m.es[k]).t=T2 at *;clear a b
     go_upto_region 4 with fail
     go_quiet (fail)
     go_wp2_with fail
     go_roundw
     case rel=>exact ⟨k+1,by omega,by go_num,f.out,j.trans bdr⟩
     case measure=>simp [B0];omega
    ·rw [Option.map_some,if_neg (by intro h;exact b (Option.some.inj h))] at a
     have f:Ah (A=k):=by have:=d.out;unfold Ah;omega
     have af:((n.log[p+k]).t != (m.es[k]).t)=true:=by simpa using b
     generalize (n.log[p+k]).t=T1 at *;generalize (m.es[k]).t=T2 at *;clear a b
     go_upto_region 4 with fail
     go_quiet (fail)
     go_wp2_with fail
     go_ret;exact ⟨by rw [f.out];rfl,(c.out.trans (j.mono (by omega))).trans bdr⟩
   ·have o:Y7 n.log (p+k) (m.es.drop k)=0:=by rw [a,List.getElem?_eq_none (by omega)];rfl
    have f:Ah (A=k):=by have:=d.out;unfold Ah;omega
    have hd1:decide ((n.log.length:Int)<(p:Int)+k+1)=true:=decide_eq_true (by omega);clear a o
    go_upto_region 4 with fail
    go_quiet (fail)
    go_wp2_with fail
    go_ret;exact ⟨by rw [f.out];rfl,(c.out.trans (j.mono (by omega))).trans bdr⟩
  ·have ai:¬((k:Int)<(m.es.length:Int)):=by omega
   have f:Ah (A=k):=by
    have h1:=d.out;unfold Ah;rw [List.drop_eq_nil_of_le (by omega)] at h1;rw [h1];rfl
   go_wp2_with fail
   go_ret;exact ⟨by rw [f.out];rfl,c.out.trans (j.mono (by omega))⟩
section
theorem Z8r (w:Ag)(e:Ent):Ja (w.alloc (At (eqN e.t e.cl e.sq e.op e.k e.v e.o) 118)) w.heap.size 0 e:=by
 refine ⟨?_,?_,?_,?_,?_,?_,?_⟩ <;> simp
theorem Z4q (v:Af)(l:List Ent)(w:Ag)(hv:Es w v l)(z:l.length<=1000000) :
  Ar Ad 102 #[v] w λe w'=>∃ h,e=.returned h/\Zh w' w.heap.size h l/\Ai w.heap.size w w':=by
 obtain ⟨hm,x,a,cap,rfl,u⟩:=hv;unfold maxLen at hm;go_enter func102,ntmps102;go_wp2
 go_loopw [3,4] (λs i wr=>∃ k:Nat,k<=l.length/\i=Aa O k/\Zh wr w.heap.size s (l.take k)/\Ai w.heap.size w wr) (λ_ i _=>l.length-(B0 i).toNat)
 case atStart=>exact ⟨0,Bb _,rfl,Zh.made w _ (Ao _),baq⟩
 case round=>
  obtain ⟨k,hk,rfl,g,f⟩:=hrel;have hz:=f.size;by_cases c:k<l.length
  ·obtain ⟨b,aa,rfl,t⟩:=u k c
   have o:=x l[k] (Bp c);obtain ⟨c0,c1,c2,c3,c4,c5,c6⟩:=(t k c).below f;obtain ⟨a3,r,rfl⟩:=g.shape;have d:(l.take k).length=k:=by rw [List.length_take];omega
   have HT:=Z0 (List.take_succ_eq_append_getElem c);have p:=Z0 g;have m:=Z0 f;generalize l[k]=e at *
   go_wp2_with (at_builtin;refine Xv rfl _ _ rfl e o (p.below baq) rfl _ 1 (Z8r wr e) rfl (by rw [d];omega) (by simp;omega) ?_;intro h w' j y;have n:=growE y (p.below baq) (by simp;omega))
   go_roundw
   case rel=>exact ⟨k+1,by omega,by go_num,HT.out▸j,(m.alloc hz _).trans n⟩
   case measure=>simp [B0];omega
  ·go_wp2
   go_ret;rw [List.take_of_length_le (by omega)] at g;exact ⟨_,rfl,g,f⟩
theorem Z2b (v:Af)(l:List Int)(w:Ag)(hv:Ix w v l)(aa:l.length<=100000) :
  Ar Ad 104 #[v] w λe w'=>∃ v',e=.returned v'/\Zc inC 1 3 w' w.heap.size v' l/\Ai w.heap.size w w':=by
 obtain ⟨hm,a,cap,rfl,x⟩:=hv;go_enter func104,ntmps104;go_wp2
 go_loopw [3,4] (λs i wr=>∃ k:Nat,k<=l.length/\i=Aa O k/\Zc inC 1 3 wr w.heap.size s (l.take k)/\Ai w.heap.size w wr) (λ_ i _=>l.length-(B0 i).toNat)
 case atStart=>exact ⟨0,Bb _,rfl,Zc.made _ _ _ _ _ (Ao _),baq⟩
 case round=>
  obtain ⟨k,hk,rfl,j,g⟩:=hrel;have hz:=g.size;by_cases c:k<l.length
  ·obtain ⟨b,t,rfl,r⟩:=x k c
   have c0:=(g.cell (p:=⟨b,t+k,Ab⟩) (Xp (r k c))).trans (r k c);have z:(k:Int)<(l.length:Int):=by omega
   have HT:=Z0 (List.take_succ_eq_append_getElem c);have u:Ah (Zc inC 1 3 wr w.heap.size _ (l.take k)):=j;have HB:=Z0 g;have d:(l.take k).length<=100000:=by rw [List.length_take];omega
   have n:=Z0 d;have y:k<=100000:=by omega
   generalize l[k]=e at *
   go_wp2_with (at_builtin;refine Yl Z16 rfl _ _ rfl e (u.below baq) rfl _ 1 (Blk.new _ _ _).range rfl (by have:=n.out;omega) (by simp;omega) ?_;intro v2 w2 f h;have m:=Z0 f;have o:=Z0 ((HB.alloc hz _).trans (growG h (u.below baq) (by simp;omega)));clear f h)
   go_roundw
   case rel=>exact ⟨k+1,by omega,by go_num,HT.out▸m,o.out⟩
   case measure=>simp [B0];omega
  ·obtain rfl:k=l.length:=by omega
   rw [List.take_length] at j;go_wp2;go_ret;exact ⟨_,rfl,j,g⟩
variable {w:Ag}{B q:Nat}{v:Af}{C:Array Af}
theorem OwnXG.setq {α:Type}{cs:α->List Af}{m:Nat}{T t:TypeId}{l:List α}(h:Zc cs m T w B v l)(b:Blk w q C t)(a:T≠t)(i:Nat)(y:Af):Zc cs m T (w.setCell ⟨q,i,Ab⟩ y) B v l:=h.block λk e=>Below.heap_setCell _ _ _ _ (Zm h b a k e)
theorem OwnXE.setq {t:TypeId}{l:List Ent}(h:Zh w B v l)(b:Blk w q C t)(a:118≠t)(i:Nat)(y:Af):Zh (w.setCell ⟨q,i,Ab⟩ y) B v l:=h.block λk e=>Below.heap_setCell _ _ _ _ (Y5 h b a k e)
structure NdAt (w:Ag) (n:Nd) (v12 v13 v14 v15 v16 v17:Af):Prop where
 log:Es w v12 n.log
 gr:Ix w v13 n.gr
 nx:Ix w v14 n.nx
 mt:Ix w v15 n.mt
 se:Ix w v16 n.se
 st:Ix w v17 n.st
theorem NdAt.below {w':Ag}{n:Nd}{v12 v13 v14 v15 v16 v17:Af}(h:NdAt w n v12 v13 v14 v15 v16 v17)(a:Ai w.heap.size w w'):NdAt w' n v12 v13 v14 v15 v16 v17:=⟨h.log.below a,h.gr.below a,h.nx.below a,h.mt.below a,h.se.below a,h.st.below a⟩
theorem Z8e (n:Nd)(v12 v13 v14 v15 v16 v17:Af)(w:Ag)(h:NdAt w n v12 v13 v14 v15 v16 v17)(hl:n.log.length<=4096)(dy:n.gr.length<=100000)(d1:n.nx.length<=100000)(d0:n.mt.length<=100000)(dz:n.se.length<=100000)(dg:n.st.length<=100000) :
  Ar Ad 64 #[Aw (n.arrC v12 v13 v14 v15 v16 v17)] w λe w'=>∃ u12 u13 u14 u15 u16 u17,e=Aj (Aw (n.arrC u12 u13 u14 u15 u16 u17))/\Zh w' w.heap.size u12 n.log/\Zc inC 1 3 w' w.heap.size u13 n.gr/\Zc inC 1 3 w' w.heap.size u14 n.nx/\Zc inC 1 3 w' w.heap.size u15 n.mt/\Zc inC 1 3 w' w.heap.size u16 n.se/\Zc inC 1 3 w' w.heap.size u17 n.st/\[u13,u14,u15,u16,u17].Pairwise Yd/\Ai w.heap.size w w':=by
 have dv:=Z0 λz hz=>Z4q _ _ z (h.below hz).log (by omega)
 have ds:=Z0 λz hz=>Z2b _ _ z (h.below hz).gr dy
 have dk:=Z0 λz hz=>Z2b _ _ z (h.below hz).nx d1
 have dw:=Z0 λz hz=>Z2b _ _ z (h.below hz).mt d0
 have dt:=Z0 λz hz=>Z2b _ _ z (h.below hz).se dz
 have dx:=Z0 λz hz=>Z2b _ _ z (h.below hz).st dg
 obtain ⟨-,-,a12,c12,rfl,-⟩:=h.log;obtain ⟨-,a13,c13,rfl,-⟩:=h.gr;obtain ⟨-,a14,c14,rfl,-⟩:=h.nx;obtain ⟨-,a15,c15,rfl,-⟩:=h.mt;obtain ⟨-,a16,c16,rfl,-⟩:=h.se;obtain ⟨-,a17,c17,rfl,-⟩:=h.st;have cr:Ah (Blk ((w.alloc (At (n.arrC (I a12 n.log.length c12) (I a13 n.gr.length c13) (I a14 n.nx.length c14) (I a15 n.mt.length c15) (I a16 n.se.length c16) (I a17 n.st.length c17)) 36)).alloc (At zNod 36)) w.heap.size (n.arrC (I a12 n.log.length c12) (I a13 n.gr.length c13) (I a14 n.nx.length c14) (I a15 n.mt.length c15) (I a16 n.se.length c16) (I a17 n.st.length c17)) 36):=(Blk.new _ _ _).alloc _;have db:Ah (Blk ((w.alloc (At (n.arrC (I a12 n.log.length c12) (I a13 n.gr.length c13) (I a14 n.nx.length c14) (I a15 n.mt.length c15) (I a16 n.se.length c16) (I a17 n.st.length c17)) 36)).alloc (At zNod 36)) (w.heap.size+1) zNod 36):=Blk.new' _ _ _;have cu:Ah (Ai w.heap.size w ((w.alloc (At (n.arrC (I a12 n.log.length c12) (I a13 n.gr.length c13) (I a14 n.nx.length c14) (I a15 n.mt.length c15) (I a16 n.se.length c16) (I a17 n.st.length c17)) 36)).alloc (At zNod 36))):=baq.alloc (by simp) _;go_enter func64,ntmps64
 go_upto_region 1 with fail
 generalize (w.alloc (At (n.arrC (I a12 n.log.length c12) (I a13 n.gr.length c13) (I a14 n.nx.length c14) (I a15 n.mt.length c15) (I a16 n.se.length c16) (I a17 n.st.length c17)) 36)).alloc (At zNod 36)=z11 at *;have cf:=Z0 cr.out;have cn:=Z0 db.out;have be:=Z0 cu;have e12:=cf.out.cell 12;have da:=Z0 trivial;have c0:=Z0 trivial;have c5:=Z0 trivial;have c7:=Z0 trivial;have cx:=Z0 trivial;have cw:=Z0 trivial;have c3:=Z0 trivial;have cv:=Z0 trivial
 go_wp2_with (first
  |(have hG:=da;go_at_call 102;clear hG da;refine (dv _ be).mono ?_;rintro e de ⟨v12,rfl,ho,c⟩;obtain ⟨u,y,rfl⟩:=ho.shape;have ar:=(by have:=cn.out.lt;omega);have a:=cf.out.below c;have r:=cn.out.below c;have d3:=a.cell 12;have d5:=a.free 12;obtain ⟨am,ag⟩:=exq ((de.setCell ⟨w.heap.size,12,Ab⟩ (I u n.log.length y)));have ch:Ah (Blk am w.heap.size (n.arrC (I u n.log.length y) (I a13 n.gr.length c13) (I a14 n.nx.length c14) (I a15 n.mt.length c15) (I a16 n.se.length c16) (I a17 n.st.length c17)) 36):=(ag▸a.set 12 _);have ca:Ah (Blk am (w.heap.size+1) zNod 36):=(ag▸r.set_other _ (by simp));have a1:Ah (Ai w.heap.size w am):=(ag▸(be.trans (c.mono (by omega))).setCell (p:=⟨w.heap.size,12,Ab⟩) (Ao _) _);have di:z11.heap.size<=am.heap.size:=(by rw [ag];simp [Bx];exact c.size);have bh:Ah (Zh am z11.heap.size (I u n.log.length y) n.log):=(ag▸OwnXE.setq ho a (by decide) _ _);have e13:(de.setCell ⟨w.heap.size,12,Ab⟩ (I u n.log.length y)).cell? ⟨w.heap.size,13,Ab⟩=Ac (I a13 n.gr.length c13):=(ag▸ch.out.cell 13);clear ho c a r ar;have bw:=Z0 ag;clear ag)
  |(have hG:=c0;go_at_call 104;clear hG c0;refine (ds _ (bw.out▸a1)).mono ?_;rintro e cp ⟨v13,rfl,ho,c⟩;rw [<-bw.out] at ho c;obtain ⟨j,i,rfl⟩:=ho.shape;have ar:=(by have:=ca.out.lt;omega);have a:=ch.out.below c;have r:=ca.out.below c;have d8:=a.cell 13;have eb:=a.free 13;obtain ⟨aq,af⟩:=exq ((cp.setCell ⟨w.heap.size,13,Ab⟩ (I j n.gr.length i)));have bz:Ah (Blk aq w.heap.size (n.arrC (I u n.log.length y) (I j n.gr.length i) (I a14 n.nx.length c14) (I a15 n.mt.length c15) (I a16 n.se.length c16) (I a17 n.st.length c17)) 36):=(af▸a.set 13 _);have b6:Ah (Blk aq (w.heap.size+1) zNod 36):=(af▸r.set_other _ (by simp));have ba:Ah (Ai w.heap.size w aq):=(af▸(a1.trans (c.mono (by omega))).setCell (p:=⟨w.heap.size,13,Ab⟩) (Ao _) _);have dj:am.heap.size<=aq.heap.size:=(by rw [af];simp [Bx];exact c.size);have bg:Ah (Zh aq z11.heap.size (I u n.log.length y) n.log):=(af▸OwnXE.setq (bh.below c) a (by decide) _ _);have o:Ah (Zc inC 1 3 aq am.heap.size (I j n.gr.length i) n.gr):=(af▸OwnXG.setq ho a (by decide) _ _);have e14:(cp.setCell ⟨w.heap.size,13,Ab⟩ (I j n.gr.length i)).cell? ⟨w.heap.size,14,Ab⟩=Ac (I a14 n.nx.length c14):=(af▸bz.out.cell 14);clear ho c a r ar;have b2:=Z0 af;clear af)
  |(have hG:=c5;go_at_call 104;clear hG c5;refine (dk _ (b2.out▸ba)).mono ?_;rintro e dc ⟨v14,rfl,ho,c⟩;rw [<-b2.out] at ho c;obtain ⟨t,x,rfl⟩:=ho.shape;have ar:=(by have:=b6.out.lt;omega);have a:=bz.out.below c;have r:=b6.out.below c;have d9:=a.cell 14;have ed:=a.free 14;obtain ⟨av,aa⟩:=exq ((dc.setCell ⟨w.heap.size,14,Ab⟩ (I t n.nx.length x)));have cj:Ah (Blk av w.heap.size (n.arrC (I u n.log.length y) (I j n.gr.length i) (I t n.nx.length x) (I a15 n.mt.length c15) (I a16 n.se.length c16) (I a17 n.st.length c17)) 36):=(aa▸a.set 14 _);have b7:Ah (Blk av (w.heap.size+1) zNod 36):=(aa▸r.set_other _ (by simp));have bb:Ah (Ai w.heap.size w av):=(aa▸(ba.trans (c.mono (by omega))).setCell (p:=⟨w.heap.size,14,Ab⟩) (Ao _) _);have dh:aq.heap.size<=av.heap.size:=(by rw [aa];simp [Bx];exact c.size);have a9:Ah (Zh av z11.heap.size (I u n.log.length y) n.log):=(aa▸OwnXE.setq (bg.below c) a (by decide) _ _);have a3:Ah (Zc inC 1 3 av am.heap.size (I j n.gr.length i) n.gr):=(aa▸OwnXG.setq (o.below c) a (by decide) _ _);have ab:Ah (Zc inC 1 3 av aq.heap.size (I t n.nx.length x) n.nx):=(aa▸OwnXG.setq ho a (by decide) _ _);have d4:(dc.setCell ⟨w.heap.size,14,Ab⟩ (I t n.nx.length x)).cell? ⟨w.heap.size,15,Ab⟩=Ac (I a15 n.mt.length c15):=(aa▸cj.out.cell 15);clear ho c a r ar;have cg:=Z0 aa;clear aa)
  |(have hG:=c7;go_at_call 104;clear hG c7;refine (dw _ (cg.out▸bb)).mono ?_;rintro e dd ⟨v15,rfl,ho,c⟩;rw [<-cg.out] at ho c;obtain ⟨ad,ac,rfl⟩:=ho.shape;have ar:=(by have:=b7.out.lt;omega);have a:=cj.out.below c;have r:=b7.out.below c;have ee:=a.cell 15;have ef:=a.free 15;obtain ⟨au,l⟩:=exq ((dd.setCell ⟨w.heap.size,15,Ab⟩ (I ad n.mt.length ac)));have bx:Ah (Blk au w.heap.size (n.arrC (I u n.log.length y) (I j n.gr.length i) (I t n.nx.length x) (I ad n.mt.length ac) (I a16 n.se.length c16) (I a17 n.st.length c17)) 36):=(l▸a.set 15 _);have ce:Ah (Blk au (w.heap.size+1) zNod 36):=(l▸r.set_other _ (by simp));have bi:Ah (Ai w.heap.size w au):=(l▸(bb.trans (c.mono (by omega))).setCell (p:=⟨w.heap.size,15,Ab⟩) (Ao _) _);have dn:av.heap.size<=au.heap.size:=(by rw [l];simp [Bx];exact c.size);have bd:Ah (Zh au z11.heap.size (I u n.log.length y) n.log):=(l▸OwnXE.setq (a9.below c) a (by decide) _ _);have a2:Ah (Zc inC 1 3 au am.heap.size (I j n.gr.length i) n.gr):=(l▸OwnXG.setq (a3.below c) a (by decide) _ _);have a5:Ah (Zc inC 1 3 au aq.heap.size (I t n.nx.length x) n.nx):=(l▸OwnXG.setq (ab.below c) a (by decide) _ _);have al:Ah (Zc inC 1 3 au av.heap.size (I ad n.mt.length ac) n.mt):=(l▸OwnXG.setq ho a (by decide) _ _);have e16:(dd.setCell ⟨w.heap.size,15,Ab⟩ (I ad n.mt.length ac)).cell? ⟨w.heap.size,16,Ab⟩=Ac (I a16 n.se.length c16):=(l▸bx.out.cell 16);clear ho c a r ar;have b0:=Z0 l;clear l)
  |(have hG:=cx;go_at_call 104;clear hG cx;refine (dt _ (b0.out▸bi)).mono ?_;rintro e c6 ⟨v16,rfl,ho,c⟩;rw [<-b0.out] at ho c;obtain ⟨aj,ai,rfl⟩:=ho.shape;have ar:=(by have:=ce.out.lt;omega);have a:=bx.out.below c;have r:=ce.out.below c;have d6:=a.cell 16;have d7:=a.free 16;obtain ⟨an,g⟩:=exq ((c6.setCell ⟨w.heap.size,16,Ab⟩ (I aj n.se.length ai)));have b3:Ah (Blk an w.heap.size (n.arrC (I u n.log.length y) (I j n.gr.length i) (I t n.nx.length x) (I ad n.mt.length ac) (I aj n.se.length ai) (I a17 n.st.length c17)) 36):=(g▸a.set 16 _);have b8:Ah (Blk an (w.heap.size+1) zNod 36):=(g▸r.set_other _ (by simp));have a7:Ah (Ai w.heap.size w an):=(g▸(bi.trans (c.mono (by omega))).setCell (p:=⟨w.heap.size,16,Ab⟩) (Ao _) _);have dm:au.heap.size<=an.heap.size:=(by rw [g];simp [Bx];exact c.size);have a8:Ah (Zh an z11.heap.size (I u n.log.length y) n.log):=(g▸OwnXE.setq (bd.below c) a (by decide) _ _);have a6:Ah (Zc inC 1 3 an am.heap.size (I j n.gr.length i) n.gr):=(g▸OwnXG.setq (a2.below c) a (by decide) _ _);have bc:Ah (Zc inC 1 3 an aq.heap.size (I t n.nx.length x) n.nx):=(g▸OwnXG.setq (a5.below c) a (by decide) _ _);have a4:Ah (Zc inC 1 3 an av.heap.size (I ad n.mt.length ac) n.mt):=(g▸OwnXG.setq (al.below c) a (by decide) _ _);have az:Ah (Zc inC 1 3 an au.heap.size (I aj n.se.length ai) n.se):=(g▸OwnXG.setq ho a (by decide) _ _);have e17:(c6.setCell ⟨w.heap.size,16,Ab⟩ (I aj n.se.length ai)).cell? ⟨w.heap.size,17,Ab⟩=Ac (I a17 n.st.length c17):=(g▸b3.out.cell 17);clear ho c a r ar;have cc:=Z0 g;clear g)
  |(have hG:=cw;go_at_call 104;clear hG cw;refine (dx _ (cc.out▸a7)).mono ?_;rintro e du ⟨v17,rfl,ho,c⟩;rw [<-cc.out] at ho c;obtain ⟨ax,aw,rfl⟩:=ho.shape;have ar:=(by have:=b8.out.lt;omega);have a:=b3.out.below c;have r:=b8.out.below c;have eg:=a.cell 17;have eh:=a.free 17;obtain ⟨ak,f⟩:=exq ((du.setCell ⟨w.heap.size,17,Ab⟩ (I ax n.st.length aw)));have c8:Ah (Blk ak w.heap.size (n.arrC (I u n.log.length y) (I j n.gr.length i) (I t n.nx.length x) (I ad n.mt.length ac) (I aj n.se.length ai) (I ax n.st.length aw)) 36):=(f▸a.set 17 _);have ah:Ah (Blk ak (w.heap.size+1) zNod 36):=(f▸r.set_other _ (by simp));have cd:Ah (Ai w.heap.size w ak):=(f▸(a7.trans (c.mono (by omega))).setCell (p:=⟨w.heap.size,17,Ab⟩) (Ao _) _);have dp:an.heap.size<=ak.heap.size:=(by rw [f];simp [Bx];exact c.size);have ay:Ah (Zh ak z11.heap.size (I u n.log.length y) n.log):=(f▸OwnXE.setq (a8.below c) a (by decide) _ _);have a0:Ah (Zc inC 1 3 ak am.heap.size (I j n.gr.length i) n.gr):=(f▸OwnXG.setq (a6.below c) a (by decide) _ _);have ao:Ah (Zc inC 1 3 ak aq.heap.size (I t n.nx.length x) n.nx):=(f▸OwnXG.setq (bc.below c) a (by decide) _ _);have ae:Ah (Zc inC 1 3 ak av.heap.size (I ad n.mt.length ac) n.mt):=(f▸OwnXG.setq (a4.below c) a (by decide) _ _);have m:Ah (Zc inC 1 3 ak au.heap.size (I aj n.se.length ai) n.se):=(f▸OwnXG.setq (az.below c) a (by decide) _ _);have d:Ah (Zc inC 1 3 ak an.heap.size (I ax n.st.length aw) n.st):=(f▸OwnXG.setq ho a (by decide) _ _);clear ho c a r ar;have cz:=Z0 f;clear f)
  |(have co:=c3;refine Zd 36 _ rfl ?_;clear co;rw [<-cz.out];refine Z7 rfl 36 _ rfl _ rfl c8.out underlying36 rfl Z0q rfl ?_;clear c3)
  |(have co:=cv;refine Zn 36 _ _ rfl ?_;clear co;refine Zg rfl 36 _ _ rfl _ rfl rfl ah.out Z0q rfl rfl (by simp [Bh]) ?_;clear cv))
 have dq:Ah (Ai w.heap.size w (ak.setRow (w.heap.size+1) (n.arrC (I u n.log.length y) (I j n.gr.length i) (I t n.nx.length x) (I ad n.mt.length ac) (I aj n.se.length ai) (I ax n.st.length aw)))):=Yz cd (by omega) _;have hq:=λ(k:Nat) (hk:k≠w.heap.size+1)=>setRow_other ak (w.heap.size+1) k (n.arrC (I u n.log.length y) (I j n.gr.length i) (I t n.nx.length x) (I ad n.mt.length ac) (I aj n.se.length ai) (I ax n.st.length aw)) hk
 have c4:=be.size;have ct:=a1.size;have cq:=ba.size;have c2:=bb.size;have c1:=bi.size;have cy:=a7.size;refine A8 (Zl (s:=2) (ty:=36) (b:=w.heap.size+1) results64 (by rfl) (ah.out.row _) underlying36 rfl Z0q rfl) rfl ⟨_,_,_,_,_,_,rfl,(ay.block λk e=>hq k (Y5 ay ah.out (by decide) k e)).le c4,(a0.block λk e=>hq k (Zm a0 ah.out (by decide) k e)).le ct,(ao.block λk e=>hq k (Zm ao ah.out (by decide) k e)).le cq,(ae.block λk e=>hq k (Zm ae ah.out (by decide) k e)).le c2,(m.block λk e=>hq k (Zm m ah.out (by decide) k e)).le c1,(d.block λk e=>hq k (Zm d ah.out (by decide) k e)).le cy,?_,dq.out⟩;have bu:Yd (I j n.gr.length i) (I t n.nx.length x):=λk e1 e2=>by have h1:=(o.lts k e1).2;have h2:=(ao.lts k e2).1;omega
 have bn:Yd (I j n.gr.length i) (I ad n.mt.length ac):=λk e1 e2=>by have h1:=(o.lts k e1).2;have h2:=(ae.lts k e2).1;omega
 have bk:Yd (I j n.gr.length i) (I aj n.se.length ai):=λk e1 e2=>by have h1:=(o.lts k e1).2;have h2:=(m.lts k e2).1;omega
 have bo:Yd (I j n.gr.length i) (I ax n.st.length aw):=λk e1 e2=>by have h1:=(o.lts k e1).2;have h2:=(d.lts k e2).1;omega
 have bm:Yd (I t n.nx.length x) (I ad n.mt.length ac):=λk e1 e2=>by have h1:=(ab.lts k e1).2;have h2:=(ae.lts k e2).1;omega
 have bv:Yd (I t n.nx.length x) (I aj n.se.length ai):=λk e1 e2=>by have h1:=(ab.lts k e1).2;have h2:=(m.lts k e2).1;omega
 have bj:Yd (I t n.nx.length x) (I ax n.st.length aw):=λk e1 e2=>by have h1:=(ab.lts k e1).2;have h2:=(d.lts k e2).1;omega
 have bp:Yd (I ad n.mt.length ac) (I aj n.se.length ai):=λk e1 e2=>by have h1:=(al.lts k e1).2;have h2:=(m.lts k e2).1;omega
 have bq:Yd (I ad n.mt.length ac) (I ax n.st.length aw):=λk e1 e2=>by have h1:=(al.lts k e1).2;have h2:=(d.lts k e2).1;omega
 have br:Yd (I aj n.se.length ai) (I ax n.st.length aw):=λk e1 e2=>by have h1:=(az.lts k e1).2;have h2:=(d.lts k e2).1;omega
 simp only [List.pairwise_cons,List.mem_cons,List.not_mem_nil,or_false,forall_eq_or_imp,forall_eq,false_imp_iff,implies_true,and_true,List.Pairwise.nil];exact ⟨⟨bu,bn,bk,bo⟩,⟨bm,bv,bj⟩,⟨bp,bq⟩,br⟩
end
theorem ix_at {w:Ag}{a:Option Addr}{n c:Nat}{l:List Int}(h:Ix w (I a n c) l)(i:Nat)(hi:i<l.length):∃ b d,a=Ac ⟨b,d,Ab⟩/\w.cell? ⟨b,d+i,Ab⟩=Ac (Aa O l[i]):=by
 obtain ⟨-,j,k,e,f⟩:=h;simp only [Value.slice.injEq] at e;obtain ⟨rfl,-,rfl⟩:=e;obtain ⟨b,d,rfl,g⟩:=f i hi;exact ⟨b,d,rfl,g i hi⟩
theorem holdK_le (n:Nd)(p:Int):∀ k,Z3b n p k<=k
 | 0=>Ao _
 | k+1=>by
  have:=holdK_le n p k;rw [Z3b];split <;> omega
theorem l4agreed_any (n:Nd)(p N:Nat)(la ma:Option Addr)(lc mc:Nat)(v13 v14 v16 v17:Af)(w:Ag)(hl:Es w (I la n.log.length lc) n.log)(hm:Ix w (I ma n.mt.length mc) n.mt)(ag:Z1n v13)(an:Z1n v14)(al:Z1n v16)(ai:Z1n v17)(a1:n.log.length<=100000)(a6:1<=p)(au:p<=n.log.length)(hN:n.sz=N)(r:n.mt.length=N)(a7:N<=7)(f:n.sz%2=1) :
  Ar Ad 152 #[Aw (n.arrC (I la n.log.length lc) v13 v14 (I ma n.mt.length mc) v16 v17),Aa O (p:Int)] w λe w'=>e=Aj (.bool (Z07 n p))/\Ai w.heap.size w w':=by
 obtain ⟨a13,ad,c13,rfl⟩:=ag;obtain ⟨a14,l,c14,rfl⟩:=an;obtain ⟨a16,ae,c16,rfl⟩:=al;obtain ⟨a17,ac,c17,rfl⟩:=ai;obtain ⟨q,rfl⟩:∃ q,p=q+1:=⟨p-1,by omega⟩;obtain ⟨W,v⟩:=exq (w.alloc (At (n.arrC (I la n.log.length lc) (I a13 ad c13) (I a14 l c14) (I ma n.mt.length mc) (I a16 ae c16) (I a17 ac c17)) 36));have d:Ah (Ai w.heap.size w W):=v▸baq
 simp
 have j:Ah (Blk W w.heap.size (n.arrC (I la n.log.length lc) (I a13 ad c13) (I a14 l c14) (I ma n.mt.length mc) (I a16 ae c16) (I a17 ac c17)) 36):=v▸Blk.new _ _ _
 have HM:Ah (∀ c:Nat,c<=8->∀ z,Ar Ad 100 #[Aa O (c:Int),Aa O (N:Int)] z λe w'=>e=Aj (.bool (Xx (c:Int) (N:Int)))/\w'=z):=λc hc z=>by
  have h9:=Z1c (c:Int) (N:Int) (hN▸f) (by omega) (by omega) z;rw [maj_same (hN▸f)] at h9;exact h9
 have u:=hl.below d.out;have y:=hm.below d.out;have ax:=j.out.cell 12;have a5:=j.out.cell 15;have x1:W.cell? ⟨w.heap.size,1,Ab⟩=Ac (Aa O (N:Int)):=hN▸j.out.cell 1
 have x0:=j.out.cell 0;have x4:=j.out.cell 4
 have g:Ah (Z07 n (q+1)=(Xx (((Z3b n ((q:Int)+1) N+1:Nat)):Int) (N:Int) && ((n.log[q]'(by omega)).t == n.tm))):=by
  unfold Ah Z07 Zy;rw [hN,ifo,As (by omega)];simp only [Nat.add_sub_cancel,Option.map_some,Option.getD_some,Int.toNat_natCast];rw [show (1+((Z3b n ((q+1:Nat):Int) N:Nat):Int))=((Z3b n ((q:Int)+1) N+1:Nat):Int) by push_cast;omega];rfl
 obtain ⟨lb,lo,rfl,ct⟩:=Z3d u q (by omega);have ak:=Z0 y;have HH:Ah (∀ k,Z3b n ((q:Int)+1) (k+1)=Z3b n ((q:Int)+1) k+if (k:Int)+1≠n.id/\(q:Int)+1<=n.mt.getD k 0 then 1 else 0):=λk=>rfl
 have af:Ah (∀ k,Z3b n ((q:Int)+1) k<=k):=holdK_le _ _;have aj:Ah (Z3b n ((q:Int)+1) 0=0):=rfl;have a4:(q:Int)<(n.log.length:Int):=by omega
 have ay:IntKind.i64.wrap ((q:Int)+1-1)=(q:Int):=wry
 have ah:=Z0 r;generalize Z07 n (q+1)=A at *;generalize (n.log[q]'(by omega)).t=T1 at *;generalize hgH:Z3b n ((q:Int)+1)=hK at *;clear hl hm u y j hgH r hN f;go_enter func152,ntmps152;go_wp2;rw [<-v];clear v
 go_loopw [5,6] (λcv jv wr=>∃ k:Nat,k<=N/\jv=Aa O ((k:Int)+1)/\cv=Aa O ((hK k+1:Nat):Int)/\wr=W) (λ_ jv _=>N+1-(B0 jv).toNat)
 case atStart=>exact ⟨0,Bb _,rfl,by rw [aj.out];rfl,rfl⟩
 case round=>
  obtain ⟨k,hk,rfl,rfl,aq⟩:=hrel;have x:=aq.symm;subst x;have a0:=af.out k;have a:=HH.out k;by_cases a3:k<N
  ·have ar:((k:Int)+1)<=(N:Int):=by omega
   have a2:IntKind.i64.wrap ((k:Int)+1-1)=(k:Int):=wry
   have az:IntKind.i64.wrap (((hK k+1:Nat):Int)+1)=((hK k+1+1:Nat):Int):=by rw [IntKind.wrap_i64];push_cast;omega
   have aw:(k:Int)<(n.mt.length:Int):=by rw [ah.out];omega
   obtain ⟨mb,mo,rfl,cm⟩:=ix_at ak.out k (by omega);have o:n.mt.getD k 0=n.mt[k]'(by omega):=by rw [List.getD_eq_getElem?_getD,As (by omega)];rfl
   rw [o] at a;clear o;generalize (n.mt[k]'(by omega))=MK at *;by_cases i:(k:Int)+1=n.id
   ·have ao:(((k:Int)+1) != n.id)=false:=by simpa using i
    rw [if_neg (λh=>h.1 i)] at a;have m:Ah (hK (k+1)=hK k):=by rw [a];rfl
    clear a i
    go_wp2_with fail
    go_roundw
    case rel=>exact ⟨k+1,by omega,by go_num,by rw [m.out],trivial⟩
    case measure=>simp [B0];omega
   ·have ao:(((k:Int)+1) != n.id)=true:=by simpa using i
    by_cases hg:(q:Int)+1<=MK
    ·rw [if_pos ⟨i,hg⟩] at a
     have m:=Z0 a;have am:=decide_eq_true hg;clear a i
     go_wp2_with fail
     go_roundw
     case rel=>exact ⟨k+1,by omega,by go_num,by rw [m.out];go_num,trivial⟩
     case measure=>simp [B0];omega
    ·rw [if_neg (λh=>hg h.2)] at a
     have m:Ah (hK (k+1)=hK k):=by rw [a];rfl
     have am:=decide_eq_false hg;clear a i
     go_wp2_with fail
     go_roundw
     case rel=>exact ⟨k+1,by omega,by go_num,by rw [m.out],trivial⟩
     case measure=>simp [B0];omega
  ·obtain rfl:k=N:=by omega
   have ar:¬((k:Int)+1)<=(k:Int):=by omega
   have s:=HM.out (hK k+1) (by omega);have b:Ah _:=s;clear a HH s HM;generalize hK k+1=c at *
   go_upto_region 7 with fail
   cases aa:Xx (c:Int) (k:Int)
   ·rw [aa] at g b
    go_quiet ((go_at_call 100;exact Calls.quiet_of_same (b _)))
    go_wp2_with fail
    go_ret;exact ⟨by rw [g.out];rfl,d.out.trans bdr⟩
   ·rw [aa] at g b
    cases ab:(T1 == n.tm)
    ·rw [ab] at g
     go_quiet ((go_at_call 100;exact Calls.quiet_of_same (b _)))
     go_wp2_with fail
     go_ret;exact ⟨by rw [g.out];rfl,d.out.trans bdr⟩
    ·rw [ab] at g
     go_quiet ((go_at_call 100;exact Calls.quiet_of_same (b _)))
     go_wp2_with fail
     go_ret;exact ⟨by rw [g.out];rfl,d.out.trans bdr⟩
theorem Jg {w:Ag}{B:Nat}{v:Af}{l:List Int}(h:Zc inC 1 3 w B v l)(J:Nat)(a:J<l.length):∃ g c,v=I (Ac ⟨g,0,Ab⟩) l.length c/\g<w.heap.size/\w.cell? ⟨g,J,Ab⟩=Ac (Aa O l[J])/\w.frozen? ⟨g,J,Ab⟩=false:=by
 obtain ⟨g,c,rfl⟩:=h.shape';refine ⟨g,c,rfl,(h.lts g rfl).2,?_,World.ownsRow.frozenAt h J⟩;rw [World.ownsRow.cellAt h J (by omega),gC_in];simp [a]
def Z0n (fr tq:Int):Bool:=inB fr 1 7 && inB tq 1 7 && (fr != tq)
def Z0i (ki tm li lt:Int):Bool:=
 if ki=1∨ki=3∨ki=5 then inB li 0 4096 && inB lt 0 tm && ((lt == 0) == (li == 0))
 else if ki=6 then inB li 0 4096 && (lt == 0) else (li == 0) && (lt == 0)
def Yt (ki cm ok hi:Int):Bool:=
 inB cm 0 (if ki=5 then 4096 else 0) && inB ok 0 (if ki=2∨ki=4∨ki=6 then 1 else 0) && inB hi 0 (if ki=6/\ok=0 then 4096 else 0)
theorem endsFit_any (ki fr tq tm li lt cm ok hi:Int)(a:Af)(w:Ag) :
  Ar Ad 159 #[Aw (mqN ki fr tq tm li lt cm ok hi a)] w λr w'=>r=Aj (.bool (Z0n fr tq))/\Ai w.heap.size w w':=by
 go_enter func159,ntmps159
 go_wp2_with (go_at_call 70;refine (Yh _ _ _ _).mono ?_;rintro e w' ⟨rfl,rfl⟩)
 all_goals go_ret
 all_goals refine ⟨Yw ?_,baq⟩
 all_goals (go_light;simp_all [Z0n])
theorem Z6h (ki fr tq tm li lt cm ok hi:Int)(a:Af)(w:Ag) :
  Ar Ad 160 #[Aw (mqN ki fr tq tm li lt cm ok hi a)] w λr w'=>r=Aj (.bool (Z0i ki tm li lt))/\Ai w.heap.size w w':=by
 go_enter func160,ntmps160
 go_wp2_with (go_at_call 70;refine (Yh _ _ _ _).mono ?_;rintro e w' ⟨rfl,rfl⟩)
 all_goals go_ret
 all_goals refine ⟨Yw ?_,baq⟩
 all_goals (go_light;simp_all [Z0i])
theorem marksFit_any (ki fr tq tm li lt cm ok hi:Int)(a:Af)(w:Ag) :
  Ar Ad 161 #[Aw (mqN ki fr tq tm li lt cm ok hi a)] w λr w'=>r=Aj (.bool (Yt ki cm ok hi))/\Ai w.heap.size w w':=by
 go_enter func161,ntmps161
 go_wp2_with (go_at_call 70;refine (Yh _ _ _ _).mono ?_;rintro e w' ⟨rfl,rfl⟩)
 all_goals go_ret
 all_goals refine ⟨Yw ?_,baq⟩
 all_goals (go_light;simp_all [Yt])
def Xd (ki li lt tm:Int)(l:List Ent):Bool:=
 if ki=5 then decide (l.length<=32) && decide (li+l.length<=4096) && Jq tm lt l else decide (l.length=0)
theorem Z86 (ki fr tq tm li lt cm ok hi:Int)(i:Af)(l:List Ent)(w:Ag)(h:Es w i l)(n:0<=li)(g:li<=1000000)(e:l.length<=1048576) :
  Ar Ad 162 #[Aw (mqN ki fr tq tm li lt cm ok hi i)] w λr w'=>r=Aj (.bool (Xd ki li lt tm l))/\Ai w.heap.size w w':=by
 have m:=Z0 h;obtain ⟨p,j,a,cap,rfl,o⟩:=h;by_cases f:ki=5
 ·subst f
  by_cases c:l.length<=32
  ·by_cases d:li+l.length<=4096
   ·have b:Xd 5 li lt tm l=Jq tm lt l:=by simp [Xd,c,d]
    rw [b];go_enter func162,ntmps162
    go_wp2_with (go_at_call 69;refine (Z3p _ lt tm l _ (m.below baq) e).mono ?_;rintro r q ⟨rfl,k⟩)
    go_ret;exact ⟨rfl,baq.trans (k.mono (by simp))⟩
   ·have b:Xd 5 li lt tm l=false:=by simp [Xd,d]
    have hd:decide (4096<li+l.length)=true:=by simp;omega
    rw [b];go_enter func162,ntmps162;go_wp2;go_ret;exact ⟨rfl,baq⟩
  ·have b:Xd 5 li lt tm l=false:=by simp [Xd,c]
   rw [b];go_enter func162,ntmps162;go_wp2;go_ret;exact ⟨rfl,baq⟩
 ·have n5:(ki != 5)=true:=by simpa using f
  go_enter func162,ntmps162;go_wp2;go_ret;exact ⟨Yw (by rw [Xd,if_neg f];first | rfl | (simp;done) | (rw [Bool.eq_iff_iff];simp)),baq⟩
def Jr (ki fr tq tm li lt cm ok hi:Int)(l:List Ent):Int:=
 if inB ki 1 6=false then 1 else if Z0n fr tq=false then 2 else if inB tm 1 1073741824=false then 3
 else if Z0i ki tm li lt=false then 4 else if Yt ki cm ok hi=false then 5 else if Xd ki li lt tm l=false then 6 else 0
theorem posB_li {ki tm li lt:Int}(h:Z0i ki tm li lt=true):0<=li/\li<=4096:=by
 unfold Z0i at h;split at h
 ·simp [inB] at h;omega
 ·split at h
  ·simp [inB] at h;omega
  ·simp at h;omega
theorem Z6a (ki fr tq tm li lt cm ok hi:Int)(h:Af)(l:List Ent)(w:Ag)(g:Es w h l)(e:l.length<=1048576) :
  Ar Ad 129 #[Aw (mqN ki fr tq tm li lt cm ok hi h)] w λr w'=>r=Aj (Aa O (Jr ki fr tq tm li lt cm ok hi l))/\Ai w.heap.size w w':=by
 have f:=Z0 g;obtain ⟨v,t,a,cap,rfl,q⟩:=g;have c:Ai w.heap.size w (w.alloc (At (mqN ki fr tq tm li lt cm ok hi (I a l.length cap)) 43)):=baq;have d:w.heap.size<(w.alloc (At (mqN ki fr tq tm li lt cm ok hi (I a l.length cap)) 43)).heap.size:=by simp
 go_enter func129,ntmps129
 go_wp2_with (first
  |(go_at_call 70;refine (Yh _ _ _ _).mono ?_;rintro r w' ⟨rfl,rfl⟩)
  |(go_at_call 159;refine (endsFit_any _ _ _ _ _ _ _ _ _ _ _).mono ?_;rintro r w1 ⟨rfl,b⟩;obtain ⟨s,k⟩:=Z1d b;replace c:=c.trans (b.mono (by omega));have d:=Bk d b.size)
  |(go_at_call 160;refine (Z6h _ _ _ _ _ _ _ _ _ _ _).mono ?_;rintro r y ⟨rfl,b⟩;obtain ⟨n,m⟩:=Z1d b;replace c:=c.trans (b.mono (by omega));have d:=Bk d b.size)
  |(go_at_call 161;refine (marksFit_any _ _ _ _ _ _ _ _ _ _ _).mono ?_;rintro r u ⟨rfl,b⟩;obtain ⟨p,o⟩:=Z1d b;replace c:=c.trans (b.mono (by omega));have d:=Bk d b.size)
  |(go_at_call 162;have j:=(by have:(!Z0i ki tm li lt)=false:=(by assumption);simpa using this);obtain ⟨i,x⟩:=posB_li j;refine (Z86 _ _ _ _ _ _ _ _ _ _ l _ (f.out.below c) i (by omega) e).mono ?_;rintro r z ⟨rfl,b⟩;replace c:=c.trans (b.mono (by omega))))
 all_goals go_ret
 all_goals refine ⟨J6 ?_,c⟩
 all_goals (clear c f;go_light;simp_all [Jr])
theorem Jb (x:Int):inB x 0 0=(x == 0):=by
 rw [Bool.eq_iff_iff,Zj];simp;omega
theorem Z3a (a b:Bool):(a == b)=(b == a):=by cases a <;> cases b <;> rfl
section
def Src (w:Ag)(g:Nat)(v:Af)(l:List Int)(k:Nat):Prop:=
 g<w.heap.size/\(∀ i,w.frozen? ⟨g,i,Ab⟩=false)/\Bs w v l/\w.cell? ⟨g,0,Ab⟩=Ac v/\w.cell? ⟨g,1,Ab⟩=Ac (Aa O k)
variable {w:Ag}{v:Af}{l:List Int}
theorem src_set (h:Bs w v l){b i:Nat}{x:Af}(o:w.cell? ⟨b,i,Ab⟩=Ac x)(r:∀ n,x≠Aa .u8 n)(y:Af):Bs (w.setCell ⟨b,i,Ab⟩ y) v l:=by
 obtain ⟨p,q,a,cap,rfl,k⟩:=h;refine ⟨p,q,a,cap,rfl,λj hj=>?_⟩;obtain ⟨g,d,rfl,f⟩:=k j hj;refine ⟨g,d,rfl,λm hm=>?_⟩;have c:=f m hm;by_cases e:(⟨b,i,Ab⟩:Addr)=⟨g,d+m,Ab⟩
 ·rw [<-e,o] at c
  injection c with c;exact absurd c (r _)
 ·rw [World.cell?_setCell_other w _ _ _ e];exact c
theorem Src.start (w:Ag)(v:Af)(l:List Int)(h:Bs w v l)(T:Nat):Src (w.alloc (At #[v,Aa O 0] T)) w.heap.size v l 0:=by
 refine ⟨by simp,λi=>by simp,h.below baq,?_,?_⟩ <;> rw [World.cell?_alloc_new] <;> rfl
theorem World.grownBy.trans' {a b:Ag}{row:Option Nat}(h:w.grownBy a row)(k:a.grownBy b row):w.grownBy b row:=
 ⟨k.os.trans h.os,k.tape.trans h.tape,k.output.trans h.output,Nat.le_trans h.size k.size,λi hi hne=>(k.block i (Bk hi h.size) hne).trans (h.block i hi hne)⟩
def Yo (l:List Int)(k:Nat):Int:=if k<l.length then l[k]?.getD 0 else (((k*167+k / 3*41+l.length*29)%256:Nat):Int)
theorem Z7t (h:∀ x∈l,0<=x/\x<=255)(k:Nat):0<=Yo l k/\Yo l k<=255:=by
 unfold Yo;split
 ·exact byte_at h k
 ·omega
theorem J1 (g:Nat)(w:Ag)(v:Af)(l:List Int)(k:Nat)(hL:l.length<=1048576)(hk:k<=1000000000)(h:Src w g v l k) :
  Ar Ad 93 #[Ae (Ac ⟨g,0,Ab⟩)] w λe w'=>e=Aj (Aa O (Yo l k))/\Src w' g v l (k+1)/\w.grownBy w' (Ac g):=by
 obtain ⟨hg,p,t,y,x⟩:=h
 have o:∀ m,Ah (Src ((w.drewN m).setCell ⟨g,1,Ab⟩ (Aa O ((k+1:Nat):Int))) g v l (k+1)/\w.grownBy ((w.drewN m).setCell ⟨g,1,Ab⟩ (Aa O ((k+1:Nat):Int))) (Ac g)):=λm=>by
  refine ⟨⟨by simpa [Bx] using hg,λi=>?_,src_set (w:=w.drewN m) t x (by intro n;simp) _,?_,World.cell?_setCell_same (w.drewN m) _ _ x⟩,?_⟩
  ·rw [World.frozen?_setCell];exact p i
  ·rw [World.cell?_setCell_other _ _ _ _ (by intro h;injection h with _ h2 _;cases h2)];exact y
  ·exact ⟨rfl,rfl,rfl,by simp [Bx],λj _ hj=>Below.heap_setCell _ _ _ _ (λe=>hj (by rw [e]))⟩
 have aa:=p 1;have c:=Z7t t.2.1 k;obtain ⟨hl,u,a,cap,rfl,s⟩:=t;by_cases d:k<l.length
 ·have q:Yo l k=l[k]?.getD 0:=by unfold Yo;rw [if_pos d]
  rw [q] at c ⊢;obtain ⟨b,z,rfl,Xc⟩:=s k d;have r:=Xc k d;have f:(k:Int)<(l.length:Int):=by omega
  clear Xc s u p q;generalize l[k]?.getD 0=cc at r c ⊢;obtain ⟨y0,y1⟩:=c;go_enter func93,ntmps93;go_wp2;go_quiet (fail)
  go_wp2;go_quiet (fail)
  go_wp2;go_ret;exact ⟨rfl,(o _).out.1,(o _).out.2⟩
 ·have q:Yo l k=(((k*167+k / 3*41+l.length*29)%256:Nat):Int):=by unfold Yo;rw [if_neg d]
  rw [q] at c ⊢;have f:¬(k:Int)<(l.length:Int):=by omega
  clear s u p;go_enter func93,ntmps93;go_wp2;go_quiet (fail)
  go_wp2;go_quiet (fail)
  go_wp2;go_ret;exact ⟨by simp,(o _).out.1,(o _).out.2⟩
def Zf (n:Nat):Nat:=if n<=256 then 1 else if n<=65536 then 2 else 4
def pickX (l:List Int)(k n:Nat):Int:=if n<=256 then Yo l k else if n<=65536 then Yo l k*256+Yo l (k+1) else (Yo l k*256+Yo l (k+1))*65536+Yo l (k+1+1)*256+Yo l (k+1+1+1)
def Z4 (l:List Int)(k n:Nat):Nat:=(pickX l k n).toNat%n
theorem Z6 (l:List Int)(k n:Nat)(a:0<n:=by omega):Z4 l k n<n:=Nat.mod_lt _ a
theorem Z48 (n:Nat):Zf n<=4:=by unfold Zf;split <;> (try split) <;> omega
theorem Z6t (x:Int)(n:Nat)(h:0<=x):((x.toNat%n:Nat):Int)=x%(n:Int):=by rw [Int.natCast_emod,Int.toNat_of_nonneg h]
theorem Src.byte {g:Nat}{k:Nat}(h:Src w g v l k)(j:Nat):0<=Yo l j/\Yo l j<=255:=Z7t h.2.2.1.2.1 j
theorem Zk (g:Nat)(w:Ag)(v:Af)(l:List Int)(k n:Nat)(hL:l.length<=1048576)(hk:k<=900000000)(hn:0<n)(hN:n<=4294967296)(h:Src w g v l k) :
  Ar Ad 53 #[Ae (Ac ⟨g,0,Ab⟩),Aa O n] w λe w'=>e=Aj (Aa O (Z4 l k n:Nat))/\Src w' g v l (k+Zf n)/\w.grownBy w' (Ac g):=by
 have s:=h.byte k;have b1:=h.byte (k+1);have b2:=h.byte (k+1+1);have b3:=h.byte (k+1+1+1);have d:=Z0 h;have m:Ah (w.grownBy w (Ac g)):=⟨rfl,rfl,rfl,Ao _,λ_ _ _=>rfl⟩;have g0:True:=trivial;have g1:True:=trivial;have g2:True:=trivial;by_cases j:n<=256
 ·have p:(Z4 l k n:Int)=Yo l k%(n:Int):=by
   unfold Z4 pickX;rw [if_pos j];exact Z6t _ _ s.1
  have c:Zf n=1:=by unfold Zf;rw [if_pos j]
  rw [p,c];have o:¬(256:Int)<n:=by omega
  go_enter func53,ntmps53
  go_wp2_with (go_at_call 93;refine (J1 g _ v l _ hL (by omega) d).mono ?_;rintro e w1 ⟨rfl,a,b⟩;replace d:=Z0 a;replace m:=Z0 b;clear a b;obtain ⟨z,c1⟩:=s)
  go_ret;exact ⟨by simp,d.out,m.out⟩
 ·by_cases r:n<=65536
  ·have p:(Z4 l k n:Int)=(Yo l k*256+Yo l (k+1))%(n:Int):=by
    unfold Z4 pickX;rw [if_neg j,if_pos r];exact Z6t _ _ (by omega)
   have c:Zf n=1+1:=by unfold Zf;rw [if_neg j,if_pos r]
   rw [p,c];have o:(256:Int)<n:=by omega
   have q:¬(65536:Int)<n:=by omega
   go_enter func53,ntmps53
   go_wp2_with (first
    |(go_at_call 93;clear g0;refine (J1 g _ v l k hL (by omega) d).mono ?_;rintro e w1 ⟨rfl,a,b⟩;replace d:=Z0 a;replace m:=Z0 b;clear a b;obtain ⟨z,c1⟩:=s)
    |(go_at_call 93;refine (J1 g _ v l _ hL (by omega) d).mono ?_;rintro e w2 ⟨rfl,a,b⟩;have i:=Z0 a;have f:=Z0 (World.grownBy.trans' m b);clear a b;obtain ⟨c2,c3⟩:=b1))
   go_ret;exact ⟨by simp,i.out,f.out⟩
  ·have p:(Z4 l k n:Int)=((Yo l k*256+Yo l (k+1))*65536+Yo l (k+1+1)*256+Yo l (k+1+1+1))%(n:Int):=by
    unfold Z4 pickX;rw [if_neg j,if_neg r];exact Z6t _ _ (by omega)
   have c:Zf n=1+1+1+1:=by unfold Zf;rw [if_neg j,if_neg r]
   rw [p,c];have o:(256:Int)<n:=by omega
   have q:(65536:Int)<n:=by omega
   go_enter func53,ntmps53
   go_wp2_with (first
    |(go_at_call 93;clear g0;refine (J1 g _ v l k hL (by omega) d).mono ?_;rintro e w1 ⟨rfl,a,b⟩;replace d:=Z0 a;replace m:=Z0 b;clear a b;obtain ⟨z,c1⟩:=s)
    |(go_at_call 93;clear g1;refine (J1 g _ v l _ hL (by omega) d).mono ?_;rintro e w2 ⟨rfl,a,b⟩;have i:=Z0 a;have f:=Z0 (World.grownBy.trans' m b);clear a b;obtain ⟨c2,c3⟩:=b1)
    |(go_at_call 93;clear g2;refine (J1 g _ v l _ hL (by omega) i).mono ?_;rintro e w3 ⟨rfl,a,b⟩;have t:=Z0 a;have x:=Z0 (World.grownBy.trans' f b);clear a b;obtain ⟨c4,c5⟩:=b2)
    |(go_at_call 93;refine (J1 g _ v l _ hL (by omega) t).mono ?_;rintro e w4 ⟨rfl,a,b⟩;have u:=Z0 a;have y:=Z0 (World.grownBy.trans' x b);clear a b;obtain ⟨c6,c7⟩:=b3))
   go_ret;exact ⟨by simp,u.out,y.out⟩
end
section
variable {w:Ag}{l:List Int}
theorem conv_bs {a:Option Addr}{n c:Nat}(h:Bs w (I a n c) l)(g:0<l.length):(convert 55 9 (I a n c)).run Ad w=.ok (Az (strOfNums l)) w:=by
 obtain ⟨k,m,j,cap,e,Xc⟩:=h;injection e with e1 e2 e3;subst e1 e2 e3;obtain ⟨b,d,rfl,f⟩:=Xc 0 g;refine run_convert_bytes_arg w 55 5 underlying55 underlying5 b d l.length c l rfl (λi hi=>?_) 9 underlying9;rw [f i hi];simp [List.getD,hi]
theorem bs_one (w:Ag)(x:Int)(h:0<=x/\x<=255):Bs (w.alloc (At #[Aa .u8 x] 5)) (I (Ac ⟨w.heap.size,0,Ab⟩) 1 1) [x]:=
 (Own.lit w [x] #[Aa .u8 x] rfl (by simpa using h) (by simp [maxLen])).bs (by simp [maxLen])
theorem Z8n (n:Nat)(c:Int)(d:0<n)(t:n<=1000)(q:0<=c/\c<=255)(w:Ag) :
  Ar Ad 143 #[Aa O n,Aa .u8 c] w λe w'=>e=Aj (Az (strOfNums (List.replicate n c)))/\Ai w.heap.size w w':=by
 have j:=Own.lit w [] #[] rfl (by simp) (by simp [maxLen]);go_enter func143,ntmps143;go_wp2
 go_loopw [5,6] (λo i wr=>∃ k:Nat,k<=n/\i=Aa O k/\Own wr w.heap.size o (List.replicate k c)/\Ai w.heap.size w wr) (λ_ i _=>n-(B0 i).toNat)
 case atStart=>exact ⟨0,Bb _,rfl,by simpa using j,baq⟩
 case round=>
  obtain ⟨k,u,rfl,a,g⟩:=hrel;have x:=g.size;clear j;by_cases r:k<n
  ·go_wp2_with (at_builtin;refine wpl_append rfl _ _ rfl (a.below baq) rfl (bs_one _ c q) rfl (by simp) (by simp;omega) (by simp;omega) ?_;intro v s b f)
   go_roundw
   case rel=>exact ⟨k+1,by omega,by go_num,List.replicate_succ'▸b,g.trans (((An _ _).alloc (by omega) _).trans (f.below (a.below baq) (by simp;omega)))⟩
   case measure=>simp [B0];omega
  ·obtain rfl:k=n:=by omega
   obtain ⟨y,m,h⟩:=a.shape;rw [List.length_replicate] at h;subst h;have p:=conv_bs (a.bs (by simp [maxLen];omega)) (by simpa using d);clear a;go_wp2;go_ret;exact ⟨rfl,g⟩
def Zi (l:List Int)(k:Nat)(e:Bool):ByteArray×Nat:=
 if Z4 l k 16=0/\e=true then (⟨#[]⟩,k+1)
 else if Z4 l k 16=1 then (strOfNums (List.replicate (64-Z4 l (k+1) 2) (97+(Z4 l (k+1+1) 3:Nat))),k+1+1+1)
 else if Z4 l k 16=2 then (strOfNums [Yo l (k+1),Yo l (k+1+1)],k+1+1+1)
 else if Z4 l k 16<11 then (strOfNums [97+(Z4 l (k+1) 4:Nat)],k+1+1)
 else (strOfNums [97+(Z4 l (k+1) 3:Nat),48+(Z4 l (k+1+1) 10:Nat)],k+1+1+1)
theorem Yi (l:List Int)(k:Nat)(e:Bool):(Zi l k e).1.size<=64/\(e=false->0<(Zi l k e).1.size)/\k<(Zi l k e).2/\(Zi l k e).2<=k+3:=by
 have a:=Z6 l (k+1) 2;unfold Zi;split
 ·next h=>exact ⟨by simp [ByteArray.size],λhe=>by simp [he] at h,by simp,by simp⟩
 ·split
  ·simp only [strOfNums_size,List.length_replicate];omega
  ·split
   ·simp [strOfNums_size];omega
   ·split <;> simp [strOfNums_size] <;> omega
variable {w':Ag}{row:Option Nat}
theorem Yr (h:w.grownBy w' row)(o:Obj):w.grownBy (w'.alloc o) row:=Z8 h (World.grownBy_alloc _ _ _)
theorem Z7r {a:Ag}(h:w.grownBy w' row)(b:Ai w'.heap.size w' a):w.grownBy a row:=Z8 h ⟨b.os,b.tape,b.output,b.size,λk hk _=>b.block k hk⟩
theorem Src.below {g:Nat}{v:Af}{k:Nat}(h:Src w g v l k)(a:Ai w.heap.size w w'):Src w' g v l k:=
 ⟨Bk h.1 a.size,λi=>(a.frozen h.1).trans (h.2.1 i),h.2.2.1.below a,(a.cell h.1).trans h.2.2.2.1,(a.cell h.1).trans h.2.2.2.2⟩
theorem Z5w:Zf 16=1:=by decide
theorem pickK2:Zf 2=1:=by decide
theorem pickK3:Zf 3=1:=by decide
theorem pickK4:Zf 4=1:=by decide
theorem pickK10:Zf 10=1:=by decide
theorem Xj (g:Nat)(w:Ag)(v:Af)(l:List Int)(k:Nat)(e:Bool)(hL:l.length<=1048576)(hk:k<=800000000)(h:Src w g v l k) :
  Ar Ad 142 #[Ae (Ac ⟨g,0,Ab⟩),.bool e] w λr w'=>r=Aj (Az (Zi l k e).1)/\Src w' g v l (Zi l k e).2/\w.grownBy w' (Ac g):=by
 have p0:=Z6 l k 16;have p2:=Z6 l (k+1) 2;have p3:=Z6 l (k+1+1) 3;have o:=Z6 l (k+1) 3;have z:=Z6 l (k+1) 4;have n:=Z6 l (k+1+1) 10;have b1:=h.byte (k+1);have b2:=h.byte (k+1+1);have t:=Z0 h;have g0:True:=trivial;have g1:True:=trivial;have g2:True:=trivial;clear h;by_cases j:Z4 l k 16=0/\e=true
 ·obtain ⟨j,rfl⟩:=j
  have i:Zi l k true=(⟨#[]⟩,k+1):=by unfold Zi;rw [if_pos ⟨j,rfl⟩]
  rw [i];have u:=Z0 j;clear j p0 p2 p3 o z n i;go_enter func142,ntmps142
  go_wp2_with (go_at_call 53;clear g0;refine (Zk g _ v l k 16 hL (by omega) (by omega) (by omega) t).mono ?_;rintro r w1 ⟨rfl,a,c⟩;rw [Z5w] at a;rw [u.out])
  go_ret;exact ⟨rfl,a,c⟩
 have HE:Ah (Z4 l k 16=0->e=false):=λh=>by cases e with | false=>rfl | true=>exact absurd ⟨h,rfl⟩ j
 by_cases q:Z4 l k 16=1
 ·have i:Zi l k e=(strOfNums (List.replicate (64-Z4 l (k+1) 2) (97+(Z4 l (k+1+1) 3:Nat))),k+1+1+1):=by unfold Zi;rw [if_neg j,if_pos q]
  rw [i];have u:=Z0 q;clear j q HE p0 i o z n;have hn:((64:Int)-(Z4 l (k+1) 2:Nat))=((64-Z4 l (k+1) 2:Nat):Int):=by omega
  have HL:Ah (∀ w:Ag,Ar Ad 143 #[Aa O ((64:Int)-(Z4 l (k+1) 2:Nat)),Aa .u8 (97+(Z4 l (k+1+1) 3:Nat))] w λe w'=>e=Aj (Az (strOfNums (List.replicate (64-Z4 l (k+1) 2) (97+(Z4 l (k+1+1) 3:Nat)))))/\Ai w.heap.size w w'):=λw=>by
   rw [hn];exact Z8n _ _ (by omega) (by omega) (by omega) w
  clear hn;generalize strOfNums (List.replicate (64-Z4 l (k+1) 2) (97+(Z4 l (k+1+1) 3:Nat)))=S at HL ⊢;go_enter func142,ntmps142
  go_wp2_with (first
   |(go_at_call 53;clear g0;refine (Zk g _ v l k 16 hL (by omega) (by omega) (by omega) t).mono ?_;rintro r w1 ⟨rfl,a,c⟩;rw [Z5w] at a;rw [u.out])
   |(go_at_call 53;clear g1;refine (Zk g _ v l _ 2 hL (by omega) (by omega) (by omega) a).mono ?_;rintro r w2 ⟨rfl,b,f⟩;rw [pickK2] at b)
   |(go_at_call 53;clear g2;refine (Zk g _ v l _ 3 hL (by omega) (by omega) (by omega) b).mono ?_;rintro r w3 ⟨rfl,d,m⟩;rw [pickK3] at d)
   |(go_at_call 143;refine (HL _).mono ?_;rintro r w4 ⟨rfl,x⟩))
  go_ret;exact ⟨rfl,d.below x,Z7r (Z8 c (Z8 f m)) x⟩
 by_cases y:Z4 l k 16=2
 ·have i:Zi l k e=(strOfNums [Yo l (k+1),Yo l (k+1+1)],k+1+1+1):=by unfold Zi;rw [if_neg j,if_neg q,if_pos y]
  rw [i];have u:=Z0 y;clear j q y HE p0 i o z n p2 p3;obtain ⟨q1,q2⟩:=b1;obtain ⟨q3,q4⟩:=b2
  have p:Ah (∀ w:Ag,(convert 55 9 (I (Ac ⟨w.heap.size,0,Ab⟩) 2 2)).run Ad (w.alloc (At #[Aa .u8 (Yo l (k+1)),Aa .u8 (Yo l (k+1+1))] 5))=.ok (Az (strOfNums [Yo l (k+1),Yo l (k+1+1)])) (w.alloc (At #[Aa .u8 (Yo l (k+1)),Aa .u8 (Yo l (k+1+1))] 5))):=λw=>
   conv_bs ((Own.lit w [Yo l (k+1),Yo l (k+1+1)] #[Aa .u8 (Yo l (k+1)),Aa .u8 (Yo l (k+1+1))] rfl (by simp;omega) (by simp [maxLen])).bs (by simp [maxLen])) (by simp)
  generalize strOfNums [Yo l (k+1),Yo l (k+1+1)]=S at p ⊢;go_enter func142,ntmps142
  go_wp2_with (first
   |(go_at_call 53;clear g0;refine (Zk g _ v l k 16 hL (by omega) (by omega) (by omega) t).mono ?_;rintro r w1 ⟨rfl,a,c⟩;rw [Z5w] at a;rw [u.out])
   |(go_at_call 93;clear g1;refine (J1 g _ v l _ hL (by omega) a).mono ?_;rintro r w2 ⟨rfl,b,f⟩)
   |(go_at_call 93;clear g2;refine (J1 g _ v l _ hL (by omega) b).mono ?_;rintro r w3 ⟨rfl,d,m⟩;have s:=p.out w3))
  go_ret;exact ⟨rfl,d.below baq,Yr (Z8 c (Z8 f m)) _⟩
 by_cases c3:Z4 l k 16<11
 ·have i:Zi l k e=(strOfNums [97+(Z4 l (k+1) 4:Nat)],k+1+1):=by unfold Zi;rw [if_neg j,if_neg q,if_neg y,if_pos c3]
  rw [i]
  have p:Ah (∀ w:Ag,(convert 55 9 (I (Ac ⟨w.heap.size,0,Ab⟩) 1 1)).run Ad (w.alloc (At #[Aa .u8 (97+(Z4 l (k+1) 4:Nat))] 5))=.ok (Az (strOfNums [97+(Z4 l (k+1) 4:Nat)])) (w.alloc (At #[Aa .u8 (97+(Z4 l (k+1) 4:Nat))] 5))):=λw=>
   conv_bs ((Own.lit w [97+(Z4 l (k+1) 4:Nat)] #[Aa .u8 (97+(Z4 l (k+1) 4:Nat))] rfl (by simp;omega) (by simp [maxLen])).bs (by simp [maxLen])) (by simp)
  clear i o n p2 p3 b1 b2;generalize strOfNums [97+(Z4 l (k+1) 4:Nat)]=S at p ⊢;go_enter func142,ntmps142
  go_wp2_with (first
   |(go_at_call 53;clear g0;refine (Zk g _ v l k 16 hL (by omega) (by omega) (by omega) t).mono ?_;rintro r w1 ⟨rfl,a,c⟩;rw [Z5w] at a)
   |(go_at_call 53;clear g1;refine (Zk g _ v l _ 4 hL (by omega) (by omega) (by omega) a).mono ?_;rintro r w2 ⟨rfl,b,f⟩;rw [pickK4] at b;have s:=p.out w2))
  all_goals first
   |(go_ret;exact ⟨rfl,b.below baq,Yr (Z8 c f) _⟩)
   |(exfalso;first | omega | (have:=HE.out (by omega);simp_all))
 ·have i:Zi l k e=(strOfNums [97+(Z4 l (k+1) 3:Nat),48+(Z4 l (k+1+1) 10:Nat)],k+1+1+1):=by unfold Zi;rw [if_neg j,if_neg q,if_neg y,if_neg c3]
  rw [i]
  have p:Ah (∀ w:Ag,(convert 55 9 (I (Ac ⟨w.heap.size,0,Ab⟩) 2 2)).run Ad (w.alloc (At #[Aa .u8 (97+(Z4 l (k+1) 3:Nat)),Aa .u8 (48+(Z4 l (k+1+1) 10:Nat))] 5))=.ok (Az (strOfNums [97+(Z4 l (k+1) 3:Nat),48+(Z4 l (k+1+1) 10:Nat)])) (w.alloc (At #[Aa .u8 (97+(Z4 l (k+1) 3:Nat)),Aa .u8 (48+(Z4 l (k+1+1) 10:Nat))] 5))):=λw=>
   conv_bs ((Own.lit w [97+(Z4 l (k+1) 3:Nat),48+(Z4 l (k+1+1) 10:Nat)] #[Aa .u8 (97+(Z4 l (k+1) 3:Nat)),Aa .u8 (48+(Z4 l (k+1+1) 10:Nat))] rfl (by simp;omega) (by simp [maxLen])).bs (by simp [maxLen])) (by simp)
  clear i z p2 p3 b1 b2 HE;generalize strOfNums [97+(Z4 l (k+1) 3:Nat),48+(Z4 l (k+1+1) 10:Nat)]=S at p ⊢;go_enter func142,ntmps142
  go_wp2_with (first
   |(go_at_call 53;clear g0;refine (Zk g _ v l k 16 hL (by omega) (by omega) (by omega) t).mono ?_;rintro r w1 ⟨rfl,a,c⟩;rw [Z5w] at a)
   |(go_at_call 53;clear g1;refine (Zk g _ v l _ 3 hL (by omega) (by omega) (by omega) a).mono ?_;rintro r w2 ⟨rfl,b,f⟩;rw [pickK3] at b)
   |(go_at_call 53;clear g2;refine (Zk g _ v l _ 10 hL (by omega) (by omega) (by omega) b).mono ?_;rintro r w3 ⟨rfl,d,m⟩;rw [pickK10] at d;have s:=p.out w3))
  all_goals first
   |(go_ret;exact ⟨rfl,d.below baq,Yr (Z8 c (Z8 f m)) _⟩)
   |(exfalso;omega)
end
def Z50 (t v:Int):Bool:=inB t 0 1073741824 && (inB v 0 7 && (decide (0<t) || v == 0))
def stB (t v:Int)(l:List Ent):Bool:=Z50 t v && (decide (l.length<=4096) && Jq t 1 l)
theorem Z3i (t v:Int)(u:Af)(l:List Ent)(w:Ag)(p:Es w u l)(j:l.length<=1048576) :
  Ar Ad 101 #[Aw #[Aa O t,Aa O v,u]] w λe w'=>e=Aj (.bool (stB t v l))/\Ai w.heap.size w w':=by
 have n:=Z0 p;obtain ⟨y,x,a,cap,rfl,s⟩:=p;have b:Ah (Ai w.heap.size w (w.alloc (At #[Aa O t,Aa O v,I a l.length cap] 104))):=baq;have g1:True:=trivial;cases f:inB t 0 1073741824
 ·have e:stB t v l=false:=by simp [stB,Z50,f]
  rw [e];go_enter func101,ntmps101
  go_wp2_with (go_at_call 56;refine (Y2 t 0 _ _).mono ?_;rintro e d ⟨rfl,rfl⟩;rw [f])
  go_ret;exact ⟨rfl,b.out⟩
 ·cases g:inB v 0 7
  ·have e:stB t v l=false:=by simp [stB,Z50,f,g]
   rw [e];go_enter func101,ntmps101
   go_wp2_with (first
    |(go_at_call 56;clear g1;refine (Y2 t 0 _ _).mono ?_;rintro e d ⟨rfl,rfl⟩;rw [f])
    |(go_at_call 56;refine (Y2 v 0 7 _).mono ?_;rintro e d ⟨rfl,rfl⟩;rw [g]))
   go_ret;exact ⟨rfl,b.out⟩
  ·by_cases i:t=0/\v≠0
   ·obtain ⟨rfl,i⟩:=i
    have e:stB 0 v l=false:=by simp [stB,Z50,i]
    rw [e];go_enter func101,ntmps101
    go_wp2_with (first
     |(go_at_call 56;clear g1;refine (Y2 0 0 _ _).mono ?_;rintro e d ⟨rfl,rfl⟩;rw [f])
     |(go_at_call 56;refine (Y2 v 0 7 _).mono ?_;rintro e d ⟨rfl,rfl⟩;rw [g]))
    go_ret;exact ⟨rfl,b.out⟩
   ·have q:Z50 t v=true:=by
     have:=(Zj _ _ _).1 f;simp only [Z50,f,g,Bool.true_and,Bool.or_eq_true,decide_eq_true_eq,beq_iff_eq];omega
    have e:stB t v l=(decide (l.length<=4096) && Jq t 1 l):=by simp [stB,q]
    rw [e];by_cases o:l.length<=4096
    ·rw [decide_eq_true o,Bool.true_and]
     have c:=λh=>Decidable.byContradiction λh'=>i ⟨h,h'⟩
     by_cases m:t=0
     ·obtain rfl:=m
      obtain rfl:=c rfl;go_enter func101,ntmps101
      go_wp2_with (first
       |(go_at_call 56;clear g1;refine (Y2 0 0 _ _).mono ?_;rintro e d ⟨rfl,rfl⟩;rw [f])
       |(go_at_call 56;refine (Y2 0 0 7 _).mono ?_;rintro e d ⟨rfl,rfl⟩;rw [g])
       |(go_at_call 57;refine (Z21 _ 1 0 l _ (n.below b.out) j).mono ?_;rintro e r ⟨rfl,k⟩))
      go_ret;exact ⟨rfl,b.out.trans (k.mono (by simp))⟩
     ·clear c
      go_enter func101,ntmps101
      go_wp2_with (first
       |(go_at_call 56;clear g1;refine (Y2 t 0 _ _).mono ?_;rintro e d ⟨rfl,rfl⟩;rw [f])
       |(go_at_call 56;refine (Y2 v 0 7 _).mono ?_;rintro e d ⟨rfl,rfl⟩;rw [g])
       |(go_at_call 57;refine (Z21 _ 1 t l _ (n.below b.out) j).mono ?_;rintro e r ⟨rfl,k⟩))
      go_ret;exact ⟨rfl,b.out.trans (k.mono (by simp))⟩
    ·rw [decide_eq_false o,Bool.false_and]
     have c:=λh=>Decidable.byContradiction λh'=>i ⟨h,h'⟩
     by_cases m:t=0
     ·obtain rfl:=m
      obtain rfl:=c rfl;go_enter func101,ntmps101
      go_wp2_with (first
       |(go_at_call 56;clear g1;refine (Y2 0 0 _ _).mono ?_;rintro e d ⟨rfl,rfl⟩;rw [f])
       |(go_at_call 56;refine (Y2 0 0 7 _).mono ?_;rintro e d ⟨rfl,rfl⟩;rw [g]))
      go_ret;exact ⟨rfl,b.out⟩
     ·clear c
      go_enter func101,ntmps101
      go_wp2_with (first
       |(go_at_call 56;clear g1;refine (Y2 t 0 _ _).mono ?_;rintro e d ⟨rfl,rfl⟩;rw [f])
       |(go_at_call 56;refine (Y2 v 0 7 _).mono ?_;rintro e d ⟨rfl,rfl⟩;rw [g]))
      go_ret;exact ⟨rfl,b.out⟩
def newB (id sz el bt t v:Int)(l:List Ent):Bool:=Yp id sz el bt && (stB t v l && decide (v<=sz))
theorem Z3j:(Tryz.prog.info? 36).map (·.size)=Ac 18:=by kernel_rfl
def NewAt (w w':Ag)(x:Ending)(id sz el bt t v dr:Int)(l:List Ent):Prop:=
 if newB id sz el bt t v l then ∃ b c,x=Aj (Aw #[Aa O id,Aa O sz,Aa O el,Aa O bt,Aa O t,Aa O v,Aa O 0,Aa O 0,Aa O 0,Aa O 0,Aa O (Jf el dr),Aa O 0,I b l.length c,I Ab 0 0,I Ab 0 0,I Ab 0 0,I Ab 0 0,I Ab 0 0])/\Zh w' w.heap.size (I b l.length c) l/\Ai w.heap.size w w'
 else x=Aj (Aw #[Aa O 0,Aa O 0,Aa O 0,Aa O 0,Aa O 0,Aa O 0,Aa O 0,Aa O 0,Aa O 0,Aa O 0,Aa O 0,Aa O 0,I Ab 0 0,I Ab 0 0,I Ab 0 0,I Ab 0 0,I Ab 0 0,I Ab 0 0])/\Ai w.heap.size w w'
theorem Z8q (w:Ag)(e:Ent):Ja (w.alloc (At (eqN e.t e.cl e.sq e.op e.k e.v e.o) 118)) w.heap.size 0 e:=by
 refine ⟨?_,?_,?_,?_,?_,?_,?_⟩ <;> simp
theorem Z4z (v:Af)(l:List Ent)(w:Ag)(hv:Es w v l)(y:l.length<=1000000) :
  Ar Ad 102 #[v] w λe w'=>∃ h,e=.returned h/\Zh w' w.heap.size h l/\Ai w.heap.size w w':=by
 obtain ⟨hm,u,a,cap,rfl,t⟩:=hv;unfold maxLen at hm;go_enter func102,ntmps102;go_wp2
 go_loopw [3,4] (λs i wr=>∃ k:Nat,k<=l.length/\i=Aa O k/\Zh wr w.heap.size s (l.take k)/\Ai w.heap.size w wr) (λ_ i _=>l.length-(B0 i).toNat)
 case atStart=>exact ⟨0,Bb _,rfl,Zh.made w _ (Ao _),baq⟩
 case round=>
  obtain ⟨k,hk,rfl,g,f⟩:=hrel;have hz:=f.size;by_cases c:k<l.length
  ·obtain ⟨b,aa,rfl,r⟩:=t k c
   have o:=u l[k] (Bp c);obtain ⟨c0,c1,c2,c3,c4,c5,c6⟩:=(r k c).below f;obtain ⟨a3,q,rfl⟩:=g.shape;have d:(l.take k).length=k:=by rw [List.length_take];omega
   have z:=Z0 (List.take_succ_eq_append_getElem c);have p:=Z0 g;have m:=Z0 f;generalize l[k]=e at *
   go_wp2_with (at_builtin;refine Xv rfl _ _ rfl e o (p.below baq) rfl _ 1 (Z8q wr e) rfl (by rw [d];omega) (by simp;omega) ?_;intro h w' j x;have n:=growE x (p.below baq) (by simp;omega))
   go_roundw
   case rel=>exact ⟨k+1,by omega,by go_num,z.out▸j,(m.alloc hz _).trans n⟩
   case measure=>simp [B0];omega
  ·go_wp2
   go_ret;rw [List.take_of_length_le (by omega)] at g;exact ⟨_,rfl,g,f⟩
theorem sNewNode_any (id sz el bt t v dr:Int)(a:Option Addr)(cap:Nat)(l:List Ent)(w:Ag)(hv:Es w (I a l.length cap) l)(u:l.length<=1048576)(hd1 : -(2^63)<=dr)(ag:dr<2^63) :
  Ar Ad 63 #[Aa O id,Aa O sz,Aa O el,Aa O bt,Aw #[Aa O t,Aa O v,I a l.length cap],Aa O dr] w λx w'=>NewAt w w' x id sz el bt t v dr l:=by
 have HV:=Z0 hv;unfold NewAt;cases hp:Yp id sz el bt
 ·rw [show newB id sz el bt t v l=false by simp [newB,hp]]
  simp only [Bool.false_eq_true,if_false];go_enter func63,ntmps63
  go_wp2_with (first
   |(go_at_call 58;refine sw (Z1b _ _ _ _ _) ?_;rw [hp])
   |(refine Zn 36 _ _ rfl ?_;refine Zt rfl 36 _ _ rfl _ rfl (by simp) rfl Z3j rfl rfl (by simp [Bh]) ?_))
  exact A8 (v:=.agg _) (Zl results63 rfl (Blk.new' _ _ _) underlying36 rfl Z3j rfl) rfl ⟨rfl,baq.alloc (by simp) _⟩
 cases r:stB t v l
 ·rw [show newB id sz el bt t v l=false by simp [newB,r]]
  simp only [Bool.false_eq_true,if_false];go_enter func63,ntmps63
  go_wp2_with (first
   |(go_at_call 58;refine sw (Z1b _ _ _ _ _) ?_;rw [hp])
   |(go_at_call 101;refine (Z3i t v _ l _ (HV.below (baq.alloc (by simp) _)) u).mono ?_;rintro e w1 ⟨rfl,f⟩;rw [r];have hz:=(by have:=f.size;simp at this;omega);have j:=((Blk.new w _ _).alloc _).below f (by simp;omega);have m:=(Blk.new' (w.alloc _) _ _ (k:=w.heap.size+1) (by simp)).below f (by simp);have p:=Z0 ((((An w.heap.size w).alloc (Ao _) _).alloc (by simp) _).trans (f.mono (by simp;omega)));have cS:=j.cell;clear f)
   |(have y:=m;refine Zn 36 _ _ rfl ?_;clear y;refine Zg rfl 36 _ _ rfl _ rfl rfl m Z3j rfl rfl (by simp [Bh]) ?_))
  exact A8 (v:=.agg _) (Zl results63 rfl (m.row _) underlying36 rfl Z3j rfl) rfl ⟨rfl,Yz p (by omega) _⟩
 by_cases aa:v<=sz
 case neg=>
  rw [show newB id sz el bt t v l=false by simp [newB,aa]];simp only [Bool.false_eq_true,if_false];have ax:sz<v:=by omega
  go_enter func63,ntmps63
  go_wp2_with (first
   |(go_at_call 58;refine sw (Z1b _ _ _ _ _) ?_;rw [hp])
   |(go_at_call 101;refine (Z3i t v _ l _ (HV.below (baq.alloc (by simp) _)) u).mono ?_;rintro e w1 ⟨rfl,f⟩;rw [r];have hz:=(by have:=f.size;simp at this;omega);have j:=((Blk.new w _ _).alloc _).below f (by simp;omega);have m:=(Blk.new' (w.alloc _) _ _ (k:=w.heap.size+1) (by simp)).below f (by simp);have p:=Z0 ((((An w.heap.size w).alloc (Ao _) _).alloc (by simp) _).trans (f.mono (by simp;omega)));have cS:=j.cell;clear f)
   |(have y:=m;refine Zn 36 _ _ rfl ?_;clear y;refine Zg rfl 36 _ _ rfl _ rfl rfl m Z3j rfl rfl (by simp [Bh]) ?_))
  exact A8 (v:=.agg _) (Zl results63 rfl (m.row _) underlying36 rfl Z3j rfl) rfl ⟨rfl,Yz p (by omega) _⟩
 rw [show newB id sz el bt t v l=true by simp [newB,hp,r,aa]];simp only [if_true];have aw:l.length<=4096:=by simp only [stB,Al,decide_eq_true_eq] at r;exact r.2.1
 go_enter func63,ntmps63
 go_wp2_with (first
  |(go_at_call 58;refine sw (Z1b _ _ _ _ _) ?_;rw [hp])
  |(go_at_call 101;refine (Z3i t v _ l _ (HV.below (baq.alloc (by simp) _)) u).mono ?_;rintro e w1 ⟨rfl,f⟩;rw [r];have hz:=(by have:=f.size;simp at this;omega);have j:=((Blk.new w _ _).alloc _).below f (by simp;omega);have m:=(Blk.new' (w.alloc _) _ _ (k:=w.heap.size+1) (by simp)).below f (by simp);have p:=Z0 ((((An w.heap.size w).alloc (Ao _) _).alloc (by simp) _).trans (f.mono (by simp;omega)));have cS:=j.cell;clear f))
 refine Z3q [Ac 31,Ac 32,Ac 33,Ac 34,Ac 35,Ac 36,Ac 37,Ac 38,Ac 39,Ac 40,Ac 41,Ac 42,Ac 43,Ac 44,Ac 45] [Vl (Aa O id),Vl (Aa O sz),Vl (Aa O el),Vl (Aa O bt),Vl (Ae (Ac ⟨w.heap.size,0,Ab⟩)),Vl (Aa O t),Vl (Ae (Ac ⟨w.heap.size,1,Ab⟩)),Vl (Aa O v),Vl (Ae (Ac ⟨w.heap.size,2,Ab⟩)),Vl (I a l.length cap),λv9 W9=>∃ b c,v9=I b l.length c/\Zh W9 w1.heap.size (I b l.length c) l,Vl (Aa O el),Vl (Aa O dr),Vl (Aa O (Jf el dr)),λv9 W9=>∃ b c,v9=Aw (nqN id sz el bt t v 0 0 0 0 (Jf el dr) 0 (I b l.length c) (I Ab 0 0) (I Ab 0 0) (I Ab 0 0) (I Ab 0 0) (I Ab 0 0))/\Zh W9 w1.heap.size (I b l.length c) l] (by kernel_rfl) rfl rfl rfl (by decide) (by decide) (Yk (X9 _) (Yk (X9 _) (Yk (X9 _) (Yk (X9 _) (Yk (X9 _) (Yk (X9 _) (Yk (X9 _) (Yk (X9 _) (Yk (X9 _) (Yk (X9 _) (Yk (λ_ _ _ hb h=>(by obtain ⟨g,i,s,ho⟩:=h;exact ⟨g,i,s,ho.below hb⟩)) (Yk (X9 _) (Yk (X9 _) (Yk (X9 _) (Yk (λ_ _ _ hb h=>(by obtain ⟨g,i,s,ho⟩:=h;exact ⟨g,i,s,ho.below hb⟩)) sta_n))))))))))))))) (Zq (Zq (Zq (Zq (Zq (Zq (Zq (Zq (Zq (Zq (Zq (Zq (Zq (Zq (Zq lt_z (QO.move rfl rfl rfl rfl (.inl rfl) (λa9 o9=>o9 0 (Aa O id) rfl rfl))) (QO.move rfl rfl rfl rfl (.inl rfl) (λa9 o9=>o9 1 (Aa O sz) rfl rfl))) (QO.move rfl rfl rfl rfl (.inl rfl) (λa9 o9=>o9 2 (Aa O el) rfl rfl))) (QO.move rfl rfl rfl rfl (.inl rfl) (λa9 o9=>o9 3 (Aa O bt) rfl rfl))) ?_) ?_) ?_) ?_) ?_) ?_) ?_) (QO.move rfl rfl rfl rfl (.inl rfl) (λa9 o9=>o9 2 (Aa O el) rfl rfl))) (QO.move rfl rfl rfl rfl (.inl rfl) (λa9 o9=>o9 5 (Aa O dr) rfl rfl))) ?_) ?_) λa9 u9 n9 o9 s9 d9 b9=>?_
 ·refine QO.val λa9 u9 n9 o9 b9=>?_
  have q:=Zu (o9 10 (Ae (Ac ⟨w.heap.size,0,Ab⟩)) rfl rfl);go_simp
 ·refine QO.val λa9 u9 n9 o9 b9=>?_
  have cc:=(j.below b9 j.lt).cell 0;have ai:=Zu (n9 4 _ _ rfl rfl rfl);go_simp
 ·refine QO.val λa9 u9 n9 o9 b9=>?_
  have q:=Zu (o9 10 (Ae (Ac ⟨w.heap.size,0,Ab⟩)) rfl rfl);go_simp
 ·refine QO.val λa9 u9 n9 o9 b9=>?_
  have cc:=(j.below b9 j.lt).cell 1;have aq:=Zu (n9 6 _ _ rfl rfl rfl);go_simp
 ·refine QO.val λa9 u9 n9 o9 b9=>?_
  have q:=Zu (o9 10 (Ae (Ac ⟨w.heap.size,0,Ab⟩)) rfl rfl);go_simp
 ·refine QO.val λa9 u9 n9 o9 b9=>?_
  have cc:=(j.below b9 j.lt).cell 2;have al:=Zu (n9 8 _ _ rfl rfl rfl);go_simp
 ·refine QO.call (N:=102) rfl rfl rfl rfl rfl (λ_ _=>by go_simp) λa9 u9 n9 o9 b9=>?_
  have ab:Tv a9 40=_:=n9 9 _ _ rfl rfl rfl;simp only [Bm,Bq,Bu,ab];refine Calls.mono (Z4z _ l _ (HV.below (p.trans (b9.mono p.size))) (by omega)) ?_;rintro e z ⟨v2,rfl,ho,hb⟩;exact ⟨hb,_,rfl,(by obtain ⟨g,i,rfl⟩:=ho.shape;exact ⟨g,i,rfl,ho.le b9.size⟩)⟩
 ·refine QO.call (N:=103) rfl rfl rfl rfl rfl (λ_ _=>by go_simp) λa9 u9 n9 o9 b9=>?_
  have ad:Tv a9 42=_:=n9 11 _ _ rfl rfl rfl;have ac:Tv a9 43=_:=n9 12 _ _ rfl rfl rfl;simp only [Bm,Bq,Bu,ad,ac];refine Calls.mono (Z3t el dr hd1 ag _) ?_;rintro e z ⟨rfl,af⟩;exact ⟨(af▸An _ _),_,rfl,rfl⟩
 ·refine ⟨_,_,rfl,rfl,rfl,rfl,λa9 u9 K9 n9 o9 b9 k9=>?_⟩
  obtain ⟨g,i,s,o⟩:=n9 10 _ _ rfl rfl rfl;have ak:=Zu (n9 0 _ _ rfl rfl rfl);have ao:=Zu (n9 1 _ _ rfl rfl rfl);have av:=Zu (n9 2 _ _ rfl rfl rfl);have am:=Zu (n9 3 _ _ rfl rfl rfl);have aj:=Zu (n9 5 _ _ rfl rfl rfl);have ar:=Zu (n9 7 _ _ rfl rfl rfl);have an:=Zu s;have au:=Zu (n9 13 _ _ rfl rfl rfl);refine Z0z (v:=.agg _) ?_ (k9 _ _ (An _ _) ⟨g,i,rfl,o⟩);go_simp
 ·obtain ⟨g,i,s,o⟩:=n9 14 _ _ (by decide) rfl rfl
  have p1:=m.below b9 m.lt;refine Zs rfl rfl (Z0a 36 _ _ rfl _ (o9 12 _ rfl rfl) s p1 Z3j rfl rfl (by simp [Bh]) ?_);have hz:=p.size;have p2:=p1.row (nqN id sz el bt t v 0 0 0 0 (Jf el dr) 0 (I g l.length i) (I Ab 0 0) (I Ab 0 0) (I Ab 0 0) (I Ab 0 0) (I Ab 0 0));have ae:Zh (u9.setRow (w.heap.size+1) (nqN id sz el bt t v 0 0 0 0 (Jf el dr) 0 (I g l.length i) (I Ab 0 0) (I Ab 0 0) (I Ab 0 0) (I Ab 0 0) (I Ab 0 0))) w1.heap.size (I g l.length i) l:=o.block λk hk=>setRow_other _ _ _ _ (by have h9:=(o.2.lt k hk).1;have h8:=m.lt;omega)
  have ah:Ai w.heap.size w (u9.setRow (w.heap.size+1) (nqN id sz el bt t v 0 0 0 0 (Jf el dr) 0 (I g l.length i) (I Ab 0 0) (I Ab 0 0) (I Ab 0 0) (I Ab 0 0) (I Ab 0 0))):=Yz (p.trans (b9.mono hz)) (by omega) _;obtain ⟨d,rfl⟩:=SzD.opened (n:=46) ⟨s9.trans rfl,d9.trans rfl⟩;rw [show lst d 0 46 = [d 0,d 1,d 2,d 3,d 4,d 5,d 6,d 7,d 8,d 9,d 10,d 11,d 12,d 13,d 14,d 15,d 16,d 17,d 18,d 19,d 20,d 21,d 22,d 23,d 24,d 25,d 26,d 27,d 28,d 29,d 30,d 31,d 32,d 33,d 34,d 35,d 36,d 37,d 38,d 39,d 40,d 41,d 42,d 43,d 44,d 45] from rfl]
  try dsimp only
  rw [show d 12=_ from o9 12 (Ae (Ac ⟨w.heap.size+1,0,Ab⟩)) rfl rfl]
  (try go_wp2)
  exact A8 (v:=.agg _) (Zl results63 rfl p2 underlying36 rfl Z3j rfl) rfl ⟨g,i,rfl,ae.le (by omega),ah⟩
def setL (xs:List Af):Nat->List Af->List Af
 | _,[]=>xs
 | o,v :: vs=>setL (xs.set o v) (o+1) vs
theorem setL_app (a:List Af):∀(vs xs:List Af) (o:Nat),setL (a ++ xs) (a.length+o) vs=a ++ setL xs o vs
 | [],_,_=>rfl
 | v :: vs,xs,o=>by
  rw [setL,setL,List.set_append,ifo,show a.length+o-a.length=o by omega];exact setL_app a vs _ (o+1)
theorem Z2t {a e size g n cap:Nat} : ∀(vs:List Af) (w:Ag) (xs:List Af) (o:Nat),w.ownsRow a e size (I (Ac ⟨g,0,Ab⟩) n cap) n xs->(w.setCells g o vs).ownsRow a e size (I (Ac ⟨g,0,Ab⟩) n cap) n (setL xs o vs)
 | [],_,_,_,h=>h
 | v :: vs,w,xs,o,h=>Z2t vs (w.setCell ⟨g,o,Ab⟩ v) (xs.set o v) (o+1) (h.stored o v).1
theorem Own.store {w:Ag}{B g cap:Nat}{l:List Int}(h:Own w B (I (Ac ⟨g,0,Ab⟩) l.length cap) l)(j:Nat)(x:Int)(a:0<=x/\x<=255) :
  Own (w.setCell ⟨g,j,Ab⟩ (Aa .u8 x)) B (I (Ac ⟨g,0,Ab⟩) l.length cap) (l.set j x):=by
 refine ⟨λy hy=>?_,?_⟩
 ·rcases List.mem_or_eq_of_mem_set hy with hy | rfl
  ·exact h.1 y hy
  ·exact a
 ·have:=(h.2.stored j (Aa .u8 x)).1
  simpa [List.map_set] using this
def Z5c (a b:Ent):Bool:=a.cl == b.cl && (a.sq == b.sq && (a.op == b.op && (a.k.toList == b.k.toList && (a.v.toList == b.v.toList && a.o.toList == b.o.toList))))
theorem eqCmd_run (d:Nat)(a b:Ent)(w:Ag):(Op.equalIn (d+2) 44 (Aw (cqN a.cl a.sq a.op a.k a.v a.o)) (Aw (cqN b.cl b.sq b.op b.k b.v b.o))).run Ad w=.ok (Z5c a b) w:=by
 have m:=underlying3;have l:=underlying9;have e:Tryz.prog.underlying 44=Ac (.struct (Tryz.prog.fieldsOf 44)):=by kernel_rfl
 rw [run_equalIn_agg w (d+1) 44 _ _ e (by kernel_rfl)];simp only [Program.fieldsOf,underlying44];unfold Z5c;go_simp;by_cases f:a.cl=b.cl <;> by_cases g:a.sq=b.sq <;> by_cases h:a.op=b.op <;> by_cases j:a.k.toList=b.k.toList <;> by_cases c:a.v.toList=b.v.toList <;> by_cases i:a.o.toList=b.o.toList <;> simp [f,g,h,j,c,i]
theorem eqEnt_run (d:Nat)(a b:Ent)(w:Ag):(Op.equalIn (d+3) 118 (Aw (eqN a.t a.cl a.sq a.op a.k a.v a.o)) (Aw (eqN b.t b.cl b.sq b.op b.k b.v b.o))).run Ad w=.ok (a.t == b.t && Z5c a b) w:=by
 have g:=underlying3;have f:=λw=>eqCmd_run d a b w
 have c:Tryz.prog.underlying 118=Ac (.struct (Tryz.prog.fieldsOf 118)):=by kernel_rfl
 rw [run_equalIn_agg w (d+2) 118 _ _ c (by kernel_rfl)];simp only [Program.fieldsOf,underlying118];go_simp;by_cases e:a.t=b.t <;> simp [e]
 cases Z5c a b <;> simp
theorem Z6o {a b:ByteArray}(h:a.toList=b.toList):a=b:=by
 have e:a.data.toList=b.data.toList:=by rw [<-ByteArray.toList_eq,<-ByteArray.toList_eq];exact h
 cases a;cases b;congr 1;exact Array.toList_inj.1 e
theorem cmdEqB_iff (a b:Ent):Z5c a b=true↔a.cl=b.cl/\a.sq=b.sq/\a.op=b.op/\a.k=b.k/\a.v=b.v/\a.o=b.o:=by
 simp only [Z5c,Al,beq_iff_eq];exact ⟨λ⟨h1,h2,h3,h4,h5,h6⟩=>⟨h1,h2,h3,Z6o h4,Z6o h5,Z6o h6⟩,λ⟨h1,h2,h3,h4,h5,h6⟩=>⟨h1,h2,h3,by rw [h4],by rw [h5],by rw [h6]⟩⟩
def Z6l (a b:Ent):Bool:=a.t == b.t && Z5c a b
def Z2h:List Ent->List Ent->Nat
 | a :: l,b :: l'=>if Z6l a b then Z2h l l'+1 else 0
 | _,_=>0
theorem comK_le:∀(l l':List Ent),Z2h l l'<=l.length/\Z2h l l'<=l'.length
 | [],l'=>by simp [Z2h]
 | a :: l,[]=>by simp [Z2h]
 | a :: l,b :: l'=>by
  have:=comK_le l l';unfold Z2h;split <;> simp <;> omega
theorem comK_step (l a:List Ent)(k:Nat)(h:k<l.length)(b:k<a.length):Z2h (l.drop k) (a.drop k)=if Z6l l[k] a[k] then Z2h (l.drop (k+1)) (a.drop (k+1))+1 else 0:=by
 rw [List.drop_eq_getElem_cons h,List.drop_eq_getElem_cons b];rfl
theorem comK_end (l a:List Ent)(k:Nat)(h:¬(k<l.length/\k<a.length)):Z2h (l.drop k) (a.drop k)=0:=by
 rcases Nat.lt_or_ge k l.length with h1 | h1
 ·have b:a.drop k = []:=List.drop_of_length_le (by omega)
  rw [b];cases l.drop k <;> rfl
 ·rw [List.drop_of_length_le h1]
  rfl
theorem entEqB_eq (a b:Ent):Z6l a b=true↔a=b:=by
 obtain ⟨t,cl,sq,op,k,v,o⟩:=a;obtain ⟨f,d,e,c,g,h,o'⟩:=b;simp only [Z6l,Al,beq_iff_eq,cmdEqB_iff,Ent.mk.injEq]
end Go.Proofs.YtmmpoppgabadmaaGreat
