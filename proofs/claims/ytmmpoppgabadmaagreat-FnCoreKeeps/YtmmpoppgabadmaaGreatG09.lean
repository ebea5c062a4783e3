import Derived.Test.YtmmpoppgabadmaaGreatG05
import Derived.Test.YtmmpoppgabadmaaGreatG08
set_option linter.unusedVariables false
set_option linter.unusedSimpArgs false
set_option maxRecDepth 100000
set_option maxHeartbeats 16000000
open Go.Value renaming slice → I,int → Aa,pointer → Ae,agg → Aw
open Go.IntKind renaming i64 → O
open _root_.Option renaming none → Ab,some → Ac
open Go.Proofs.Tryz renaming prog → Ad
open Go.RowKit renaming Hid → Ah,Below → Ai
open Go.Ending renaming returned → Aj
open Go.RowKit.Below renaming heap_setCell → Ak,refl → An
open Go.Calls renaming mono → Am
open _root_.Nat renaming le_trans → Ap,le_of_lt → Be,lt_or_ge → B1
open Go renaming results_none → Au,bodyPost_ret → A8
open Go.Exit renaming inBlock → Av
namespace Go.Proofs.YtmmpoppgabadmaaGreat
open Go.Proofs.Tryz
open Go.RowKit
variable {w:World}{B b:Nat}{r:Rn}{x:RV}{v:Value}
theorem Ze.logNew {wr:World}{g:List Ent}(h:Ze w B b r x)(o:Ai w.heap.size w wr)(e:Zh wr w.heap.size v g) :
  Ze (wr.setCell ⟨b,12,Ab⟩ v) B b { r with n:={ r.n with log:=g } } { x with vl:=v }/\Ai B w (wr.setCell ⟨b,12,Ab⟩ v)/\w.grownBy (wr.setCell ⟨b,12,Ab⟩ v) (Ac b):=by
 have d:=h.below o;have j:∀ k,k≠b->(wr.setCell ⟨b,12,Ab⟩ v).heap[k]? = wr.heap[k]?:=λk j=>Ak _ _ _ _ j
 have f:∀ {α:Type} {cs:α->List Value} {m:Nat} {T:TypeId} {v':Value} {l:List α},T≠112->Zc cs m T wr B v' l->Zc cs m T (wr.setCell ⟨b,12,Ab⟩ v) B v' l:=λhT e=>e.block λk hk'=>j k (Zm e d.blk hT k hk')
 have q:∀ {v':Value} {l:List Ent},Zh wr B v' l->Zh (wr.setCell ⟨b,12,Ab⟩ v) B v' l:=λe=>e.block λk hk'=>j k (Y5 e d.blk (by decide) k hk')
 have i:=Ap h.lo (Be h.lt);exact ⟨⟨d.blk.set 12 v,h.lo,q (e.le i),f (by decide) d.gr,f (by decide) d.nx,f (by decide) d.mt,f (by decide) d.se,f (by decide) d.st,f (by decide) d.out,d.outC,λp hp=>q (d.ents p hp),h.ap⟩,(o.mono i).setCell (p:=⟨b,12,Ab⟩) h.lo v,Z8 (gb_of _ o) (Rd.frame 12 _)⟩
variable {l:List Ent}
theorem Es.elder {w':World}(h:Es w v l)(f:∀ k,v.ownBlock=Ac k->k<B)(d:Ai B w w'):Es w' v l:=by
 obtain ⟨t,hf,a,cap,rfl,hc⟩:=h;refine ⟨t,hf,a,cap,rfl,λi hi=>?_⟩;obtain ⟨g,m,rfl,hj⟩:=hc i hi;refine ⟨g,m,rfl,λj h=>?_⟩;obtain ⟨o,s,y,u,q,z,c6⟩:=hj j h;have e:g<B:=f g rfl;exact ⟨(d.cell (p:=⟨g,_,Ab⟩) e).trans o,(d.cell (p:=⟨g,_,Ab⟩) e).trans s,(d.cell (p:=⟨g,_,Ab⟩) e).trans y,(d.cell (p:=⟨g,_,Ab⟩) e).trans u,(d.cell (p:=⟨g,_,Ab⟩) e).trans q,(d.cell (p:=⟨g,_,Ab⟩) e).trans z,(d.cell (p:=⟨g,_,Ab⟩) e).trans c6⟩
variable {a:Option Addr}{n c:Nat}
theorem Es.take (h:Es w (I a n c) l)(k:Nat)(q:k<=l.length):Es w (I a k c) (l.take k):=by
 obtain ⟨s,o,p,t,e,g⟩:=h;simp only [Value.slice.injEq] at e;obtain ⟨rfl,-,rfl⟩:=e;have d:(l.take k).length=k:=by rw [List.length_take];omega
 refine ⟨by omega,λe he=>o e (List.mem_of_mem_take he),a,c,by rw [d],λi hi=>?_⟩;obtain ⟨b,f,rfl,m⟩:=g i (by omega);refine ⟨b,f,rfl,λj h=>?_⟩;rw [List.getElem_take];exact m j (by omega)
theorem parts_le (log:List Ent):∀(es:List Ent) (p:Nat),p<=log.length->p+Y7 log p es<=log.length
 | [],p,h=>h
 | e :: es,p,h=>by
  rw [Y7];split
  ·rename_i hc
   have d:p<log.length:=by
    rcases B1 p log.length with h | h
    ·exact h
    ·rw [List.getElem?_eq_none h] at hc;cases hc
   have:=parts_le _ es (p+1) d;omega
  ·exact h
theorem parts_le2 (log:List Ent):∀(es:List Ent) (p:Nat),Y7 log p es<=es.length
 | [],p=>Nat.le_refl _
 | e :: es,p=>by
  rw [Y7];have:=parts_le2 log es (p+1);split <;> simp <;> omega
theorem Z83 (es:List Ent)(i k:Nat)(hi:i<=k)(d:k<es.length):(es.take (k+1)).drop i=(es.take k).drop i ++ [es[k]]:=by
 rw [List.take_succ_eq_append_getElem d,List.drop_append_of_le_length (by rw [List.length_take];omega)]
theorem Zh.sl3 (h:Zh w B v l):∃ a n c,v=I a n c:=by obtain ⟨a,c,e⟩:=h.shape;exact ⟨a,_,c,e⟩
theorem Zh.cap (h:Zh w B (I a n c) l):n<=c/\n=l.length/\(0<c->∃ g,a=Ac ⟨g,0,Ab⟩):=by
 obtain ⟨-,-,⟨e,e2⟩ | ⟨g,cap,f,e,-,-,d,-⟩⟩:=h
 ·simp only [Value.slice.injEq] at e
  obtain ⟨rfl,rfl,rfl⟩:=e;exact ⟨Nat.le_refl _,by omega,λh=>by omega⟩
 ·simp only [Value.slice.injEq] at e
  obtain ⟨rfl,rfl,rfl⟩:=e;exact ⟨d,rfl,λ_=>⟨g,rfl⟩⟩
theorem l4parts_run (h:Ze w B b r x)(o:NdB r.n)(m:Mg)(ea:Option Addr)(ec:Nat)(z:World)(q:Ai w.heap.size w z)(u:Es w (I ea m.es.length ec) m.es)(s:m.es.length<=32)(h0:0<=m.li)(h1:m.li<=4096):Calls Ad 151 #[Aw (ndC r.n x),Aw (m.arrC (I ea m.es.length ec))] z λe w'=>e=Aj (Aa O (Y7 r.n.log m.li.toNat m.es:Nat))/\Ai z.heap.size z w':=by
 have p:=(h.below q).es (by have:=o.ln;omega);obtain ⟨y,t,j⟩:=h.log.shape;obtain ⟨a13,c13,i⟩:=h.gr.shape;obtain ⟨a14,c14,k⟩:=h.nx.shape;obtain ⟨a15,c15,g⟩:=h.mt.shape;obtain ⟨a16,c16,f⟩:=h.se.shape;obtain ⟨a17,c17,d⟩:=h.st.shape;unfold ndC;rw [j] at p;rw [j,i,k,g,f,d];exact l4parts_any _ m y ea t ec _ _ _ _ _ z p (u.below q) (.mk _ _ _) (.mk _ _ _) (.mk _ _ _) (.mk _ _ _) (.mk _ _ _) (by have:=o.ln;omega) (by omega) h0 (by omega)
theorem J8 {o:Oper}{a:Act}{K:Act->World->Prop}{Q:Exit->Act->World->Prop}(y z:Operand)(e:o.op=.store 3 y z){i:Nat}{v u:Int}(f:a.eval y=Ae (Ac ⟨b,i,Ab⟩))(d:a.eval z=Aa O v)(g:w.cell? ⟨b,i,Ab⟩=Ac (Aa O u))(j:w.frozen? ⟨b,i,Ab⟩=false)(hd:o.dst=Ab)(h:K a (w.setCell ⟨b,i,Ab⟩ (Aa O v))):o.wp Ad a w K Q:=by
 unfold Oper.wp execOp;simp only [e,f,d];go_simp;exact h
def apB (n:Nd)(m:Mg):Bool:=decide ((n.log.length:Int)<m.li) || (decide (0<m.li) && (Zy n.log m.li.toNat != m.lt))
theorem apB_iff (n:Nd)(m:Mg)(h:0<=m.li):apB n m=true↔n.log.length<m.li.toNat∨(0<m.li/\Zy n.log m.li.toNat≠m.lt):=by
 unfold apB;simp only [Bool.or_eq_true,Bool.and_eq_true,decide_eq_true_eq,bne_iff_ne];constructor
 ·rintro (h1 | h1)
  ·left;omega
  ·exact .inr h1
 ·rintro (h1 | h1)
  ·left;omega
  ·exact .inr h1
def apR (r1:Rn)(m:Mg):Rn:=Rn.timer { r1.lone with n:={ r1.lone.n with ld:=m.fr,hd:=r1.n.nw } }
def apEnd (r:Rn)(m:Mg):Rn:=
 if apB r.n m=true then r.send ⟨6,0,m.fr,r.n.tm,m.li,0,0,0,min (r.n.log.length:Int) (m.li-1),[]⟩
 else if Y7 r.n.log m.li.toNat m.es<m.es.length/\m.li+(Y7 r.n.log m.li.toNat m.es:Nat)+1<=r.n.cm then r.stale
 else Rn.send { r with n:={ r.n with log:=if Y7 r.n.log m.li.toNat m.es<m.es.length then r.n.log.take (m.li.toNat+Y7 r.n.log m.li.toNat m.es) ++ m.es.drop (Y7 r.n.log m.li.toNat m.es) else r.n.log,cm:=max r.n.cm (min m.cm (m.li+m.es.length)) } } ⟨6,0,m.fr,r.n.tm,m.li+m.es.length,0,0,1,0,[]⟩
theorem append_eq (r:Rn)(m:Mg)(h:0<=m.li):r.append m=if m.tm<r.n.tm then r.send ⟨6,0,m.fr,r.n.tm,m.li,0,0,0,0,[]⟩ else if (r.higher m.tm).n.ro=3 then (r.higher m.tm).stale else apEnd (apR (r.higher m.tm) m) m:=by
 unfold Rn.append apEnd;split
 ·rfl
 simp only;split
 ·rfl
 by_cases d:apB (apR (r.higher m.tm) m).n m=true
 ·rw [if_pos d]
  exact if_pos ((apB_iff _ m h).1 d)
 ·rw [if_neg d]
  exact if_neg (λh'=>d ((apB_iff _ m h).2 h'))
theorem l4append_any (b:Nat)(r:Rn)(x:RV)(m:Mg)(ea:Option Addr)(ec:Nat)(w:World)(B:Nat)(h:Ze w B b r x)(he:Es w (I ea m.es.length ec) m.es)(gn:∀ k,(Value.slice ea m.es.length ec).ownBlock=Ac k->k<B)(hb:NdB r.n)(hd : -(2^63)<=r.draw)(hD:r.draw<2^63)(hl:x.L.length<=900)(br:0<=m.li)(fa:m.li<=4096)(h3:m.es.length<=32) :
  Calls Ad 123 #[Ae (Ac ⟨b,0,Ab⟩),Aw (m.arrC (I ea m.es.length ec))] w λe w'=>∃ x',e=Aj (.tuple #[])/\Ze w' B b (r.append m) x'/\Ai B w w':=by
 have al:=Z0 λz (hz:Ai w.heap.size w z)=>h.below hz
 have da:=Z0 λz (hz:Ai B w z)=>he.elder gn hz
 have fc:=Z0 λg e=>(h.out.lts g e).2
 have an:=Ap h.lo (Be h.lt);have ik:=h.lt;have HQ:Ah (r.append m=_):=append_eq r m br;have fn:=Z0 λz hz=>Z1u b r x m.tm z B hz hd hD hb.nw0 hb.nw1
 have a1:Ah (r.higher m.tm=if r.n.tm<m.tm then r.adopt m.tm else r):=rfl;obtain ⟨R1,ca⟩:=exq (r.higher m.tm);have ac:Ah (NdB R1.n):=by rw [ca];exact hb.higher m.tm
 have ep:Ah (-(2^63)<=R1.draw/\R1.draw<2^63):=by rw [ca,Z2q];exact ⟨hd,hD⟩
 rw [<-ca] at HQ a1;generalize r.append m=RP at *;obtain ⟨w1,ab⟩:=exq ((w.alloc (.cells (m.arrC (I ea m.es.length ec)) 43)).alloc (.cells (mqN 6 0 m.fr 0 m.li 0 0 0 0 (I Ab 0 0)) 43));have cv:Ah (Ai w.heap.size w w1):=by rw [ab];exact baq.alloc (by simp) _
 have du:Ah (Blk w1 w.heap.size (m.arrC (I ea m.es.length ec)) 43):=by rw [ab];exact (Blk.new _ _ _).alloc _
 have cr:Ah (Blk w1 (w.heap.size+1) (mqN 6 0 m.fr 0 m.li 0 0 0 0 (I Ab 0 0)) 43):=by rw [ab];exact Blk.new' _ _ _
 have fv:=cr.out.lt;clear h he ca;go_enter func123,ntmps123
 go_upto_region 2 with fail
 rw [<-ab];clear ab;have n3:w1.cell? ⟨w.heap.size,3,Ab⟩=Ac (Aa O m.tm):=du.out.cell 3;have k4:w1.cell? ⟨b,4,Ab⟩=Ac (Aa O r.n.tm):=(al _ cv).blk.cell 4;go_quiet (fail)
 obtain ⟨w4,dk⟩:=exq (w1.drewN nq);have bz:Ai w1.heap.size w1 w4:=by rw [dk];exact bdr
 rw [<-dk];have bi:=Z0 (cv.trans (bz.mono (by omega)));have dj:=Z0 (du.out.below bz);have a2:=Z0 (cr.out.below bz fv);have fi:=a2.out.lt;clear dk bz k4 n3 cv du cr fv
 go_upto_if 22 with fail
 by_cases ht:m.tm<r.n.tm
 ·have ai:=Z0 (HQ.trans (if_pos ht))
  have y:=decide_eq_true ht;have k4:w4.cell? ⟨b,4,Ab⟩=Ac (Aa O r.n.tm):=(al _ bi).blk.cell 4;have a3:w4.cell? ⟨w.heap.size+1,3,Ab⟩=Ac (Aa O 0):=a2.out.cell 3;have g3:=a2.out.free 3;obtain ⟨w6,am⟩:=exq (w4.setCell ⟨w.heap.size+1,3,Ab⟩ (Aa O r.n.tm));have gf:Ah (Blk w6 (w.heap.size+1) (mqN 6 0 m.fr r.n.tm m.li 0 0 0 0 (I Ab 0 0)) 43):=by rw [am];exact a2.out.set 3 _
  have a0:Ah (Ai w.heap.size w w6):=by rw [am];exact bi.setCell (p:=⟨w.heap.size+1,3,Ab⟩) (by show _<=w.heap.size+1;omega) _
  have ia:Ah _:=Z0t b r x ⟨6,0,m.fr,r.n.tm,m.li,0,0,0,0,[]⟩ Ab 0 w6 B (al _ a0) (Zh.nil _ _);have gx:=Z0 am;have G2:=Z0 trivial;rw [y];clear HQ ht y am
  go_wp2_with (first
   |(have bg:=G2;refine Zd 43 (.tmp 4) rfl ?_;clear bg;rw [<-gx.out];refine Z7 rfl 43 (.tmp 4) rfl (w.heap.size+1) rfl gf underlying43 rfl Yc rfl ?_;clear G2)
   |(go_at_call 146;refine Am ia ?_;rintro e w9 ⟨v9,y9,rfl,fe,ch,-⟩;have dw:Ah _:=fe;have db:=Z0 ((a0.mono an).trans ch);clear fe ch))
  (try simp only [Av,Exit.then])
  exact A8 (Au rfl _ _ _) rfl ⟨_,rfl,by rw [ai.out];exact dw,db.out⟩
 have bw:=Z0 (HQ.trans (if_neg ht));have y:=decide_eq_false ht;rw [y];clear HQ ht y;have n3:w4.cell? ⟨w.heap.size,3,Ab⟩=Ac (Aa O m.tm):=dj.out.cell 3;have k4:w4.cell? ⟨b,4,Ab⟩=Ac (Aa O r.n.tm):=(al _ bi).blk.cell 4
 go_upto_region 5 with fail
 go_quiet (fail)
 obtain ⟨w5,cx⟩:=exq (w4.drewN nq);have cg:Ai w4.heap.size w4 w5:=by rw [cx];exact bdr
 rw [<-cx];have ah:=Z0 (bi.trans (cg.mono (by omega)));have ad:=Z0 (dj.out.below cg);have af:=Z0 (a2.out.below cg fi);clear cx cg k4 n3 bi dj a2 fi;have n3:w5.cell? ⟨w.heap.size,3,Ab⟩=Ac (Aa O m.tm):=ad.out.cell 3
 go_upto_if 39 with fail
 go_cut [] (λwx=>∃ x1:RV,Ze wx B b R1 x1/\x1.L=x.L/\Ai B w wx/\Blk wx w.heap.size (m.arrC (I ea m.es.length ec)) 43/\Blk wx (w.heap.size+1) (mqN 6 0 m.fr 0 m.li 0 0 0 0 (I Ab 0 0)) 43/\x1.vo=x.vo)
 case first=>
  by_cases ht:r.n.tm<m.tm
  ·have y:=decide_eq_true ht
   have be:=Z0 (a1.trans (if_pos ht));rw [y];clear a1 ht y
   go_wp2_with (first
    |(go_at_call 149;refine (fn _ (al _ ah)).mono ?_;rintro e w6 ⟨rfl,h6,b6,g6⟩;have H6:=Z0 h6;have B6:=Z0 ((ah.mono an).trans b6);have M6:=Z0 (ad.out.grown g6);have A6:=Z0 (af.out.grown g6);clear h6 b6 g6))
   go_meet;exact ⟨x.lone,by rw [be.out];exact H6,rfl,B6.out,M6.out,A6.out,rfl⟩
  ·have y:=decide_eq_false ht
   have be:=Z0 (a1.trans (if_neg ht));rw [y];clear a1 ht y
   go_wp2_with (fail)
   go_meet;exact ⟨x,by rw [be.out];exact al _ ah,rfl,ah.mono an,ad.out,af.out,rfl⟩
 case rest=>
  obtain ⟨x1,hR,fp,dy,dz,b0,fs⟩:=hcut;obtain ⟨w6,am⟩:=exq (wc);rw [<-am] at hR dy dz b0;subst am;have aw:=Z0 hR;have a0:=Z0 dy;have fj:=Z0 dz;have et:=Z0 b0;have bh:Ah (∀ g,x1.vo.ownBlock=Ac g->g<w.heap.size):=by unfold Ah;rw [fs];exact fc
  have ev:Ah (x1.L.length<=900):=by unfold Ah;rw [fp];exact hl
  have k6:w6.cell? ⟨b,6,Ab⟩=Ac (Aa O R1.n.ro):=hR.blk.cell 6;clear hR dy dz b0 fs fp hl n3 al fn a1 hb ah ad af hd hD fc;by_cases ay:R1.n.ro=3
  ·have hx:(R1.n.ro == 3)=true:=by simpa using ay
   have ai:=Z0 (bw.trans (if_pos ay));have hs:w6.cell? ⟨b,19,Ab⟩=Ac (Aa O R1.code):=aw.blk.cell 19;have gz:=aw.blk.free 19;clear bw ay
   go_wp2_with (fail)
   (try simp only [Av,Exit.then])
   refine A8 (Au rfl _ _ _) rfl ⟨x1,rfl,?_,a0.trans (aw.setB 19 _)⟩;rw [ai.out];exact aw.set 19 _
  have hx:(R1.n.ro == 3)=false:=by simpa using ay
  obtain ⟨d,cd⟩:=exq (apR R1 m);have ai:Ah (RP=apEnd d m):=by have:=bw.trans (if_neg ay);rw [<-cd] at this;exact this
  obtain ⟨RA,ao⟩:∃ RA:Rn,RA={ R1.lone with n:={ R1.lone.n with ld:=m.fr,hd:=R1.n.nw } }:=⟨_,rfl⟩;have fd:Ah (d=RA.timer):=by rw [cd,ao];rfl
  have fl:Ah (NdB d.n):=by rw [cd];exact ⟨ac.nw0,ac.nw1,ac.nw0,Int.le_refl _,ac.sz0,ac.sz1,ac.id0,ac.id1,ac.ln⟩
  have ey:Ah (∀ z X,Ze z B b RA X->Calls Ad 115 #[Ae (Ac ⟨b,0,Ab⟩)] z λe w'=>e=Aj (.tuple #[])/\Ze w' B b d X/\Ai B z w'/\z.grownBy w' (Ac b)):=λz X hz=>by rw [fd.out];exact Z0x b RA X z B hz (by rw [ao];exact ep.1) (by rw [ao];exact ep.2) (by rw [ao];exact ac.nw0) (by rw [ao];exact ac.nw1)
  clear bw ay cd fd
  go_upto_region 10 with (first
   |(go_at_call 114;refine Am (Z1m b R1 x1 w6 B aw) ?_;rintro e w7 ⟨rfl,h7,b7,g7⟩;have ae:=Z0 h7;have f0:=Z0 (a0.trans b7);have ds:=Z0 (fj.out.grown g7);have e1:=Z0 (et.out.grown g7);clear h7 b7 g7))
  have n1:w7.cell? ⟨w.heap.size,1,Ab⟩=Ac (Aa O m.fr):=ds.out.cell 1;have c7:w7.cell? ⟨b,7,Ab⟩=Ac (Aa O R1.lone.n.ld):=ae.blk.cell 7;have f7:=ae.blk.free 7;have c9:w7.cell? ⟨b,9,Ab⟩=Ac (Aa O R1.n.nw):=ae.blk.cell 9;have gt:w7.cell? ⟨b,11,Ab⟩=Ac (Aa O R1.lone.n.hd):=ae.blk.cell 11;have f2:=ae.blk.free 11
  have ic:¬ w.heap.size+1=b:=by omega
  go_upto_region 12 with fail
  obtain ⟨w8,bd⟩:=exq ((w7.setCell ⟨b,7,Ab⟩ (Aa O m.fr)).setCell ⟨b,11,Ab⟩ (Aa O R1.n.nw))
  have ed:Ah (Ze w8 B b RA x1.lone):=by
   rw [bd,ao];exact (ae.set (r':={ R1.lone with n:={ R1.lone.n with ld:=m.fr } }) 7 _ rfl rfl rfl rfl rfl rfl rfl rfl).set 11 _
  have dd:w7.grownBy w8 (Ac b):=by rw [bd];exact Z8 (Rd.frame 7 _) (Rd.frame 11 _)
  have bx:Ah (Ai B w w8):=by rw [bd];exact (f0.setCell (p:=⟨b,7,Ab⟩) ae.lo _).setCell (p:=⟨b,11,Ab⟩) ae.lo _
  have eq:=Z0 (ds.out.grown dd);have ew:=Z0 (e1.out.grown dd);rw [<-bd];clear bd dd ao n1 c7 f7 c9 gt f2 ae f0 ds e1 aw a0 fj et k6
  go_upto_region 13 with (first
   |(go_at_call 115;refine Am (ey w8 x1.lone ed) ?_;rintro e wa ⟨rfl,ha,ba,ga⟩;have dh:=Z0 ha;have eh:=Z0 (bx.trans ba);have di:=Z0 (eq.out.grown ga);have bj:=Z0 (ew.out.grown ga);clear ha ba ga))
  have c4:wa.cell? ⟨b,4,Ab⟩=Ac (Aa O d.n.tm):=dh.blk.cell 4;have a3:wa.cell? ⟨w.heap.size+1,3,Ab⟩=Ac (Aa O 0):=bj.out.cell 3;have g3:=bj.out.free 3;have n4:wa.cell? ⟨w.heap.size,4,Ab⟩=Ac (Aa O m.li):=di.out.cell 4;have ie:¬ w.heap.size=w.heap.size+1:=by omega
  go_upto_region 15 with fail
  obtain ⟨wb,bp⟩:=exq (wa.setCell ⟨w.heap.size+1,3,Ab⟩ (Aa O d.n.tm));obtain ⟨X,hX⟩:=exq (x1.lone);have cf:Ah (X.L.length<=900):=by rw [hX];exact ev
  have bc:Ah (∀ g,X.vo.ownBlock=Ac g->g≠w.heap.size+1):=by rw [hX];exact λg e=>by have:=bh.out g e;omega
  have d0:∀ k,k≠w.heap.size+1->wb.heap[k]? = wa.heap[k]?:=λk hk=>by rw [bp];exact Ak _ _ _ _ hk
  have bm:Ah (Ze wb B b d X):=by rw [hX];exact dh.other bj.out (λg e=>by have:=bh.out g e;omega) (λk hk _=>d0 k hk)
  have ez:Ah (Ai B w wb):=by rw [bp];exact eh.setCell (p:=⟨w.heap.size+1,3,Ab⟩) (by show _<=w.heap.size+1;omega) _
  have cq:=Z0 (di.out.keep (d0 _ (by omega)));have dp:Ah (Blk wb (w.heap.size+1) (mqN 6 0 m.fr d.n.tm m.li 0 0 0 0 (I Ab 0 0)) 43):=by rw [bp];exact bj.out.set 3 _
  have fg:=dp.out.lt;rw [<-bp];clear bp hX d0 c4 a3 g3 n4 dh eh di bj bh ev ey ed bx eq ew;have it:=fl.ln;obtain ⟨la,lc,cc⟩:=bm.log.shape;have bv:=Z0 cc;have cy:Ah (Zh wb B (I la d.n.log.length lc) d.n.log):=by unfold Ah;rw [<-cc];exact bm.log
  have c12:wb.cell? ⟨b,12,Ab⟩=Ac (I la d.n.log.length lc):=by rw [<-cc];exact bm.blk.cell 12
  have n5:wb.cell? ⟨w.heap.size,5,Ab⟩=Ac (Aa O m.lt):=cq.out.cell 5;clear cc
  go_cut [106] (λs wx=>s=.bool (apB d.n m)/\Ai wb.heap.size wb wx)
  case first=>
   by_cases h1:(d.n.log.length:Int)<m.li
   ·have HV:Ah (apB d.n m=true):=by unfold Ah apB;rw [decide_eq_true h1];rfl
    have hd1:=decide_eq_true h1;generalize apB d.n m=VB at *;clear h1;go_quiet (fail)
    go_wp2_with fail
    go_meet;exact ⟨by rw [HV.out],bdr⟩
   ·have hd1:=decide_eq_false h1
    by_cases h2:0<m.li
    ·have cw:=decide_eq_true h2
     obtain ⟨q,hq⟩:∃ q:Nat,(q:Int)=m.li-1:=⟨(m.li-1).toNat,by omega⟩;have ab:IntKind.i64.wrap (m.li-1)=(q:Int):=wry
     have iw:(q:Int)<(d.n.log.length:Int):=by omega
     obtain ⟨lb,lo,rfl,ct⟩:=Z3d (cy.es (by unfold maxLen;omega)) q (by omega);obtain ⟨T,hT⟩:=exq ((d.n.log[q]'(by omega)).t)
     have HV:Ah (apB d.n m=(T != m.lt)):=by
      unfold Ah apB Zy;rw [hd1,cw,ifo,show m.li.toNat-1=q by omega,List.getElem?_eq_getElem (by omega),hT];rfl
     rw [<-hT] at ct;generalize apB d.n m=VB at *;clear h1 h2 hT hq;go_quiet (fail)
     go_wp2_with fail
     go_meet;exact ⟨by rw [HV.out],bdr⟩
    ·have cw:=decide_eq_false h2
     have HV:Ah (apB d.n m=false):=by unfold Ah apB;rw [hd1,cw];rfl
     generalize apB d.n m=VB at *;clear h1 h2;go_quiet (fail)
     go_wp2_with fail
     go_meet;exact ⟨by rw [HV.out],bdr⟩
  case rest=>
   obtain ⟨rfl,aq⟩:=hcut;obtain ⟨wd,d7⟩:=exq (wc);rw [<-d7] at aq;subst d7;have ak:=Z0 (bm.below aq);have b3:=Z0 (ez.trans (aq.mono (Ap an (by omega))));have d3:=Z0 (cq.out.below aq);have aj:=Z0 (dp.out.below aq fg);have fo:=Z0 (cy.below aq);have ee:=aj.out.lt;have c12:wd.cell? ⟨b,12,Ab⟩=Ac (I la d.n.log.length lc):=by rw [<-bv.out];exact ak.blk.cell 12
   clear aq n5 c12 bm ez cq dp cy fg;have c12:wd.cell? ⟨b,12,Ab⟩=Ac (I la d.n.log.length lc):=by rw [<-bv.out];exact ak.blk.cell 12
   go_upto_if 106 with fail
   by_cases hv:apB d.n m=true
   ·have ag:=Z0 (ai.trans (if_pos hv))
    have a8:wd.cell? ⟨w.heap.size+1,8,Ab⟩=Ac (Aa O 0):=aj.out.cell 8;have g8:=aj.out.free 8;have ab:=wrx (m.li-1)
    obtain ⟨MN,ar⟩:=exq (min (d.n.log.length:Int) (m.li-1));have av:Ah (∀ z,Calls Ad 55 #[Aa O (d.n.log.length:Int),Aa O (m.li-1)] z λe w'=>e=Aj (Aa O MN)/\w'=z):=λz=>by rw [ar];exact Xh _ _ z
    rw [<-ar] at ag;obtain ⟨w9,a5⟩:=exq (wd.setCell ⟨w.heap.size+1,8,Ab⟩ (Aa O MN));have g2:Ah (Blk w9 (w.heap.size+1) (mqN 6 0 m.fr d.n.tm m.li 0 0 0 MN (I Ab 0 0)) 43):=by rw [a5];exact aj.out.set 8 _
    have db:Ah (Ai B w w9):=by rw [a5];exact b3.setCell (p:=⟨w.heap.size+1,8,Ab⟩) (by show _<=w.heap.size+1;omega) _
    have dw:Ah (Ze w9 B b d X):=ak.other aj.out (bc) (λk hk _=>by rw [a5];exact Ak _ _ _ _ hk);have g9:Ah _:=Z0t b d X ⟨6,0,m.fr,d.n.tm,m.li,0,0,0,MN,[]⟩ Ab 0 w9 B dw (Zh.nil _ _) (by have:=cf.out;omega);have gs:=Z0 a5;have G2:=Z0 trivial;rw [hv];clear ar hv a5 ai
    go_wp2_with (first
     |(go_at_call 55;refine (av _).mono ?_;rintro e w' ⟨rfl,f4⟩;have em:=f4.symm;subst em)
     |(have bg:=G2;refine Zd 43 (.tmp 4) rfl ?_;clear bg;rw [<-gs.out];refine Z7 rfl 43 (.tmp 4) rfl (w.heap.size+1) rfl g2 underlying43 rfl Yc rfl ?_;clear G2)
     |(go_at_call 146;refine Am g9 ?_;rintro e wz ⟨v9,y9,rfl,a9,a6,-⟩;have dq:Ah _:=a9;have dm:=Z0 (db.trans a6);clear a9 a6))
    (try simp only [Av,Exit.then])
    exact A8 (Au rfl _ _ _) rfl ⟨_,rfl,by rw [ag.out];exact dq,dm.out⟩
   have fm:apB d.n m=false:=by simpa using hv
   rw [fm];obtain ⟨f,bo⟩:=exq (Y7 d.n.log m.li.toNat m.es);have ag:Ah (RP=if f<m.es.length/\m.li+(f:Nat)+1<=d.n.cm then d.stale else Rn.send { d with n:={ d.n with log:=if f<m.es.length then d.n.log.take (m.li.toNat+f) ++ m.es.drop f else d.n.log,cm:=max d.n.cm (min m.cm (m.li+m.es.length)) } } ⟨6,0,m.fr,d.n.tm,m.li+m.es.length,0,0,1,0,[]⟩):=by rw [bo];exact ai.trans (if_neg hv)
   have bb:m.li.toNat<=d.n.log.length:=by
    rcases B1 d.n.log.length m.li.toNat with h | h
    ·exact absurd ((apB_iff _ _ br).2 (.inl h)) hv
    ·exact h
   have hr:m.li.toNat+f<=d.n.log.length:=by rw [bo];exact parts_le _ _ _ bb
   have h4:f<=m.es.length:=by rw [bo];exact parts_le2 _ _ _
   have fz:Ah (∀ z,Ai wd.heap.size wd z->Calls Ad 151 #[Aw (ndC d.n X),Aw (m.arrC (I ea m.es.length ec))] z λe w'=>e=Aj (Aa O (f:Nat))/\Ai z.heap.size z w'):=λz hz=>by rw [bo];exact l4parts_run ak fl m ea ec z hz (da _ b3) h3 br fa
   have qn:∀ u:BW wd,Sem.run Ad (loadVar 36 ⟨b,0,Ab⟩) u.w=.ok (Aw (ndC d.n X)) u.w:=λu=>Z1s (ak.below u.h)
   have pn:∀ u:BW wd,Sem.run Ad (loadVar 43 ⟨w.heap.size,0,Ab⟩) u.w=.ok (Aw (m.arrC (I ea m.es.length ec))) u.w:=λu=>Z0e (d3.out.below u.h) 43 underlying43 rfl (by rw [Yc];rfl)
   have gv:Nonempty (BW wd):=⟨⟨wd,An _ _⟩⟩;clear ai hv fm bo c12
   go_upto_region 18 with fail
   refine rqx ?_
   repeat (first | (go_big_quiet_want;refine Jp (W:=wd) 36 (.tmp 122) rfl rfl qn ?_;go_big_quiet_on;simp only [Act.put,List.setIfInBounds_toArray,List.set_cons_zero,List.set_cons_succ]) | (go_big_quiet_want;refine Jp (W:=wd) 43 (.tmp 3) rfl rfl pn ?_;go_big_quiet_on;simp only [Act.put,List.setIfInBounds_toArray,List.set_cons_zero,List.set_cons_succ]) | go_big_quiet_step ((go_at_call 151;exact bwx (fz _ (BW.h _)))))
   refine wpQuiet_nil ?_;intro we i;have j:=Z0 (ak.below i);have az:=Z0 (b3.trans (i.mono (Ap an (by omega))));have bk:=Z0 (d3.out.below i);have b2:=Z0 (aj.out.below i ee);have de:=Z0 (fo.below i);have ip:=b2.out.lt;clear i ak b3 d3 aj fo ee qn pn gv fz;have n9:we.cell? ⟨w.heap.size,9,Ab⟩=Ac (I ea m.es.length ec):=bk.out.cell 9;obtain ⟨LG,cz⟩:=exq (if f<m.es.length then d.n.log.take (m.li.toNat+f) ++ m.es.drop f else d.n.log);rw [<-cz] at ag;have d2:=Z0 cz;obtain ⟨Q,hQ⟩:∃ Q:Nat,(Q:Int)=m.li+f:=⟨m.li.toNat+f,by omega⟩;have fb:Ah (m.li.toNat+f=Q):=by unfold Ah;omega
   clear cz
   go_upto_if 130 with fail
   go_cut [7,8,9] (λ_ _ _ wx=>∃ X5:RV,Ze wx B b { d with n:={ d.n with log:=LG } } X5/\X5.L.length<=900/\X5.vo=X.vo/\Ai B w wx/\Blk wx w.heap.size (m.arrC (I ea m.es.length ec)) 43/\Blk wx (w.heap.size+1) (mqN 6 0 m.fr d.n.tm m.li 0 0 0 0 (I Ab 0 0)) 43/\¬(f<m.es.length/\m.li+(f:Nat)+1<=d.n.cm))
   case first=>
    by_cases hp:f<m.es.length
    ·have dn:Ah (LG=d.n.log.take Q ++ m.es.drop f):=by unfold Ah;rw [d2.out,if_pos hp,fb.out]
     have gu:((f:Int)<(m.es.length:Int)):=by omega
     have ab:IntKind.i64.wrap (m.li+(f:Int))=m.li+(f:Int):=wry
     have h0:IntKind.i64.wrap (m.li+(f:Int)+1)=m.li+(f:Int)+1:=wry
     have f5:IntKind.i64.wrap (m.li+(f:Int)+1-1)=(Q:Int):=wry
     have c8:we.cell? ⟨b,8,Ab⟩=Ac (Aa O d.n.cm):=j.blk.cell 8;rw [show decide (f<m.es.length)=true from decide_eq_true hp];by_cases ej:m.li+(f:Int)+1<=d.n.cm
     ·have cj:=Z0 (ag.trans (if_pos ⟨hp,ej⟩))
      have hs:we.cell? ⟨b,19,Ab⟩=Ac (Aa O d.code):=j.blk.cell 19;have gz:=j.blk.free 19;clear ag hp
      go_wp2_with (fail)
      (try simp only [Av,Exit.then])
      refine A8 (Au rfl _ _ _) rfl ⟨X,rfl,?_,az.trans (j.setB 19 _)⟩;rw [cj.out];exact j.set 19 _
     have dg:Ah (¬(f<m.es.length/\m.li+(f:Nat)+1<=d.n.cm)):=λh=>ej h.2
     have c12:we.cell? ⟨b,12,Ab⟩=Ac (I la d.n.log.length lc):=by rw [<-bv.out];exact j.blk.cell 12
     have d9:=de.cap;have iz:Q<=lc:=by omega
     have fh:Ah (Es we (I la (m.li+(f:Int)).toNat lc) (d.n.log.take Q)):=by unfold Ah;rw [show (m.li+(f:Int)).toNat=Q by omega];exact (de.es (by unfold maxLen;omega)).take Q (by omega)
     have fy:Ah ((d.n.log.take Q).length=Q):=by unfold Ah;rw [List.length_take];omega
     have io:Q<=4096:=by omega
     clear d9
     go_upto_region 25 with (first
      |(go_at_call 102;refine (Z4q _ (d.n.log.take Q) _ fh (by rw [fy.out];omega)).mono ?_;rintro e wf ⟨v8,rfl,d5,f1⟩;obtain ⟨b8,n8,d8,gc⟩:∃ a n c,v8=I a n c:=(by obtain ⟨a,c,e⟩:=d5.shape;exact ⟨a,_,c,e⟩);subst gc;have gd:=Z0 d5;have bx:=Z0 f1;clear d5 f1))
     rename Ending.returned _=Ending.returned _=>hh
     cases hh;have HS:Ah (∀ k (h1:f<=k) (hk:k<m.es.length),(m.es.take (k+1)).drop f=(m.es.take k).drop f ++ [m.es[k]]):=λk h1 hk=>Z83 _ _ _ h1 hk
     have f3:Ah ((m.es.take f).drop f = []):=by unfold Ah;rw [List.drop_eq_nil_iff,List.length_take];omega
     have h8:Ah ((m.es.take m.es.length).drop f=m.es.drop f):=by unfold Ah;rw [List.take_length]
     have gq:=Z0 ((da _ az).2.1);clear ab h0 f5 c8 c12 fh
     go_loopw [8,9] (λs8 s9 wr=>∃ k:Nat,f<=k/\k<=m.es.length/\s9=Aa O (k:Int)/\Zh wr we.heap.size s8 (d.n.log.take Q ++ (m.es.take k).drop f)/\Ai we.heap.size we wr) (λ_ s9 _=>m.es.length-(intOf s9).toNat)
     case atStart=>exact ⟨f,Nat.le_refl _,by omega,rfl,by rw [f3.out,List.append_nil];exact gd,bx.out⟩
     case round=>
      obtain ⟨k,gw,i0,rfl,hO,hB⟩:=hrel;have HB:=Z0 hB;have hc:=hB.size;have ii:wr.cell? ⟨w.heap.size,9,Ab⟩=Ac (I ea m.es.length ec):=(bk.out.below hB).cell 9;obtain ⟨a3,n3,c3,rfl⟩:=hO.sl3;have HO:=Z0 hO;have ho:=Z0 (da _ (az.trans (hB.mono (Ap an (by omega)))));clear hO hB;by_cases d1:k<m.es.length
      ·have h5:(k:Int)<(m.es.length:Int):=by omega
       obtain ⟨eb,eo,rfl,fw⟩:=es_cells ho k d1;have hj:=gq.out m.es[k] (List.getElem_mem d1);have HN:=HS.out k gw d1;have f8:Ah _:=HN;obtain ⟨c0,c1,c2,iy,c4,c5,c6⟩:=fw;have iv:=Xp c0;have ff:(d.n.log.take Q ++ (m.es.take k).drop f).length<=1000000:=by rw [List.length_append,fy.out,List.length_drop,List.length_take];omega
       clear HN HS;generalize m.es[k]=e at *;have g5:Ah (∀(o:Obj) v' w',Ye (wr.alloc o) (I a3 n3 c3) w' v'->Ai we.heap.size we w'):=λo v' w' hg=>(HB.alloc hc _).trans (growE hg (HO.below baq) (by simp;omega))
       go_upto_region 27 with fail
       go_wp2_with (first
        |(at_builtin;refine Xv rfl (.tmp 162) (.tmp 168) rfl e hj (HO.below baq) rfl wr.heap.size 1 (Z8r wr e) rfl ff (by simp;omega) ?_;intro v' w' er hg;have hm:=Z0 er;have gi:=Z0 (g5 _ _ _ hg);clear er hg))
       go_roundw
       case rel=>
        exact ⟨k+1,by omega,by omega,by go_num,by rw [f8.out,<-List.append_assoc];exact hm.out,gi.out⟩
       case measure=>simp [intOf];omega
      ·obtain rfl:k=m.es.length:=by omega
       have h5:¬(m.es.length:Int)<(m.es.length:Int):=by omega
       have HF:Ah _:=j.logNew HB HO;have ix:wr.cell? ⟨b,12,Ab⟩=Ac X.vl:=(j.below HB).blk.cell 12;have ir:=(j.below HB).blk.free 12
       go_wp2_with fail
       go_meet;exact ⟨{ X with vl:=I a3 n3 c3 },by have h9:=HF.1;rw [h8.out] at h9;rw [dn.out];exact h9,cf.out,rfl,az.trans HF.2.1,bk.out.grown HF.2.2,b2.out.grown HF.2.2,dg.out⟩
    ·have dn:=Z0 (d2.trans (if_neg hp))
     have gu:¬((f:Int)<(m.es.length:Int)):=by omega
     have dg:Ah (¬(f<m.es.length/\m.li+(f:Nat)+1<=d.n.cm)):=λh=>hp h.1
     have H9:Ah (Ze we B b { d with n:={ d.n with log:=LG } } X):=by unfold Ah;rw [dn.out];exact j
     clear hp
     go_wp2_with fail
     go_meet;exact ⟨X,H9.out,cf.out,rfl,az.out,bk.out,b2.out,dg.out⟩
   case rest=>
    obtain ⟨X5,ce,ei,fu,cu,dt,dv,fq⟩:=hcut;obtain ⟨wf,fk⟩:=exq (wc);rw [<-fk] at ce cu dt dv;subst fk;obtain ⟨R5,au⟩:∃ R5:Rn,R5={ d with n:={ d.n with log:=LG } }:=⟨_,rfl⟩;have cj:Ah (RP=Rn.send { R5 with n:={ R5.n with cm:=max R5.n.cm (min m.cm (m.li+m.es.length)) } } ⟨6,0,m.fr,R5.n.tm,m.li+m.es.length,0,0,1,0,[]⟩):=by rw [au];exact ag.trans (if_neg fq)
    have d6:R5.n.tm=d.n.tm:=by rw [au]
    rw [<-au] at ce;have af:Ah (Blk wf (w.heap.size+1) (mqN 6 0 m.fr R5.n.tm m.li 0 0 0 0 (I Ab 0 0)) 43):=by unfold Ah;rw [d6];exact dv
    have dc:=Z0 ce;have ah:=Z0 cu;have ad:=Z0 dt;have hf:=Z0 ei;have go:Ah (∀ g,X5.vo.ownBlock=Ac g->g≠w.heap.size+1):=by unfold Ah;rw [fu];exact bc
    clear ce ei fu cu dt dv fq au d6 ag d2 fb hQ hr h4 bb j az bk b2 de n9 cf bc bv;obtain ⟨S5,eg⟩:=exq (m.li+(m.es.length:Int));obtain ⟨MN,ar⟩:=exq (min m.cm S5);obtain ⟨MX,dx⟩:=exq (max R5.n.cm MN);rw [<-eg,<-ar,<-dx] at cj;have ab:IntKind.i64.wrap (m.li+(m.es.length:Int))=S5:=wry
    have av:Ah (∀ z,Calls Ad 55 #[Aa O m.cm,Aa O S5] z λe w'=>e=Aj (Aa O MN)/\w'=z):=λz=>by rw [ar];exact Xh _ _ z
    have cn:Ah (∀ z,Calls Ad 94 #[Aa O R5.n.cm,Aa O MN] z λe w'=>e=Aj (Aa O MX)/\w'=z):=λz=>by rw [dx];exact Xt _ _ z
    have ek:=af.out.lt;have q8:∀ u:BW wf,u.w.cell? ⟨b,8,Ab⟩=Ac (Aa O R5.n.cm):=λu=>(dc.below u.h).blk.cell 8
    have p6:∀ u:BW wf,u.w.cell? ⟨w.heap.size,6,Ab⟩=Ac (Aa O m.cm):=λu=>(ad.out.below u.h).cell 6
    have p9:∀ u:BW wf,u.w.cell? ⟨w.heap.size,9,Ab⟩=Ac (I ea m.es.length ec):=λu=>(ad.out.below u.h).cell 9
    have gh:Nonempty (BW wf):=⟨⟨wf,An _ _⟩⟩;clear eg ar dx
    go_upto_region 29 with fail
    refine rlx ?_;simp only [List.dropLast_cons_cons,List.dropLast_singleton]
    repeat (first | go_big_quiet_step ((first | (go_at_call 55;refine (av _).mono ?_;rintro e w9 ⟨rfl,rfl⟩;exact ⟨rfl,⟨_,rfl⟩⟩) | (go_at_call 94;refine (cn _).mono ?_;rintro e w9 ⟨rfl,rfl⟩;exact ⟨rfl,⟨_,rfl⟩⟩))))
    refine wpQuiet_nil ?_;intro wg aa;have bq:=Z0 (dc.below aa);have eu:=Z0 (ah.trans (aa.mono (Ap an (by omega))));have fx:=Z0 (ad.out.below aa);have ef:=Z0 (af.out.below aa ek);refine J8 (.tmp 192) (.tmp 189) rfl rfl rfl (bq.blk.cell 8) (bq.blk.free 8) rfl ?_;obtain ⟨wh,bu⟩:=exq (wg.setCell ⟨b,8,Ab⟩ (Aa O MX));have d4:wg.grownBy wh (Ac b):=by rw [bu];exact Rd.frame 8 _
    have gy:Ah (Ze wh B b { R5 with n:={ R5.n with cm:=MX } } X5):=by rw [bu];exact bq.set 8 _
    have hn:Ah (Ai B w wh):=by rw [bu];exact eu.setCell (p:=⟨b,8,Ab⟩) bq.lo _
    have hw:=Z0 (fx.out.grown d4);have ax:=Z0 (ef.out.grown d4);rw [<-bu];clear bu d4 bq eu fx ef dc ah ad af q8 p6 p9 gh aa ek av cn;have a7:wh.cell? ⟨w.heap.size+1,7,Ab⟩=Ac (Aa O 0):=ax.out.cell 7;have g7:=ax.out.free 7;have a4:wh.cell? ⟨w.heap.size+1,4,Ab⟩=Ac (Aa O m.li):=ax.out.cell 4;have g4:=ax.out.free 4;have n9:wh.cell? ⟨w.heap.size,9,Ab⟩=Ac (I ea m.es.length ec):=hw.out.cell 9;obtain ⟨wi,bn⟩:=exq ((wh.setCell ⟨w.heap.size+1,7,Ab⟩ (Aa O 1)).setCell ⟨w.heap.size+1,4,Ab⟩ (Aa O S5));have f9:Ah (Blk wi (w.heap.size+1) (mqN 6 0 m.fr R5.n.tm S5 0 0 1 0 (I Ab 0 0)) 43):=by rw [bn];exact (ax.out.set 7 _).set 4 _
    have gj:Ah (Ai B w wi):=by rw [bn];exact (hn.setCell (p:=⟨w.heap.size+1,7,Ab⟩) (by show _<=w.heap.size+1;omega) _).setCell (p:=⟨w.heap.size+1,4,Ab⟩) (by show _<=w.heap.size+1;omega) _
    have gg:Ah (Ze wi B b { R5 with n:={ R5.n with cm:=MX } } X5):=gy.other ax.out go (λk hk _=>by rw [bn];exact (Ak _ _ _ _ hk).trans (Ak _ _ _ _ hk));have hu:Ah _:=Z0t b _ X5 ⟨6,0,m.fr,R5.n.tm,S5,0,0,1,0,[]⟩ Ab 0 wi B gg (Zh.nil _ _) (by have:=hf.out;omega);have gk:=Z0 bn;have G2:=Z0 trivial;clear bn
    go_wp2_with (first
     |(have bg:=G2;refine Zd 43 (.tmp 4) rfl ?_;clear bg;rw [<-gk.out];refine Z7 rfl 43 (.tmp 4) rfl (w.heap.size+1) rfl f9 underlying43 rfl Yc rfl ?_;clear G2)
     |(go_at_call 146;refine Am hu ?_;rintro e wz ⟨v9,y9,rfl,a9,a6,-⟩;have dq:Ah _:=a9;have dm:=Z0 (gj.trans a6);clear a9 a6))
    (try simp only [Av,Exit.then])
    exact bodyPost_end (Au rfl _ _ _) rfl ⟨_,rfl,by rw [cj.out];exact dq,dm.out⟩
end Go.Proofs.YtmmpoppgabadmaaGreat
